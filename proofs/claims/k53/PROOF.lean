import PyProof.Rows.All
import Wide.All
import OpenK.AllK
import Wide.FinOn
import Lean
import PyProof.EqAt
import PyProof.EqKinds
import PyProof.TupleCall
import PyProof.NeKinds
import KE.KSortTup
import KE.KItemsList
import KE.KPairComp
import KE.KDictOf
import PyProof.AttrMissHeap
import PySem.Challenge.RW_sashiko_k53_chests_apart
set_option Elab.async false
set_option linter.all false
set_option maxRecDepth 100000
namespace L2
open PySem PySem.Spec PyProof.Rows
abbrev Key:=Sum Int Str
def me:Key→Value→Bool
 | .inl k,v=>Value.isInt k v
 | .inr x,v=>Value.isStrOf x v
def El (w:World):Key→Int
 | .inl k=>hashInt k
 | .inr x=>hashStr w x
theorem cu:∀ {k:Key} {v:Value},me k v=true→(∃ i t,k=Sum.inl i∧v=Value.int i t)∨(∃ x t,k=Sum.inr x∧v=Value.str x t)
 | .inl i,v,h=>by
  obtain ⟨t,e⟩:=Value.isInt_shape (k:=i) (v:=v) h;exact .inl ⟨i,t,rfl,e⟩
 | .inr x,v,h=>by
  obtain ⟨t,e⟩:=Value.isStrOf_shape (x:=x) (v:=v) h;exact .inr ⟨x,t,rfl,e⟩
theorem vV (i:Int) (t:Tok):me (.inl i) (.int i t)=true:=by simp [me,Value.isInt]
theorem vW (x:Str) (t:Tok):me (.inr x) (.str x t)=true:=by simp [me,Value.isStrOf]
theorem Cb (a b:Int):decide ((Sum.inl a:Key)=Sum.inl b)=(a==b):=by
 by_cases e:a=b
 ·subst e; simp
 ·have h:¬ (Sum.inl a:Key)=Sum.inl b:=fun q=>e (Sum.inl.inj q);rw [decide_eq_false h];exact (beq_eq_false_iff_ne.mpr e).symm
theorem Ce (a b:Str):decide ((Sum.inr a:Key)=Sum.inr b)=decide (a=b):=by
 by_cases e:a=b
 ·subst e; simp
 ·have h:¬ (Sum.inr a:Key)=Sum.inr b:=fun q=>e (Sum.inr.inj q);rw [decide_eq_false h,decide_eq_false e]
theorem Cc (a:Int) (b:Str):decide ((Sum.inl a:Key)=Sum.inr b)=false:=decide_eq_false (fun q=>nomatch q)
theorem Cd (a:Str) (b:Int):decide ((Sum.inr a:Key)=Sum.inl b)=false:=decide_eq_false (fun q=>nomatch q)
def cB (prog:Program) (w:World):PySem.KeyKind prog w Key where
 is:=me
 hash:=El w
 inj:=fun v a b ha hb=>by
  rcases cu ha with ⟨i,t,rfl,rfl⟩ | ⟨x,t,rfl,rfl⟩
  ·rcases cu hb with ⟨j,u,rfl,e⟩ | ⟨y,u,rfl,e⟩
   ·injection e with e1 _; rw [e1]
   ·exact nomatch e
  ·rcases cu hb with ⟨j,u,rfl,e⟩ | ⟨y,u,rfl,e⟩
   ·exact nomatch e
   ·injection e with e1 _; rw [e1]
 byValue:=fun k v h=>by
  rcases cu h with ⟨i,t,rfl,rfl⟩ | ⟨x,t,rfl,rfl⟩<;>rfl
 pyHash:=fun hv h=>by
  rcases cu hv with ⟨i,t,rfl,rfl⟩ | ⟨x,t,rfl,rfl⟩
  ·exact wpAny_pyHash_int h
  ·exact wpAny_pyHash_str h
 eqBool:=fun hu hv h=>by
  rcases cu hu with ⟨i,t,rfl,rfl⟩ | ⟨x,t,rfl,rfl⟩
  ·rcases cu hv with ⟨j,u,rfl,rfl⟩ | ⟨y,u,rfl,rfl⟩
   ·rw [Cb] at h; exact wpAny_eqBool_int h
   ·rw [Cc] at h; exact SeqAt.EqAt.int_str i t y u _ _ _ _ h
  ·rcases cu hv with ⟨j,u,rfl,rfl⟩ | ⟨y,u,rfl,rfl⟩
   ·rw [Cd] at h; exact SeqAt.EqAt.str_int x t j u _ _ _ _ h
   ·rw [Ce] at h; exact wpAny_eqBool_str h
 «strs»:=fun k x t v h=>by
  rcases cu h with ⟨i,u,rfl,e⟩ | ⟨y,u,rfl,e⟩
  ·exact nomatch e
  ·injection e with e1 _;subst e1
   cases v<;>rfl
theorem sf (prog:Program) (w:World) (i:Int) (t:Tok):(cB prog w).is (.inl i) (.int i t)=true:=vV i t
theorem sg (prog:Program) (w:World) (x:Str) (t:Tok):(cB prog w).is (.inr x) (.str x t)=true:=vW x t
inductive V where
 | non | bl (b:Bool) | int (i:Int) | str (x:Str) | byt (b:Array UInt8) | flt (b:UInt64) | ref (a:Addr) | ty (n:String)
 deriving DecidableEq
def bG:V→Value→Prop
 | .non,u=>u=Value.none
 | .bl b,u=>u=Value.bool b
 | .int i,u=>∃ t,u=Value.int i t
 | .str x,u=>∃ t,u=Value.str x t
 | .byt b,u=>∃ t,u=Value.bytes b t
 | .flt b,u=>∃ t,u=Value.float b t
 | .ref a,u=>u=Value.ref a
 | .ty n,u=>u=Value.type n
abbrev aV:List V→List Value→Prop:=Paired bG
theorem aV.length {xs:List V} {us:List Value} (r:aV xs us):xs.length=us.length:=Paired.length r
theorem aV.get:∀ {xs:List V} {us:List Value} {i:Nat} {x:V},aV xs us→xs[i]?=some x→∃ u,us[i]?=some u∧bG x u
 | _,_,_,_,.nil,e=>by simp at e
 | _,_,0,_,.cons r _,e=>by simp at e; subst e; exact ⟨_,rfl,r⟩
 | _,_,i+1,x,.cons _ t,e=>by
  obtain ⟨u,h1,h2⟩:=aV.get (i:=i) (x:=x) t (by simpa using e);exact ⟨u,by simpa using h1,h2⟩
theorem aV.set {x:V} {u:Value} (r:bG x u):∀ {xs:List V} {us:List Value} (i:Nat),aV xs us→aV (xs.set i x) (us.set i u)
 | _,_,_,.nil=>.nil
 | _,_,0,.cons _ t=>.cons r t
 | _,_,i+1,.cons q t=>.cons q (aV.set r i t)
theorem aV.append:∀ {xs ys:List V} {us ws:List Value},aV xs us→aV ys ws→aV (xs++ys) (us++ws)
 | _,_,_,_,.nil,s=>s
 | _,_,_,_,.cons r t,s=>.cons r (aV.append t s)
theorem aV.take:∀ {xs:List V} {us:List Value} (n:Nat),aV xs us→aV (xs.take n) (us.take n)
 | _,_,0,_=>.nil
 | _,_,_+1,.nil=>.nil
 | _,_,n+1,.cons r t=>.cons r (aV.take n t)
theorem aV.drop:∀ {xs:List V} {us:List Value} (n:Nat),aV xs us→aV (xs.drop n) (us.drop n)
 | _,_,0,r=>r
 | _,_,_+1,.nil=>.nil
 | _,_,n+1,.cons _ t=>aV.drop n t
def fM:Option V→Option Value→Prop
 | some v,some u=>bG v u
 | none,none=>True
 | _,_=>False
def KV {κ:Type}:List (κ×V)→List (κ×Value)→Prop:=Paired fun (p:κ×V) (q:κ×Value)=>p.1=q.1∧bG p.2 q.2
def kV:Key→V
 | .inl i=>.int i
 | .inr x=>.str x
inductive HO where
 | lst (xs:List V)
 | tup (xs:List V)
 | dK (kvs:List (Key×V)) | dT (kvs:List (List Key×V))
 | set (S:Int→Bool) (n:Nat)
 | ins (C dx:Addr) (fs:List (Str×V))
 | own (x:Addr)
 | xd (fs:List (Str×V))
 | met (f x:Addr)
 | rng (lo hi:Int)
 | frz (o:Obj) (u:HO)
 | tbl (ps:Array Value)
 | ext (φ:Heap→Prop)
abbrev Hp:=Addr→Option HO
def upd (H:Hp) (a:Addr) (o:HO):Hp:=fun b=>if b=a then some o else H b
theorem ae {H:Hp} {a:Addr} {o:HO}:upd H a o a=some o:=by unfold upd; rw [if_pos rfl]
theorem au {H:Hp} {a b:Addr} {o:HO} (h:b≠a):upd H a o b=H b:=by unfold upd; rw [if_neg h]
theorem lN {H:Hp} {a:Addr} {o u:HO}:upd (upd H a o) a u=upd H a u:=by
 funext b; unfold upd; split<;>rfl
theorem dY {H:Hp} {a b:Addr} {o u:HO} (h:H a=some o) (h':H b=some u) (d:o≠u):a≠b:=by
 intro e; subst e; rw [h] at h'; exact d (Option.some.inj h')
theorem cy {H:Hp} {a b:Addr} {o:HO} (h:H a=some o) (h':H b=none):a≠b:=by
 intro e; subst e; rw [h] at h'; cases h'
section
variable (P:Program) (w:World)
def bM (H:Hp) (h:Heap) (a:Addr):HO→Prop
  | .lst xs => xs.length ≤ sizeLine ∧ ∃ (its : List Value) (n : Nat), aV xs its ∧ h.get? a = some { cls := .type "list", data := .seq its.toArray n }
  | .tup xs => xs.length ≤ sizeLine ∧ ∃ its : List Value, aV xs its ∧ IsTup h a its.toArray
  | .dK kvs => kvs.length ≤ sizeLine ∧ (a == sysModules) = false ∧ ∃ vs, KV kvs vs ∧ h.DictOf (cB P w) a vs
  | .dT kvs => kvs.length ≤ sizeLine ∧ (a == sysModules) = false ∧ ∃ xs : List (List Key × Addr × Value),
      Paired (fun (p:List Key×V) (q:List Key×Addr×Value)=>p.1=q.1∧H q.2.1=some (.tup (p.1.map kV))∧bG p.2 q.2.2) kvs xs ∧
      ∃ o es ep,h.get? a=some o∧o.ExactDict∧o.data=.dict es ep∧es.toList=xs.map (entryOfKey (tupleKind (cB P w)))∧(xs.map (·.1)).Nodup
  | .set S n => h.SetOf (intKind P w) a S n
  | .ins C dx fs => H dx = some (.own a) ∧ fs.length ≤ 1000 ∧ dx ≠ a ∧ h.get? a = some (W.instObj C dx) ∧
      ∃ mA,h.Ns1 dx mA∧(∀ f,fM (fs.lookup f) (mA f))∧PySem.Within mA (fs.map (·.1))
  | .own _ => ∃ o, h.get? a = some o
  | .xd fs => ∃ mA, h.Ns1 a mA ∧ ∀ f, fM (fs.lookup f) (mA f)
  | .rng lo hi => ∃ t u v, h.get? a = some { cls := .type "range", data := .fields #[.int lo t, .int hi u, .int 1 v] }
  | .frz o u => h.get? a = some o ∧ bM H h a u
  | .tbl ps => h.get? a = some { cls := .none, data := .fields ps }
  | .met f x => h.get? a = some (W.methodObj (.ref f) (.ref x))
  | .ext φ => φ h ∧ (∃ o, h.get? a = some o) ∧ ∀ h1 h2 : Heap, φ h1 → (∀ o, h1.get? a = some o → h2.get? a = some o) → φ h2
def HOk (H:Hp) (h:Heap):Prop:=∀ a o,H a=some o→bM P w H h a o
end
section
variable {P:Program} {w:World} {H H':Hp} {h h':Heap} {a:Addr} {o:HO}
theorem bM.lt (x:bM P w H h a o):a<h.objs.size:=by
 cases o with
 | lst xs=>obtain ⟨_,_,_,_,e⟩:=x; exact Heap.lt_size e
 | tup xs=>obtain ⟨_,_,_,p⟩:=x; exact p.lt
 | dK kvs=>obtain ⟨_,_,_,_,o,_,_,e,_⟩:=x; exact Heap.lt_size e
 | dT kvs=>obtain ⟨_,_,_,_,o,_,_,e,_⟩:=x; exact Heap.lt_size e
 | set S n=>obtain ⟨o,_,_,_,e,_⟩:=x; exact Heap.lt_size e
 | ins C dx fs=>obtain ⟨_,_,_,e,_⟩:=x; exact Heap.lt_size e
 | own y=>obtain ⟨_,e⟩:=x; exact Heap.lt_size e
 | xd fs=>obtain ⟨_,⟨_,_,_,e,_⟩,_⟩:=x; exact Heap.lt_size e
 | rng lo hi=>obtain ⟨_,_,_,e⟩:=x; exact Heap.lt_size e
 | frz ob u=>obtain ⟨e,_⟩:=x; exact Heap.lt_size e
 | tbl ps=>exact Heap.lt_size (show h.get? a=some _ from x)
 | met f y=>exact Heap.lt_size (show h.get? a=some _ from x)
 | ext φ=>obtain ⟨_,⟨_,e⟩,_⟩:=x; exact Heap.lt_size e
theorem Paired.mapP {α β:Type} {F G:α→β→Prop}:∀ {l₁:List α} {l₂:List β},Paired F l₁ l₂→(∀ a b,F a b→G a b)→Paired G l₁ l₂
 | _,_,.nil,_=>.nil
 | _,_,.cons r t,f=>.cons (f _ _ r) (Paired.mapP t f)
theorem bM.stay (x:bM P w H h a o) (k:∀ b u,(b=a∨H b=some (.own a))→h.get? b=some u→h'.get? b=some u)
  (ho:∀ b,H b=some (.own a)→H' b=some (.own a)) (ht:∀ b xs,H b=some (.tup xs)→H' b=some (.tup xs)):bM P w H' h' a o:=by
 induction o with
 | lst xs=>obtain ⟨z,its,n,r,e⟩:=x; exact ⟨z,its,n,r,k _ _ (.inl rfl) e⟩
 | tup xs=>obtain ⟨z,its,r,ob,e,c⟩:=x; exact ⟨z,its,r,ob,k _ _ (.inl rfl) e,c⟩
 | dK kvs=>obtain ⟨z,y,vs,r,ob,es,ep,e,c⟩:=x; exact ⟨z,y,vs,r,ob,es,ep,k _ _ (.inl rfl) e,c⟩
 | dT kvs =>
  obtain ⟨z,y,xs,r,ob,es,ep,e,c⟩:=x;exact ⟨z,y,xs,Paired.mapP r fun p q z=>⟨z.1,ht _ _ z.2.1,z.2.2⟩,ob,es,ep,k _ _ (.inl rfl) e,c⟩
 | set S n=>obtain ⟨ob,es,ep,t,e,c⟩:=x; exact ⟨ob,es,ep,t,k _ _ (.inl rfl) e,c⟩
 | ins C dx fs =>
  obtain ⟨d,z,ne,e,mA,⟨od,es,ep,e2,c⟩,r⟩:=x;exact ⟨ho _ d,z,ne,k _ _ (.inl rfl) e,mA,⟨od,es,ep,k _ _ (.inr d) e2,c⟩,r⟩
 | own y=>obtain ⟨ob,e⟩:=x; exact ⟨ob,k _ _ (.inl rfl) e⟩
 | xd fs=>obtain ⟨mA,⟨od,es,ep,e,c⟩,r⟩:=x; exact ⟨mA,⟨od,es,ep,k _ _ (.inl rfl) e,c⟩,r⟩
 | rng lo hi=>obtain ⟨t,u,v,e⟩:=x; exact ⟨t,u,v,k _ _ (.inl rfl) e⟩
 | frz ob u ih=>obtain ⟨e,q⟩:=x; exact ⟨k _ _ (.inl rfl) e,ih q⟩
 | tbl ps =>
  have e:h.get? a=some { cls:=.none,data:=.fields ps }:=x
  show h'.get? a=some { cls:=.none,data:=.fields ps }
  exact k a _ (.inl rfl) e
 | met f y =>
  have e:h.get? a=some (W.methodObj (.ref f) (.ref y)):=x
  show h'.get? a=some (W.methodObj (.ref f) (.ref y))
  exact k a _ (.inl rfl) e
 | ext φ=>obtain ⟨p,⟨o,e⟩,st⟩:=x; exact ⟨st _ _ p fun o q=>k _ _ (.inl rfl) q,⟨o,k _ _ (.inl rfl) e⟩,st⟩
theorem HOk.lt (x:HOk P w H h) (e:H a=some o):a<h.objs.size:=(x a o e).lt
theorem HOk.fresh (x:HOk P w H h) (e:h.objs.size≤a):H a=none:=by
 cases q:H a with
 | none=>rfl
 | some u=>exact absurd (Nat.lt_of_lt_of_le (x.lt q) e) (Nat.lt_irrefl _)
theorem HOk.kept (x:HOk P w H h) (k:∀ b u,h.get? b=some u→h'.get? b=some u):HOk P w H h':=fun a o e =>
 (x a o e).stay (fun b u _ q=>k b u q) (fun _ q=>q) fun _ _ q=>q
theorem HOk.laid (x:HOk P w H h) (k:∀ b u,h.get? b=some u→h'.get? b=some u) (hp:h.objs.size≤a) (new:bM P w (upd H a o) h' a o):HOk P w (upd H a o) h':=fun b u e=>by
 have hn:=x.fresh hp;by_cases hb:b=a
 ·subst hb; rw [ae] at e; cases e; exact new
 ·rw [au hb] at e;exact (x b u e).stay (fun c v _ q=>k c v q) (fun c q=>by rw [au (cy q hn)]; exact q) fun c xs q=>by rw [au (cy q hn)]; exact q
end
def Rd (H:Hp) (a:Addr) (u:HO):Prop:=H a=some u∨∃ o,H a=some (.frz o u)
theorem Rd.ok {P:Program} {w:World} {H:Hp} {h:Heap} {a:Addr} {u:HO} (r:Rd H a u) (x:HOk P w H h):bM P w H h a u:=by
 rcases r with r | ⟨o,r⟩
 ·exact x a u r
 ·obtain ⟨_,q⟩:=x a _ r;exact q
def Mut:Option HO→Prop
 | some (.lst _)=>True
 | some (.dK _)=>True
 | some (.dT _)=>True
 | some (.set _ _)=>True
 | some (.ins _ _ _)=>True
 | some (.ext _)=>True
 | _=>False
section
variable {P:Program} {w:World} {H:Hp} {h h':Heap} {x e:Addr} {o':HO}
theorem HOk.write (ok:HOk P w H h) (mu:Mut (H x)) (he:e=x∨H e=some (.own x)) (k:∀ b u,b≠e→h.get? b=some u→h'.get? b=some u) (heo:∃ u,h'.get? e=some u)
    (new:bM P w (upd H x o') h' x o'):HOk P w (upd H x o') h':=fun b u q=>by
  have nown:∀ c y,H c=some (.own y)→c≠x:=fun c y r z=>by subst z; rw [r] at mu; exact mu
  have ntup:∀ c xs,H c=some (.tup xs)→c≠x:=fun c xs r z=>by subst z; rw [r] at mu; exact mu
  by_cases hb:b=x
  · subst hb; rw [ae] at q; cases q; exact new
  · rw [au hb] at q
    by_cases hbe:b=e
    · have q':H b=some (.own x):=by
        rcases he with z | z
        · exact absurd (hbe.trans z) hb
        · rw [hbe]; exact z
      rw [q] at q'; cases q';obtain ⟨v,hv⟩:=heo;exact ⟨v,by rw [hbe]; exact hv⟩
    · refine (ok b u q).stay (fun c v hc r=>k c v ?_ r) (fun c r=>by rw [au (nown c b r)]; exact r) fun c xs r=>by rw [au (ntup c xs r)]; exact r
      rcases hc with rfl | hc
      · exact hbe
      · rintro rfl
        rcases he with z | z
        · exact nown c b hc z
        · rw [hc] at z; cases z; exact hb rfl
end
structure Un (fs ex:List Addr) (H H':Hp) (h h':Heap):Prop where
 keep:∀ b o,h.get? b=some o→H b=none→b∉fs→b∉ex→h'.get? b=some o
 slot:∀ b o,h.get? b=some o→H b=none→b∈fs→b∉ex→∃ sl,h'.get? b=some { o with slots:=sl }
 free:∀ b o,h.get? b=some o→H b=none→b∉ex→H' b=none
 there:∀ b o,h.get? b=some o→b∉ex→∃ o',h'.get? b=some o'
 tups:∀ b xs,H b=some (.tup xs)→H' b=some (.tup xs)
 frzs:∀ b o u,H b=some (.frz o u)→H' b=some (.frz o u)
 tbls:∀ b ps,H b=some (.tbl ps)→∃ more,H' b=some (.tbl (ps++more))
section
variable {fs fs' ex ex':List Addr} {H H1 H2:Hp} {h h1 h2 h':Heap} {a x e:Addr} {o:HO}
theorem Un.any (u:Un fs ex H H1 h h1) {b:Addr} {ob:Obj} (q:h.get? b=some ob) (n:H b=none) (hx:b∉ex):∃ sl,h1.get? b=some { ob with slots:=sl }:=by
 by_cases hb:b∈fs
 ·exact u.slot b ob q n hb hx
 ·exact ⟨ob.slots,u.keep b ob q n hb hx⟩
theorem Un.kept (k:∀ b u,h.get? b=some u→h'.get? b=some u):Un fs ex H H h h' :=
 ⟨fun b ob q _ _ _=>k b ob q,fun b ob q _ _ _=>⟨ob.slots,k b ob q⟩,fun _ _ _ n _=>n,fun b ob q _=>⟨ob,k b ob q⟩,fun _ _ q=>q,fun _ _ _ q=>q,fun _ ps q=>⟨#[],by rw [q]; simp⟩⟩
theorem Un.refl:Un fs ex H H h h:=Un.kept fun _ _ q=>q
theorem Un.laid (k:∀ b u,h.get? b=some u→h'.get? b=some u) (hp:h.objs.size≤a) (hn:H a=none):Un fs ex H (upd H a o) h h' where
 keep:=fun b u q _ _ _=>k b u q
 slot:=fun b u q _ _ _=>⟨u.slots,k b u q⟩
 free:=fun b u q n _=>by rw [au (Nat.ne_of_lt (Nat.lt_of_lt_of_le (Heap.lt_size q) hp))]; exact n
 there:=fun b u q _=>⟨u,k b u q⟩
 tups:=fun b xs q=>by rw [au (cy q hn)]; exact q
 frzs:=fun b u xs q=>by rw [au (cy q hn)]; exact q
 tbls:=fun b ps q=>⟨#[],by rw [au (cy q hn),q]; simp⟩
theorem Un.write (mu:Mut (H x)) (he:e=x∨H e=some (.own x)) (k:∀ b u,b≠e→h.get? b=some u→h'.get? b=some u) (heo:∃ u,h'.get? e=some u):Un fs ex H (upd H x o) h h':=by
 have hx:∀ b,H b=none→b≠x:=fun b n z=>by subst z; rw [n] at mu; exact mu
 have hb:∀ b,H b=none→b≠e:=fun b n z=>by
  subst z;rcases he with r | r
  ·exact hx b n r
  ·rw [n] at r; cases r
 have hm:∀ b u,H b=some u→¬ Mut (some u)→b≠x:=fun b u q nm z=>by subst z; rw [q] at mu; exact nm mu
 refine ⟨fun b u q n _ _=>k b u (hb b n) q,fun b u q n _ _=>⟨u.slots,k b u (hb b n) q⟩,fun b u q n _=>by rw [au (hx b n)]; exact n,fun b u q _=>?_,
  fun b xs q=>by rw [au (hm b _ q fun z=>z)]; exact q,fun b u xs q=>by rw [au (hm b _ q fun z=>z)]; exact q,fun b ps q=>⟨#[],by rw [au (hm b _ q fun z=>z),q]; simp⟩⟩
 by_cases hbe:b=e
 ·subst hbe; exact heo
 ·exact ⟨u,k b u hbe q⟩
end
def trk (h:Heap) (H:Hp):List Addr:=(List.range h.objs.size).filter fun a=>(H a).isSome
def pQ (h:Heap) (H:Hp):Heap:=W.hideAll h (trk h H)
theorem vT (h:Heap) (H:Hp):(pQ h H).objs.size=h.objs.size:=W.hideAll_size _ _
theorem xP {h:Heap} {H:Hp} {b:Addr} {o:Obj} (e:h.get? b=some o) (n:H b=none):(pQ h H).get? b=some o :=
 W.hideAll_get _ e fun hm=>by
  have q:(H b).isSome=true:=(List.mem_filter.mp hm).2;rw [n] at q; simp at q
theorem An {h:Heap} {H:Hp} {b:Addr} {o:Obj} (e:(pQ h H).get? b=some o):h.get? b=some o∧H b=none:=by
 have e':h.get? b=some o:=W.of_hideAll (trk h H) e;refine ⟨e',?_⟩
 cases q:H b with
 | none=>rfl
 | some x =>
  have hm:b∈trk h H:=List.mem_filter.mpr ⟨List.mem_range.mpr (Heap.lt_size e'),by simp [q]⟩;have z:(pQ h H).get? b=none:=W.hideAll_none (trk h H) hm;rw [z] at e; cases e
def zT (g h:Heap) (L:Addr):List (Addr×Obj):=(List.range h.objs.size).filterMap fun a=>if a=L∨(g.get? a).isSome=true then none else (h.get? a).map fun o=>(a,o)
def dw (g h:Heap) (L d:Addr):List (Addr×Obj):=(zT g h L).filter fun p=>decide (p.1≠d)
structure Mod (K:W.Frag) (mg:Str→Option Value) (base:Heap):Prop where
 kin:K.In base
 glob:base.Ns mainGlobals mg
 blt:∃ mb,base.Ns builtinsNs mb∧∀ x:Str,x≠"__name__"→mb x=bootBuiltins x
 nolimit:base.NoLimit
structure Cx where
 prog:Program
 w:World
 K:W.Frag
 mg:Str→Option Value
 base:Heap
 A:Around
 N:List Str
 s₀:Shared
 H₀:Hp
 env:Env
 outer:List Env
 stack:List Env
 ex:List Addr
 fn:Str→Bool
 calm:Bool
 pn:List (Addr×Obj)
 xe:Value→Shared→Prop
def frs (l:List Env):List Addr:=l.filterMap (·.frame)
abbrev Cx.fs (X:Cx):List Addr:=frs X.outer
def Vis (sc:Scope) (x:Str):Prop:=sc.names.lookup x=some .local∨sc.names.lookup x=some .cell∨sc.names.lookup x=some .free
def Loc (sc:Scope) (x:Str):Prop:=sc.names.lookup x=some .local∨sc.names.lookup x=some .cell
def Ef (env:Env) (h:Heap) (m:Str→Option Value) (x:Str) (u:Value):Prop :=
 (env.kindOf x=some .local∧m x=some u)∨((env.kindOf x=some .cell∨env.kindOf x=some .free)∧∃ c,env.cells.lookup x=some c∧h.IsCell c (some u))
structure Cx.Ok (X:Cx):Prop where
 mod:Mod X.K X.mg X.base
 kind:X.env.scope.kind=.function
 glob:X.env.globals=mainGlobals
 blt:X.env.builtins=builtinsNs
 above:X.s₀.heap.objs.size≤X.env.locals
 inj:∀ x y c,X.env.cells.lookup x=some c→X.env.cells.lookup y=some c→x=y
 has:∀ x,(X.env.kindOf x=some .cell∨X.env.kindOf x=some .free)→∃ c,X.env.cells.lookup x=some c
 cab:∀ x c,X.fn x=true→X.env.cells.lookup x=some c→X.s₀.heap.objs.size≤c
 hd:X.calm=true→X.A.handled=none
 frames:X.A.frames=some X.stack
 stk:X.stack=X.outer∨(X.stack=X.env::X.outer∧X.env.frame=some X.env.locals)
 exf:∀ b∈X.ex,b≠X.env.locals∧∀ x c,X.env.cells.lookup x=some c→c≠b
 bs:∀ b o,X.base.get? b=some o→X.s₀.heap.get? b=some o∧X.H₀ b=none
 bsz:X.base.objs.size≤X.s₀.heap.objs.size
 noex:∀ b o,X.base.get? b=some o→b∉X.ex
 exfs:∀ b∈X.ex,b∉X.fs
 funs:X.s₀.heap.FunFrames X.base X.outer
 frf:∀ b∈X.fs,X.H₀ b=none
structure Inv (X:Cx) (pins:List (Addr×Obj)) (σ:List (Option V)) (H:Hp) (s:Shared):Prop where
 ok:X.Ok
 os:s.os=X.s₀.os
 bare:AllBare s.gens
 base:Un X.fs X.ex X.H₀ H X.s₀.heap s.heap
 loc:∃ m,s.heap.Ns X.env.locals m∧∀ (i:Nat) (x:Str) (v:V),X.N[i]?=some x→σ[i]?=some (some v)→Vis X.env.scope x→∃ u,bG v u∧Ef X.env s.heap m x u
 cell:∀ x c,X.env.cells.lookup x=some c→∃ v,s.heap.IsCell c v
 free:H X.env.locals=none
 freeC:∀ x c,X.env.cells.lookup x=some c→H c=none
 pin:∀ p∈X.pn++pins,s.heap.get? p.1=some p.2∧H p.1=none∧p.1≠X.env.locals∧p.1∉X.fs∧∀ v,p.2.data≠.cell v
 hok:HOk X.prog X.w H s.heap
 len:σ.length=X.N.length
section
variable {X:Cx} {pins:List (Addr×Obj)} {σ:List (Option V)} {H H':Hp} {s:Shared} {h':Heap}
theorem Cx.Ok.nofr (ok:X.Ok) {b:Addr} {o:Obj} (e:X.base.get? b=some o):b∉X.fs:=fun hb=>by
 have:=(ok.funs.mem hb).1
 rw [e] at this; cases this
theorem Inv.bs (I:Inv X pins σ H s):∀ b o,X.base.get? b=some o→s.heap.get? b=some o∧H b=none:=fun b o e =>
 ⟨I.base.keep b o (I.ok.bs b o e).1 (I.ok.bs b o e).2 (I.ok.nofr e) (I.ok.noex b o e),I.base.free b o (I.ok.bs b o e).1 (I.ok.bs b o e).2 (I.ok.noex b o e)⟩
theorem Inv.bk (I:Inv X pins σ H s):∀ b o,X.base.get? b=some o→s.heap.get? b=some o:=fun b o e=>(I.bs b o e).1
theorem Inv.mod (I:Inv X pins σ H s):Mod X.K X.mg X.base:=I.ok.mod
theorem Inv.kIn (I:Inv X pins σ H s):X.K.In s.heap:=I.ok.mod.kin.keeps I.bk
theorem Inv.lt (I:Inv X pins σ H s):X.env.locals<s.heap.objs.size:=let ⟨_,hn,_⟩:=I.loc; hn.lt
theorem Inv.sz (I:Inv X pins σ H s):X.s₀.heap.objs.size≤s.heap.objs.size:=Nat.le_trans I.ok.above (Nat.le_of_lt I.lt)
theorem Inv.nofs (I:Inv X pins σ H s) {a:Addr} (h:s.heap.objs.size≤a):a∉X.fs:=fun hb=>by
 obtain ⟨_,o,ho,_⟩:=I.ok.funs.mem hb;exact absurd (Nat.lt_of_lt_of_le (Heap.lt_size ho) (Nat.le_trans I.sz h)) (Nat.lt_irrefl _)
theorem Inv.cne (I:Inv X pins σ H s):∀ x c,X.env.cells.lookup x=some c→c≠X.env.locals:=fun x c e z=>by
 obtain ⟨v,o,ho,hd⟩:=I.cell x c e;obtain ⟨m,⟨o',es,ep,ho',hd',_⟩,_⟩:=I.loc;rw [z,ho'] at ho; cases ho; rw [hd'] at hd; cases hd
theorem Inv.funs (I:Inv X pins σ H s):s.heap.FunFrames X.base X.outer:=by
 have all:∀ (l:List Env),(∀ b∈frs l,b∈X.fs)→X.s₀.heap.FunFrames X.base l→s.heap.FunFrames X.base l:=by
  intro l
  induction l with
  | nil => intro _ _; trivial
  | cons env r ih =>
   intro hs hl;obtain ⟨hk,⟨L,o,hf,hn,ho,hd⟩,hr⟩:=hl;have hL:L∈X.fs:=hs L (by unfold frs; rw [List.filterMap_cons,hf]; exact List.mem_cons_self);obtain ⟨sl,e⟩:=I.base.slot L o ho (I.ok.frf L hL) hL fun z=>I.ok.exfs L z hL;exact ⟨hk,⟨L,_,hf,hn,e,hd⟩,ih (fun b hb=>hs b (by unfold frs; rw [List.filterMap_cons,hf]; exact List.mem_cons_of_mem _ hb)) hr⟩
 exact all X.outer (fun _ hb=>hb) I.ok.funs
theorem Inv.stack (I:Inv X pins σ H s):s.heap.FunFrames X.base X.stack:=by
 rcases I.ok.stk with e | ⟨e,hf⟩
 ·rw [e]; exact I.funs
 ·rw [e];obtain ⟨m,hn,_⟩:=I.loc;refine .cons (by rw [I.ok.kind]; decide) hf hn ?_ I.funs;exact Heap.get?_none_of_le (Nat.le_trans I.ok.bsz I.ok.above)
theorem Inv.stkSub (I:Inv X pins σ H s):∀ b∈frs X.stack,b∈X.env.locals::X.fs:=fun b hb=>by
 rcases I.ok.stk with e | ⟨e,hf⟩
 ·rw [e] at hb; exact List.mem_cons_of_mem _ hb
 ·rw [e] at hb;unfold frs at hb;rw [List.filterMap_cons,hf] at hb;exact hb
theorem Inv.stkFree (I:Inv X pins σ H s):∀ b∈frs X.stack,H b=none:=fun b hb=>by
 rcases List.mem_cons.mp (I.stkSub b hb) with e | hb
 ·rw [e]; exact I.free
 ·obtain ⟨_,o,ho,_⟩:=I.ok.funs.mem hb;exact I.base.free b o ho (I.ok.frf b hb) fun z=>I.ok.exfs b z hb
theorem Inv.step {g':Array GenState} {t':Nat} {d':Drawn} {ch:List Addr} (I:Inv X pins σ H s)
  (hch:∀ b∈ch,(b∈X.ex∨X.s₀.heap.objs.size≤b)∧b≠X.env.locals∧(∀ x c,X.env.cells.lookup x=some c→c≠b)∧∀ p∈X.pn++pins,p.1≠b)
  (keep:∀ b o,b≠X.env.locals→b∉X.fs→b∉ch→s.heap.get? b=some o→H b=none→h'.get? b=some o)
  (slot:∀ b o,b≠X.env.locals→b∈X.fs→b∉ch→s.heap.get? b=some o→H b=none→∃ sl,h'.get? b=some { o with slots:=sl }) (free:∀ b o,b∉ch→s.heap.get? b=some o→H b=none→H' b=none)
  (there:∀ b o,b∉ch→s.heap.get? b=some o→∃ o',h'.get? b=some o')
  (tups:∀ b xs,H b=some (.tup xs)→H' b=some (.tup xs)) (frzs:∀ b o u,H b=some (.frz o u)→H' b=some (.frz o u)) (tbls:∀ b ps,H b=some (.tbl ps)→∃ more,H' b=some (.tbl (ps++more)))
  (ns:∀ m,s.heap.Ns X.env.locals m→h'.Ns X.env.locals m) (hok:HOk X.prog X.w H' h') (hg:AllBare g') :
  Inv X pins σ H' { s with heap:=h',gens:=g',drawn:=d',toks:=t' }:=by
 have neL:∀ b o,X.s₀.heap.get? b=some o→b≠X.env.locals:=fun b o e=>Nat.ne_of_lt (Nat.lt_of_lt_of_le (Heap.lt_size e) I.ok.above);have neC:∀ b o,X.s₀.heap.get? b=some o→b∉X.ex→b∉ch:=fun b o e hx hb=>by
  rcases (hch b hb).1 with z | z
  ·exact hx z
  ·exact absurd (Nat.lt_of_lt_of_le (Heap.lt_size e) z) (Nat.lt_irrefl _)
 have cellK:∀ x c,X.env.cells.lookup x=some c→∀ v,s.heap.IsCell c v→h'.IsCell c v:=fun x c e v ⟨o,ho,hd⟩=>by
  have nch:c∉ch:=fun z=>(hch c z).2.2.1 x c e rfl;by_cases hc:c∈X.fs
  ·obtain ⟨sl,q⟩:=slot c o (I.cne x c e) hc nch ho (I.freeC x c e);exact ⟨_,q,hd⟩
  ·exact ⟨o,keep c o (I.cne x c e) hc nch ho (I.freeC x c e),hd⟩
 refine ⟨I.ok,I.os,hg,⟨fun b o e n hb hx=>?_,fun b o e n hb hx=>?_,fun b o e n hx=>?_,fun b o e hx=>?_,fun b xs e=>tups b xs (I.base.tups b xs e),fun b o xs e=>frzs b o xs (I.base.frzs b o xs e),fun b ps e=>?_⟩,?_,fun x c e=>?_,?_,fun x c e=>?_,fun p hp=>?_,hok,I.len⟩
 ·exact keep b o (neL b o e) hb (neC b o e hx) (I.base.keep b o e n hb hx) (I.base.free b o e n hx)
 ·obtain ⟨sl,e1⟩:=I.base.slot b o e n hb hx;obtain ⟨sl',e2⟩:=slot b _ (neL b o e) hb (neC b o e hx) e1 (I.base.free b o e n hx);exact ⟨sl',e2⟩
 ·obtain ⟨o',e1⟩:=I.base.there b o e hx;exact free b o' (neC b o e hx) e1 (I.base.free b o e n hx)
 ·obtain ⟨o',e1⟩:=I.base.there b o e hx;exact there b o' (neC b o e hx) e1
 ·obtain ⟨m1,e1⟩:=I.base.tbls b ps e;obtain ⟨m2,e2⟩:=tbls b _ e1;exact ⟨m1++m2,by rw [e2,Array.append_assoc]⟩
 ·obtain ⟨m,hn,hl⟩:=I.loc;refine ⟨m,ns m hn,fun i x v e1 e2 e3=>?_⟩;obtain ⟨u,r,l⟩:=hl i x v e1 e2 e3;refine ⟨u,r,?_⟩;rcases l with l | ⟨k,c,e,z⟩
  ·exact .inl l
  ·exact .inr ⟨k,c,e,cellK x c e _ z⟩
 ·obtain ⟨v,z⟩:=I.cell x c e;exact ⟨v,cellK x c e v z⟩
 ·obtain ⟨m,⟨o,_,_,ho,_⟩,_⟩:=I.loc;exact free _ o (fun z=>(hch _ z).2.1 rfl) ho I.free
 ·obtain ⟨v,o,ho,hd⟩:=I.cell x c e;exact free c o (fun z=>(hch c z).2.2.1 x c e rfl) ho (I.freeC x c e)
 ·obtain ⟨e,n,ne,nf,d⟩:=I.pin p hp;have nch:p.1∉ch:=fun z=>(hch p.1 z).2.2.2 p hp rfl;exact ⟨keep p.1 p.2 ne nf nch e n,free p.1 p.2 nch e n,ne,nf,d⟩
theorem Inv.un {t':Nat} (I:Inv X pins σ H s) (u:Un X.fs [] H H' s.heap h') (hok:HOk X.prog X.w H' h'):Inv X pins σ H' { s with heap:=h',toks:=t' }:=by
 obtain ⟨m,⟨o,es,ep,ho,r⟩,_⟩:=id I.loc;obtain ⟨sl,hL⟩:=u.any ho I.free (by simp);exact I.step (g':=s.gens) (d':=s.drawn) (ch:=[]) (fun _ z=>nomatch z) (fun b o _ hb _ e n=>u.keep b o e n hb (by simp)) (fun b o _ hb _ e n=>u.slot b o e n hb (by simp)) (fun b o _ e n=>u.free b o e n (by simp)) (fun b o _ e=>u.there b o e (by simp)) u.tups u.frzs u.tbls (fun m' hm=>by
  obtain ⟨o',es',ep',ho',r'⟩:=hm;rw [ho] at ho'; cases ho';exact ⟨_,es',ep',hL,r'⟩) hok I.bare
theorem Inv.call {g':Array GenState} {t':Nat} {d':Drawn} {ch:List Addr} (I:Inv X pins σ H s) (u:Un (frs X.stack) ch H H' s.heap h') (hok:HOk X.prog X.w H' h') (hg:AllBare g')
  (hch:∀ b∈ch,(b∈X.ex∨X.s₀.heap.objs.size≤b)∧b≠X.env.locals∧(∀ x c,X.env.cells.lookup x=some c→c≠b)∧∀ p∈X.pn++pins,p.1≠b) :
  Inv X pins σ H' { s with heap:=h',gens:=g',drawn:=d',toks:=t' }:=by
 obtain ⟨m,⟨o,es,ep,ho,r⟩,_⟩:=id I.loc;obtain ⟨sl,hL⟩:=u.any ho I.free fun z=>(hch _ z).2.1 rfl;exact I.step (ch:=ch) hch (fun b o hL hb hc e n=>u.keep b o e n (fun z=>(List.mem_cons.mp (I.stkSub b z)).elim hL hb) hc) (fun b o _ _ hc e n=>u.any e n hc) (fun b o hc e n=>u.free b o e n hc) (fun b o hc e=>u.there b o e hc) u.tups u.frzs u.tbls (fun m' hm=>by
  obtain ⟨o',es',ep',ho',r'⟩:=hm;rw [ho] at ho'; cases ho';exact ⟨_,es',ep',hL,r'⟩) hok hg
theorem Inv.turned {t':Nat} {it:Addr} (I:Inv X pins σ H s) (k:∀ b o,b≠it→s.heap.get? b=some o→h'.get? b=some o) (hn:H it=none) (hL:it≠X.env.locals)
  (h1:it∈X.ex∨X.s₀.heap.objs.size≤it) (h2:∀ x c,X.env.cells.lookup x=some c→c≠it) (h3:∀ p∈X.pn++pins,p.1≠it):Inv X pins σ H { s with heap:=h',toks:=t' }:=by
 have nit:∀ b u,H b=some u→b≠it:=fun b u e z=>by rw [z,hn] at e; cases e
 refine I.step (g':=s.gens) (d':=s.drawn) (ch:=[it]) (fun b hb=>?_) (fun b o _ _ hc e _=>k b o (fun z=>hc (by simp [z])) e) (fun b o _ _ hc e _=>⟨o.slots,k b o (fun z=>hc (by simp [z])) e⟩) (fun _ _ _ _ n=>n)
  (fun b o hc e=>⟨o,k b o (fun z=>hc (by simp [z])) e⟩) (fun _ _ e=>e) (fun _ _ _ e=>e) (fun b ps e=>⟨#[],by rw [e]; simp⟩) (fun m hm=>?_) (fun b u e=>?_) I.bare
 ·have e:b=it:=by simpa using hb
  subst e;exact ⟨h1,hL,h2,h3⟩
 ·obtain ⟨o,es,ep,ho,r⟩:=hm;exact ⟨o,es,ep,k _ o (Ne.symm hL) ho,r⟩
 ·refine (I.hok b u e).stay (fun c v hc q=>k c v ?_ q) (fun _ q=>q) fun _ _ q=>q;rcases hc with z | z
  ·rw [z]; exact nit b u e
  ·exact nit c _ z
theorem Inv.tok (I:Inv X pins σ H s) (t:Nat):Inv X pins σ H { s with toks:=t }:=I.un (h':=s.heap) (t':=t) Un.refl I.hok
theorem Inv.kept {t':Nat} (I:Inv X pins σ H s) (k:∀ b u,s.heap.get? b=some u→h'.get? b=some u):Inv X pins σ H { s with heap:=h',toks:=t' }:=I.un (Un.kept k) (I.hok.kept k)
theorem Inv.laid {a:Addr} {o:HO} {t':Nat} (I:Inv X pins σ H s) (k:∀ b u,s.heap.get? b=some u→h'.get? b=some u) (hp:s.heap.objs.size≤a) (new:bM X.prog X.w (upd H a o) h' a o) :
  Inv X pins σ (upd H a o) { s with heap:=h',toks:=t' }:=I.un (Un.laid k hp (I.hok.fresh hp)) (I.hok.laid k hp new)
theorem Inv.write {x e:Addr} {o:HO} {t':Nat} (I:Inv X pins σ H s) (mu:Mut (H x)) (he:e=x∨H e=some (.own x)) (k:∀ b u,b≠e→s.heap.get? b=some u→h'.get? b=some u) (heo:∃ u,h'.get? e=some u)
  (new:bM X.prog X.w (upd H x o) h' x o):Inv X pins σ (upd H x o) { s with heap:=h',toks:=t' }:=I.un (Un.write mu he k heo) (I.hok.write mu he k heo new)
theorem Inv.pins_of {pins':List (Addr×Obj)} (I:Inv X pins σ H s) (h:∀ p∈pins',s.heap.get? p.1=some p.2∧H p.1=none∧p.1≠X.env.locals∧p.1∉X.fs∧∀ v,p.2.data≠.cell v):Inv X pins' σ H s :=
 ⟨I.ok,I.os,I.bare,I.base,I.loc,I.cell,I.free,I.freeC,fun p hp=>(List.mem_append.mp hp).elim (fun z=>I.pin p (List.mem_append_left _ z)) (h p),I.hok,I.len⟩
theorem mj {N:List Str} (hN:N.Nodup) {i j:Nat} {x:Str} (a:N[i]?=some x) (b:N[j]?=some x):i=j:=by
 obtain ⟨h1,e1⟩:=List.getElem?_eq_some_iff.mp a;obtain ⟨h2,e2⟩:=List.getElem?_eq_some_iff.mp b;exact (List.getElem_inj hN).mp (e1.trans e2.symm)
theorem wR {M:Model} {A:Around} {E:Value→Shared→Prop} {i:Nat} {x:Str} {v:V} {u:Value} {Q:Unit→Shared→Prop} (I:Inv X pins σ H s) (hN:X.N.Nodup) (hi:X.N[i]?=some x) (hx:Loc X.env.scope x) (r:bG v u)
    (h:∀ s',Inv X pins (σ.set i (some v)) H s'→(∃ a,Heap.SameBut a s.heap s'.heap∧(a=X.env.locals∨X.env.cells.lookup x=some a))→Q () s') (hf:X.fn x=true∨X.env.scope.names.lookup x=some .local:=by first | exact .inl rfl | exact .inr rfl | assumption):wpAny M A (storeName X.env x u) Q E s:=by
  obtain ⟨m,hn,hl⟩:=id I.loc;have hcls:(X.env.scope.kind==.class||(X.env.scope.kind==.module&&X.env.locals != X.env.globals))=false:=by rw [I.ok.kind]; rfl
  have hiσ:i<σ.length:=by rw [I.len]; exact (List.getElem?_eq_some_iff.mp hi).1
  have cne:=I.cne;have tracked:∀ {a:Addr} {h':Heap},(∃ o,s.heap.get? a=some o∧H a=none)→Heap.SameBut a s.heap h'→HOk X.prog X.w H h':=fun {a h'} ha hs b ob e=>by
    obtain ⟨_,_,hfree⟩:=ha;refine (I.hok b ob e).stay (fun c w' hc q=>(hs.2 c ?_).trans q) (fun _ q=>q) fun _ _ q=>q;rintro rfl;rcases hc with rfl | hc
    · rw [hfree] at e; cases e
    · rw [hfree] at hc; cases hc
  rcases hx with hk | hk
  · refine wpAny_storeName_local hk hn (fun h' hn' hs=>?_) hcls
    obtain ⟨oL,_,_,hoL,_⟩:=id hn;refine h _ ⟨I.ok,I.os,I.bare,⟨fun b o e n hb hx=>?_,fun b o e n hb hx=>?_,I.base.free,fun b o e hx=>?_,I.base.tups,I.base.frzs,I.base.tbls⟩,⟨_,hn',fun j y v' e1 e2 e3=>?_⟩,fun y c e=>?_,I.free,I.freeC,fun p hp=>?_,tracked ⟨oL,hoL,I.free⟩ hs,by simpa using I.len⟩ ⟨_,hs,.inl rfl⟩
    · exact (hs.2 b (Nat.ne_of_lt (Nat.lt_of_lt_of_le (Heap.lt_size e) I.ok.above))).trans (I.base.keep b o e n hb hx)
    · obtain ⟨sl,e1⟩:=I.base.slot b o e n hb hx
      exact ⟨sl,(hs.2 b (Nat.ne_of_lt (Nat.lt_of_lt_of_le (Heap.lt_size e) I.ok.above))).trans e1⟩
    · obtain ⟨o',e1⟩:=I.base.there b o e hx
      exact ⟨o',(hs.2 b (Nat.ne_of_lt (Nat.lt_of_lt_of_le (Heap.lt_size e) I.ok.above))).trans e1⟩
    · by_cases hj:j=i
      · subst hj
        rw [hi] at e1; cases e1;rw [List.getElem?_set_self hiσ] at e2
        cases e2;exact ⟨u,r,.inl ⟨hk,by simp⟩⟩
      · rw [List.getElem?_set_ne (Ne.symm hj)] at e2
        obtain ⟨u',r',q⟩:=hl j y v' e1 e2 e3;refine ⟨u',r',?_⟩;rcases q with ⟨k,e⟩ | ⟨k,c,e,z⟩
        · refine .inl ⟨k,?_⟩
          have:y≠x:=fun e=>hj (mj hN e1 (e ▸ hi))
          simp [this,e]
        · exact .inr ⟨k,c,e,z.sameBut hs (cne y c e)⟩
    · obtain ⟨w',z⟩:=I.cell y c e
      exact ⟨w',z.sameBut hs (cne y c e)⟩
    · obtain ⟨e,n,ne,nf,d⟩:=I.pin p hp
      exact ⟨(hs.2 p.1 ne).trans e,n,ne,nf,d⟩
  · have hfn:X.fn x=true:=by
      rcases hf with z | z
      · exact z
      · rw [z] at hk; cases hk
    obtain ⟨c,hc⟩:=I.ok.has x (.inl hk);obtain ⟨w',z⟩:=I.cell x c hc;refine wpAny_storeName_cell I.ok.kind hk hc z (fun h' hc' hs=>?_);obtain ⟨oc,hoc,hocd⟩:=id z;refine h { s with heap:=h' } ⟨I.ok,I.os,I.bare,⟨fun b o e n hb hx=>?_,fun b o e n hb hx=>?_,I.base.free,fun b o e hx=>?_,I.base.tups,I.base.frzs,I.base.tbls⟩,⟨m,hn.sameBut hs (Ne.symm (cne x c hc)),fun j y v' e1 e2 e3=>?_⟩,fun y c' e=>?_,I.free,I.freeC,fun p hp=>?_,tracked ⟨oc,hoc,I.freeC x c hc⟩ hs,by simpa using I.len⟩ ⟨c,hs,.inr hc⟩
    · exact (hs.2 b (Nat.ne_of_lt (Nat.lt_of_lt_of_le (Heap.lt_size e) (I.ok.cab x c hfn hc)))).trans (I.base.keep b o e n hb hx)
    · obtain ⟨sl,e1⟩:=I.base.slot b o e n hb hx
      exact ⟨sl,(hs.2 b (Nat.ne_of_lt (Nat.lt_of_lt_of_le (Heap.lt_size e) (I.ok.cab x c hfn hc)))).trans e1⟩
    · obtain ⟨o',e1⟩:=I.base.there b o e hx
      exact ⟨o',(hs.2 b (Nat.ne_of_lt (Nat.lt_of_lt_of_le (Heap.lt_size e) (I.ok.cab x c hfn hc)))).trans e1⟩
    · by_cases hj:j=i
      · subst hj
        rw [hi] at e1; cases e1;rw [List.getElem?_set_self hiσ] at e2
        cases e2;exact ⟨u,r,.inr ⟨.inl hk,c,hc,hc'⟩⟩
      · rw [List.getElem?_set_ne (Ne.symm hj)] at e2
        obtain ⟨u',r',q⟩:=hl j y v' e1 e2 e3;refine ⟨u',r',?_⟩;rcases q with q | ⟨k,c',e,z'⟩
        · exact .inl q
        · refine .inr ⟨k,c',e,z'.sameBut hs ?_⟩
          rintro rfl;exact hj (mj hN e1 (I.ok.inj _ _ _ e hc ▸ hi))
    · by_cases hcc:c'=c
      · subst hcc; exact ⟨_,hc'⟩
      · obtain ⟨w2,z2⟩:=I.cell y c' e
        exact ⟨w2,z2.sameBut hs hcc⟩
    · obtain ⟨e,n,ne,nf,d⟩:=I.pin p hp
      refine ⟨(hs.2 p.1 ?_).trans e,n,ne,nf,d⟩;intro q;rw [q,hoc] at e;have q':oc=p.2:=Option.some.inj e;exact d w' (by rw [← q']; exact hocd)
theorem gh {M:Model} {A:Around} {E:Value→Shared→Prop} {i:Nat} {x:Str} {v:V} {u:Value} {Q:Unit→Shared→Prop} (I:Inv X pins σ H s) (hN:X.N.Nodup) (hi:X.N[i]?=some x) (hx:Loc X.env.scope x) (r:bG v u)
  (h:∀ s',Inv X pins (σ.set i (some v)) H s'→Q () s') (hf:X.fn x=true∨X.env.scope.names.lookup x=some .local:=by first | exact .inl rfl | exact .inr rfl | assumption):wpAny M A (storeName X.env x u) Q E s :=
 wR I hN hi hx r (fun s' I' _=>h s' I') hf
theorem Inv.call' {s':Shared} {ch:List Addr} (I:Inv X pins σ H s) (ho:s'.os=s.os) (u:Un (frs X.stack) ch H H' s.heap s'.heap) (hok:HOk X.prog X.w H' s'.heap) (hg:AllBare s'.gens)
  (hch:∀ b∈ch,(b∈X.ex∨X.s₀.heap.objs.size≤b)∧b≠X.env.locals∧(∀ x c,X.env.cells.lookup x=some c→c≠b)∧∀ p∈X.pn++pins,p.1≠b):Inv X pins σ H' s':=by
 obtain ⟨h',g',d',t',o'⟩:=s';have e:o'=s.os:=ho;subst e;exact I.call (g':=g') (t':=t') (d':=d') u hok hg hch
end
abbrev XK:=Value→Option Addr→Hp→Prop
abbrev St:=List (Option V)
abbrev VK:=V→Hp→Prop
abbrev TE:=St→Hp→VK→Prop
abbrev TT:=St→Hp→(Bool→Hp→Prop)→Prop
abbrev TA:=St→Hp→(List V→Hp→Prop)→Prop
structure cZ where
 nx:St→Hp→Prop
 rt:VK
 bk:St→Hp→Prop:=fun _ _=>False
 ct:St→Hp→Prop:=fun _ _=>False
abbrev TS:=cZ→St→Hp→Prop
def EP (X:Cx) (pins:List (Addr×Obj)) (σ:St) (Q:VK) (u:Value) (s':Shared):Prop:=∃ v H',Inv X pins σ H' s'∧bG v u∧Q v H'
def TP (X:Cx) (pins:List (Addr×Obj)) (σ:St) (Q:Bool→Hp→Prop) (b:Bool) (s':Shared):Prop:=∃ H',Inv X pins σ H' s'∧Q b H'
def AP (X:Cx) (pins:List (Addr×Obj)) (σ:St) (Q:List V→Hp→Prop) (us:List Value) (s':Shared):Prop:=∃ vs H',Inv X pins σ H' s'∧aV vs us∧Q vs H'
def SP (X:Cx) (pins:List (Addr×Obj)) (D:cZ) (f:Flow) (s':Shared):Prop :=
 match f with
 | .next=>∃ σ' H',Inv X pins σ' H' s'∧D.nx σ' H'
 | .brk=>∃ σ' H',Inv X pins σ' H' s'∧D.bk σ' H'
 | .cont=>∃ σ' H',Inv X pins σ' H' s'∧D.ct σ' H'
 | .ret u=>∃ v σ' H',Inv X pins σ' H' s'∧bG v u∧D.rt v H'
def PE (X:Cx) (e:Expr) (t:TE):Prop :=
 ∀ (pins:List (Addr×Obj)) (s:Shared) (σ:St) (H:Hp) (Q:VK),Inv X pins σ H s→t σ H Q→wpAny (model X.prog X.w) X.A (eval e X.env) (EP X pins σ Q) X.xe s
def PT (X:Cx) (e:Expr) (t:TT):Prop :=
 ∀ (pins:List (Addr×Obj)) (s:Shared) (σ:St) (H:Hp) (Q:Bool→Hp→Prop),Inv X pins σ H s→t σ H Q→wpAny (model X.prog X.w) X.A (isTrue e X.env (eval e X.env)) (TP X pins σ Q) X.xe s
def PW (X:Cx) (e:Expr) (t:TT):Prop :=
 ∀ (whole:Sem Value) (pins:List (Addr×Obj)) (s:Shared) (σ:St) (H:Hp) (Q:Bool→Hp→Prop),Inv X pins σ H s→t σ H Q→wpAny (model X.prog X.w) X.A (isTrue e X.env whole) (TP X pins σ Q) X.xe s
theorem PW.pt {X:Cx} {e:Expr} {t:TT} (h:PW X e t):PT X e t:=h _
def PA (X:Cx) (es:List Expr) (t:TA):Prop :=
 ∀ (pos:Pos) (pins:List (Addr×Obj)) (s:Shared) (σ:St) (H:Hp) (Q:List V→Hp→Prop),Inv X pins σ H s→t σ H Q→wpAny (model X.prog X.w) X.A (spliced (backTo pos (starEach es X.env))) (AP X pins σ Q) X.xe s
def PS (X:Cx) (st:Stmt) (t:TS):Prop :=
 ∀ (pins:List (Addr×Obj)) (s:Shared) (σ:St) (H:Hp) (D:cZ),Inv X pins σ H s→t D σ H→wpAny (model X.prog X.w) X.A (exec st X.env) (SP X pins D) X.xe s
def PSs (X:Cx) (st:List Stmt) (t:TS):Prop :=
 ∀ (pins:List (Addr×Obj)) (s:Shared) (σ:St) (H:Hp) (D:cZ),Inv X pins σ H s→t D σ H→wpAny (model X.prog X.w) X.A (execs st X.env) (SP X pins D) X.xe s
theorem thn {α:Type} {t:Sem α} {Q Q':α→Shared→Prop} {M:Model} {A:Around} {E:Value→Shared→Prop} {s:Shared} (h:wpAny M A t Q E s) (hQ:∀ a s,Q a s→Q' a s):wpAny M A t Q' E s:=wpAny_mono h hQ fun _ _ x=>x
section
variable {X:Cx}
def Df (i:Nat):TE:=fun σ H Q=>∃ v,σ[i]?=some (some v)∧Q v H
def tC (v:V):TE:=fun _ H Q=>Q v H
theorem Cs {i:Nat} {x:Str} {pos:Pos} (hN:X.N[i]?=some x) (hv:Vis X.env.scope x) (hd:(x==("__debug__":Str))=false:=by decide) (hcd:(x==("__classdict__":Str))=false:=by decide):PE X (.Name x pos) (Df i):=by
 intro pins s σ H Q I h;obtain ⟨v,e,h⟩:=h;obtain ⟨m,hn,hl⟩:=I.loc;obtain ⟨u,r,l⟩:=hl i x v hN e hv;have fin:EP X pins σ Q u s:=⟨v,H,I,r,h⟩
 rcases l with ⟨hk,hm⟩ | ⟨hk,c,hc,hcell⟩
 ·exact wpAny_Name (wpAny_loadName_local I.ok.kind hk hn hm fin) hd
 ·rcases hk with hk | hk
  ·exact wpAny_Name (wpAny_loadName_cell I.ok.kind hk hc hcell fin) hd
  ·exact wpAny_Name (wpAny_loadName_free I.ok.kind hk hc hcell fin hcd) hd
theorem ag {i j pos}:PE X (.Constant (.int i) j pos) (tC (.int i)):=fun _ _ _ H _ I h=>wpAny_Constant_int ⟨.int i,H,I.tok _,⟨_,rfl⟩,h⟩
theorem h8 {b j pos}:PE X (.Constant (.bool b) j pos) (tC (.bl b)):=fun _ _ _ H _ I h=>Constant_bool ⟨.bl b,H,I,rfl,h⟩
theorem eA {j pos}:PE X (.Constant .none j pos) (tC .non):=fun _ _ _ H _ I h=>Constant_none ⟨.non,H,I,rfl,h⟩
theorem av {x j pos}:PE X (.Constant (.str x) j pos) (tC (.str x)):=fun _ _ _ H _ I h=>Calls.Constant_str ⟨.str x,H,I.tok _,⟨_,rfl⟩,h⟩
def Gl (X:Cx) (x:Str):Prop:=X.env.kindOf x=some .globalImplicit
theorem fc {E:Value→Shared→Prop} {pins:List (Addr×Obj)} {s:Shared} {σ:St} {H:Hp} {x:Str} {u:Value} {pos:Pos} {Q:Value→Shared→Prop} (I:Inv X pins σ H s) (hg:Gl X x) (hm:X.mg x=some u) (h:Q u s)
  (hd:(x==("__debug__":Str))=false:=by decide):wpAny (model X.prog X.w) X.A (eval (.Name x pos) X.env) Q E s :=
 Calls.Name_function_global I.ok.kind hg (Calls.loadGlobal_global (by rw [I.ok.glob]; exact I.mod.glob.keeps I.bk) hm h) hd
theorem kj {E:Value→Shared→Prop} {pins:List (Addr×Obj)} {s:Shared} {σ:St} {H:Hp} {x:Str} {u:Value} {pos:Pos} {Q:Value→Shared→Prop} (I:Inv X pins σ H s) (hg:Gl X x) (hm:X.mg x=none) (hv:bootBuiltins x=some u) (h:Q u s)
  (hn:x≠"__name__":=by decide) (hd:(x==("__debug__":Str))=false:=by decide):wpAny (model X.prog X.w) X.A (eval (.Name x pos) X.env) Q E s:=by
 obtain ⟨mb,h1,h2⟩:=I.mod.blt;exact Calls.Name_function_global I.ok.kind hg (Calls.loadGlobal_builtin (by rw [I.ok.glob]; exact I.mod.glob.keeps I.bk) hm (by rw [I.ok.blt]; exact h1.keeps I.bk) ((h2 x hn).trans hv) h) hd
theorem dA {x:Str} {v:V} {u:Value} {pos:Pos} (hg:Gl X x) (hm:X.mg x=some u) (r:bG v u) (hd:(x==("__debug__":Str))=false:=by decide):PE X (.Name x pos) (tC v) :=
 fun _ _ _ H _ I h=>fc I hg hm ⟨v,H,I,r,h⟩ hd
theorem cT {x:Str} {v:V} {u:Value} {pos:Pos} (hg:Gl X x) (hm:X.mg x=none) (hv:bootBuiltins x=some u) (r:bG v u) (hn:x≠"__name__":=by decide) (hd:(x==("__debug__":Str))=false:=by decide):PE X (.Name x pos) (tC v) :=
 fun _ _ _ H _ I h=>kj I hg hm hv ⟨v,H,I,r,h⟩ hn hd
variable {a b:Expr} {ta tb:TE} {pos:Pos}
def PC (X:Cx) (op:CmpOp) (a b:Expr) (t:TE):Prop :=
 ∀ (pins:List (Addr×Obj)) (s:Shared) (σ:St) (H:Hp) (Q:VK),Inv X pins σ H s→t σ H Q →
  wpAny (model X.prog X.w) X.A (eval a X.env) (fun v s₁=>wpAny (model X.prog X.w) X.A (eval b X.env) (fun u s₂=>wpAny (model X.prog X.w) X.A (compareOp op v u) (EP X pins σ Q) X.xe s₂) X.xe s₁) X.xe s
def tB (t:TE):TT:=fun σ H Q=>t σ H fun x H1=>∃ c,x=.bl c∧Q c H1
theorem ib {op:CmpOp} {t:TE} (h:PC X op a b t) (h1:behindInMarks op b=false:=by first | exact nobehind _ (by decide) (by decide) | rfl):PT X (.Compare a [op] [b] pos) (tB t):=by
 intro pins s σ H Q I hw;refine wpAny_isTrue_Compare1 (thn (h pins s σ H _ I hw) fun v s1 h1=>thn h1 fun u s2 h2=>thn h2 fun c s3 ⟨x,H1,I1,r1,q1⟩=>?_) h1;obtain ⟨d,rfl,q⟩:=q1
 cases r1;exact wpAny_truthy_bool ⟨H1,I1,q⟩
theorem bS {e:Expr} {t:TE} (h:PE X e t) (he:∀ whole,isTrue e X.env whole=(do let v ← whole; standAt e.pos; holding [v] (truthy v)):=by intro _; rfl):PT X e (tB t):=by
 intro pins s σ H Q I hw;refine isTrue_plain (thn (h pins s σ H _ I hw) fun v s1 ⟨x,H1,I1,r1,q1⟩=>?_) (he _);obtain ⟨d,rfl,q⟩:=q1
 cases r1;exact wpAny_truthy_bool ⟨H1,I1,q⟩
variable {tA tB':TT} {dw:List Expr}
def DZ (t u:TT):TT:=fun σ H Q=>t σ H fun c H1=>if c=true then u σ H1 Q else Q false H1
def tOr (t u:TT):TT:=fun σ H Q=>t σ H fun c H1=>if c=true then Q true H1 else u σ H1 Q
def D5 (t:TT):TT:=fun σ H Q=>t σ H fun c H1=>Q (!c) H1
theorem eJ (ha:PT X a tA):PW X (.BoolOp .And [a] pos) tA:=by
 intro wh pins s σ H Q I h;refine isTrue_and (thn (ha pins s σ H Q I h) fun c s1 e=>?_)
 cases c with
 | true=>exact isTrue_and_nil e
 | false=>exact e
theorem gI (ha:PT X a tA):PW X (.BoolOp .Or [a] pos) tA:=by
 intro wh pins s σ H Q I h;refine isTrue_or (thn (ha pins s σ H Q I h) fun c s1 e=>?_)
 cases c with
 | false=>exact isTrue_or_nil e
 | true=>exact e
theorem eR (ha:PT X a tA) (hb:PW X (.BoolOp .And (b::dw) pos) tB'):PW X (.BoolOp .And (a::b::dw) pos) (DZ tA tB'):=by
 intro wh pins s σ H Q I h;refine isTrue_and (thn (ha pins s σ H _ I h) fun c s1 ⟨H1,I1,q1⟩=>?_)
 cases c with
 | true=>exact hb wh pins s1 σ H1 Q I1 q1
 | false=>exact ⟨H1,I1,q1⟩
theorem jb (ha:PT X a tA) (hb:PW X (.BoolOp .Or (b::dw) pos) tB'):PW X (.BoolOp .Or (a::b::dw) pos) (tOr tA tB'):=by
 intro wh pins s σ H Q I h;refine isTrue_or (thn (ha pins s σ H _ I h) fun c s1 ⟨H1,I1,q1⟩=>?_)
 cases c with
 | true=>exact ⟨H1,I1,q1⟩
 | false=>exact hb wh pins s1 σ H1 Q I1 q1
theorem cJ (ha:PT X a tA):PT X (.UnaryOp .Not a pos) (D5 tA):=by
 intro pins s σ H Q I h;exact isTrue_not (ha pins s σ H (fun c H1=>Q (!c) H1) I h)
def BC (ta tb:TE):TE:=fun σ H Q=>ta σ H fun x H1=>∃ c,x=.bl c∧if c=true then tb σ H1 Q else Q (.bl false) H1
def BJ (ta:TE):TE:=fun σ H Q=>ta σ H fun x H1=>∃ c,x=.bl c∧Q (.bl (!c)) H1
theorem jj {op} {t:TE} (h:PE X a t):PE X (.BoolOp op [a] pos) t:=fun pins s σ H Q I hw=>BoolOp_one (h pins s σ H Q I hw)
theorem ji (ha:PE X a ta) (hb:PE X (.BoolOp .And (b::dw) pos) tb):PE X (.BoolOp .And (a::b::dw) pos) (BC ta tb):=by
 intro pins s σ H Q I h;refine BoolOp_and (thn (ha pins s σ H _ I h) fun v s1 ⟨x,H1,I1,r1,q1⟩=>?_);obtain ⟨c,rfl,q1⟩:=q1
 cases r1;refine wpAny_truthy_bool ?_
 cases c with
 | true=>exact hb pins s1 σ H1 Q I1 q1
 | false=>exact ⟨.bl false,H1,I1,rfl,q1⟩
theorem Cr (ha:PE X a ta):PE X (.UnaryOp .Not a pos) (BJ ta):=by
 intro pins s σ H Q I h;refine UnaryOp_ (thn (ha pins s σ H _ I h) fun v s1 ⟨x,H1,I1,r1,q1⟩=>?_);obtain ⟨c,rfl,q1⟩:=q1
 cases r1;exact not_of (wpAny_truthy_bool ⟨.bl (!c),H1,I1,rfl,q1⟩)
end
def SqL (K:W.Frag) (H:Hp) (a:Addr) (xs:List V):Prop :=
 Rd H a (.lst xs) ∨
  ∃ (o:Obj) (its:Array Value) (n:Nat),K.lookup a=some o∧o.cls=.type "list"∧o.dict=none∧o.data=.seq its n∧its.size≤sizeLine∧aV xs its.toList
def SqT (K:W.Frag) (H:Hp) (a:Addr) (xs:List V):Prop :=
 Rd H a (.tup xs) ∨
  ∃ (o:Obj) (its:Array Value) (n:Nat),K.lookup a=some o∧o.cls=.type "tuple"∧o.data=.seq its n∧its.size≤sizeLine∧aV xs its.toList
def Ei:Value→Option V
 | .none=>some .non
 | .bool b=>some (.bl b)
 | .int i _=>some (.int i)
 | .str x _=>some (.str x)
 | .bytes b _=>some (.byt b)
 | .float b _=>some (.flt b)
 | .ref a=>some (.ref a)
 | .type n=>some (.ty n)
 | _=>none
theorem bG.abs {x:V} {u:Value} (r:bG x u):Ei u=some x:=by
 cases x with
 | non=>cases r; rfl
 | bl _=>cases r; rfl
 | int _=>obtain ⟨t,rfl⟩:=r; rfl
 | str _=>obtain ⟨t,rfl⟩:=r; rfl
 | byt _=>obtain ⟨t,rfl⟩:=r; rfl
 | flt _=>obtain ⟨t,rfl⟩:=r; rfl
 | ref _=>cases r; rfl
 | ty _=>cases r; rfl
theorem bG.inj {x y:V} {u:Value} (r:bG x u) (q:bG y u):x=y:=Option.some.inj (r.abs.symm.trans q.abs)
theorem aV.inj:∀ {xs ys:List V} {us:List Value},aV xs us→aV ys us→xs=ys
 | _,_,_,.nil,.nil=>rfl
 | _,_,_,.cons r t,.cons r' t'=>by rw [r.inj r',aV.inj t t']
section
variable {X:Cx} {pins:List (Addr×Obj)} {σ:St} {H:Hp} {s:Shared} {a:Addr} {xs ys:List V}
theorem SqL.of {K:W.Frag} (h:H a=some (.lst xs)):SqL K H a xs:=.inl (.inl h)
theorem SqT.of {K:W.Frag} (h:H a=some (.tup xs)):SqT K H a xs:=.inl (.inl h)
theorem Inv.list (I:Inv X pins σ H s) (h:SqL X.K H a xs):∃ its:List Value,aV xs its∧PlainL s.heap a its.toArray∧xs.length≤sizeLine:=by
 rcases h with h | ⟨o,its,n,hk,hc,hd,hs,hz,r⟩
 ·obtain ⟨z,its,n,r,e⟩:=h.ok I.hok;exact ⟨its,r,⟨_,n,e,rfl,rfl,rfl⟩,z⟩
 ·refine ⟨its.toList,r,⟨o,n,I.kIn a o hk,hc,hd,by simpa using hs⟩,?_⟩;have e:=r.length;simp only [Array.length_toList] at e;omega
theorem Inv.tuple (I:Inv X pins σ H s) (h:SqT X.K H a xs):∃ its:List Value,aV xs its∧IsTup s.heap a its.toArray∧xs.length≤sizeLine:=by
 rcases h with h | ⟨o,its,n,hk,hc,hs,hz,r⟩
 ·obtain ⟨z,its,r,p⟩:=h.ok I.hok;exact ⟨its,r,p,z⟩
 ·refine ⟨its.toList,r,⟨o,I.kIn a o hk,hc,n,by simpa using hs⟩,?_⟩;have e:=r.length;simp only [Array.length_toList] at e;omega
theorem Inv.list_inj (I:Inv X pins σ H s) (h:SqL X.K H a xs) (h':SqL X.K H a ys):xs=ys:=by
 obtain ⟨its,r,⟨o,n,e,_,_,d⟩,_⟩:=I.list h;obtain ⟨its',r',⟨o',n',e',_,_,d'⟩,_⟩:=I.list h';rw [e] at e'; cases e';rw [d] at d';injection d' with d1 _;have:its=its':=by simpa using congrArg Array.toList d1
 subst this;exact r.inj r'
theorem Inv.tuple_inj (I:Inv X pins σ H s) (h:SqT X.K H a xs) (h':SqT X.K H a ys):xs=ys:=by
 obtain ⟨its,r,⟨o,e,_,n,d⟩,_⟩:=I.tuple h;obtain ⟨its',r',⟨o',e',_,n',d'⟩,_⟩:=I.tuple h';rw [e] at e'; cases e';rw [d] at d';injection d' with d1 _;have:its=its':=by simpa using congrArg Array.toList d1
 subst this;exact r.inj r'
end
abbrev Cx.wish (X:Cx) (E:Value→Shared→Prop):Cx:={ X with xe:=E }
abbrev Cx.nox (X:Cx):Cx:=X.wish fun _ _=>False
theorem Cx.Ok.wish {X:Cx} (ok:X.Ok) (E:Value→Shared→Prop):(X.wish E).Ok :=
 ⟨ok.mod,ok.kind,ok.glob,ok.blt,ok.above,ok.inj,ok.has,ok.cab,ok.hd,ok.frames,ok.stk,ok.exf,ok.bs,ok.bsz,ok.noex,ok.exfs,ok.funs,ok.frf⟩
theorem Cx.Ok.unwish {X:Cx} {E:Value→Shared→Prop} (ok:(X.wish E).Ok):X.Ok :=
 ⟨ok.mod,ok.kind,ok.glob,ok.blt,ok.above,ok.inj,ok.has,ok.cab,ok.hd,ok.frames,ok.stk,ok.exf,ok.bs,ok.bsz,ok.noex,ok.exfs,ok.funs,ok.frf⟩
section
variable {X:Cx} {pins:List (Addr×Obj)} {σ:St} {H:Hp} {s:Shared} {E:Value→Shared→Prop}
theorem Inv.wish (I:Inv X pins σ H s) (E:Value→Shared→Prop):Inv (X.wish E) pins σ H s:=⟨I.ok.wish E,I.os,I.bare,I.base,I.loc,I.cell,I.free,I.freeC,I.pin,I.hok,I.len⟩
theorem Inv.unwish (I:Inv (X.wish E) pins σ H s):Inv X pins σ H s:=⟨I.ok.unwish,I.os,I.bare,I.base,I.loc,I.cell,I.free,I.freeC,I.pin,I.hok,I.len⟩
theorem SP.unwish {D:cZ} {f:Flow} {s':Shared} (h:SP (X.wish E) pins D f s'):SP X pins D f s':=by
 cases f with
 | next=>obtain ⟨σ',H',I,q⟩:=h; exact ⟨σ',H',I.unwish,q⟩
 | brk=>obtain ⟨σ',H',I,q⟩:=h; exact ⟨σ',H',I.unwish,q⟩
 | cont=>obtain ⟨σ',H',I,q⟩:=h; exact ⟨σ',H',I.unwish,q⟩
 | ret u=>obtain ⟨v,σ',H',I,r,q⟩:=h; exact ⟨v,σ',H',I.unwish,r,q⟩
theorem PSs.nox {st:List Stmt} {t:TS} (h:PSs X.nox st t):PSs X st t:=fun pins s σ H D I hw =>
 wpAny_mono (h pins s σ H D (I.wish _) hw) (fun _ _ q=>q.unwish) fun _ _ z=>False.elim z
end
section
variable {X:Cx} {st:Stmt} {dw:List Stmt} {t u:TS} {e:Expr} {te:TE} {pos:Pos}
def BI:TS:=fun D σ H=>D.nx σ H
def Be (t u:TS):TS:=fun D σ H=>t { D with nx:=u D } σ H
theorem aA:PSs X [] BI:=fun _ _ σ H _ I h=>wpAny_execs_nil ⟨σ,H,I,h⟩
theorem aJ (h1:PS X st t) (h2:PSs X dw u):PSs X (st::dw) (Be t u):=by
 intro pins s σ H D I h;refine wpAny_execs_cons (thn (h1 pins s σ H { D with nx:=u D } I h) fun f s1 q=>?_)
 cases f with
 | next =>
  obtain ⟨σ',H',I',q⟩:=q;exact h2 pins s1 σ' H' D I' q
 | ret v=>exact q
 | brk=>exact q
 | cont=>exact q
theorem aj (h1:PS X st t):PSs X [st] t:=by
 intro pins s σ H D I h;refine wpAny_execs_cons (thn (h1 pins s σ H D I h) fun f s1 q=>?_)
 cases f with
 | next=>exact wpAny_execs_nil q
 | ret v=>exact q
 | brk=>exact q
 | cont=>exact q
theorem Inv.quiet {pins:List (Addr×Obj)} {σ:St} {H:Hp} {s:Shared} (I:Inv X pins σ H s):interactive X.env=false:=by simp [interactive,I.ok.kind]
def BF (te:TE):TS:=fun D σ H=>te σ H fun _ H1=>D.nx σ H1
theorem aY (he:PE X e te) (hs:swapsWith e none pos.line X.env=pure false:=by rfl):PS X (.Expr e pos) (BF te):=by
 intro pins s σ H D I h;exact wpAny_Expr_any (thn (he pins s σ H _ I h) fun v s1 ⟨x,H1,I1,r1,q1⟩=>⟨σ,H1,I1,q1⟩) I.quiet hs
def D7 (te:TE):TS:=fun D σ H=>te σ H D.rt
theorem ay (he:PE X e te):PS X (.Return (some e) pos) (D7 te):=by
 intro pins s σ H D I h;exact wpAny_Return_some (thn (he pins s σ H _ I h) fun v s1 ⟨x,H1,I1,r1,q1⟩=>⟨x,σ,H1,I1,r1,q1⟩)
def D4 (c:TT) (t u:TS):TS:=fun D σ H=>c σ H fun b H1=>if b=true then t D σ H1 else u D σ H1
theorem aL {c:Expr} {a b:List Stmt} {tc:TT} (hc:PT X c tc) (ha:PSs X a t) (hb:PSs X b u):PS X (.If c a b pos) (D4 tc t u):=by
 intro pins s σ H D I h;refine wpAny_If (thn (hc pins s σ H _ I h) fun d s1 ⟨H1,I1,q1⟩=>?_)
 cases d with
 | true=>exact ha pins s1 σ H1 D I1 q1
 | false=>exact hb pins s1 σ H1 D I1 q1
end
abbrev TG:=V→St→Hp→(St→Hp→Prop)→Prop
abbrev TGs:=List V→St→Hp→(St→Hp→Prop)→Prop
def PG (X:Cx) (target:Expr) (t:TG):Prop :=
 ∀ (pins:List (Addr×Obj)) (s:Shared) (σ:St) (H:Hp) (v:V) (u:Value) (Q:St→Hp→Prop),Inv X pins σ H s→bG v u→t v σ H Q →
  wpAny (model X.prog X.w) X.A (assign target X.env u) (fun _ s'=>∃ σ' H',Inv X pins σ' H' s'∧Q σ' H') X.xe s
def PGs (X:Cx) (ts:List Expr) (t:TGs):Prop :=
 ∀ (pins:List (Addr×Obj)) (s:Shared) (σ:St) (H:Hp) (vs:List V) (us:List Value) (Q:St→Hp→Prop),Inv X pins σ H s→aV vs us→t vs σ H Q →
  wpAny (model X.prog X.w) X.A (assignInOrder ((assignEach ts X.env).map (·.2)) us) (fun _ s'=>∃ σ' H',Inv X pins σ' H' s'∧Q σ' H') X.xe s
abbrev xm:=V→V→V→Hp→(Hp→Prop)→Prop
def Di (X:Cx) (t:xm):Prop :=
 ∀ (pins:List (Addr×Obj)) (s:Shared) (σ:St) (H:Hp) (o i v:V) (ov iv u:Value) (Q:Hp→Prop),Inv X pins σ H s→bG o ov→bG i iv→bG v u→t o i v H Q →
  wpAny (model X.prog X.w) X.A (setItem ov iv u) (fun _ s'=>∃ H',Inv X pins σ H' s'∧Q H') X.xe s
section
variable {X:Cx} {pos:Pos}
def eW (i:Nat):TG:=fun v σ H Q=>Q (σ.set i (some v)) H
theorem bC {i:Nat} {x:Str} (hN:X.N.Nodup) (hi:X.N[i]?=some x) (hx:Loc X.env.scope x) (hf:X.fn x=true∨X.env.scope.names.lookup x=some .local:=by first | exact .inl rfl | exact .inr rfl | assumption):PG X (.Name x pos) (eW i):=by
 intro pins s σ H v u Q I r h;exact wpAny_assign_Name (gh I hN hi hx r (fun s' I'=>⟨_,H,I',h⟩) hf)
def Ae:TGs:=fun vs σ H Q=>vs=[]∧Q σ H
def oU (t:TG) (u:TGs):TGs:=fun vs σ H Q=>∃ v r,vs=v::r∧t v σ H fun σ' H'=>u r σ' H' Q
theorem jM:PGs X [] Ae:=by
 intro pins s σ H vs us Q I r h;obtain ⟨e,h⟩:=h;subst e
 cases r;exact assignInOrder_nil ⟨σ,H,I,h⟩
theorem dv {e:Expr} {es:List Expr} {t:TG} {u:TGs} (h1:PG X e t) (h2:PGs X es u)
  (hs:(assignEach (e::es) X.env).map (·.2)=assign e X.env::(assignEach es X.env).map (·.2):=by rfl):PGs X (e::es) (oU t u):=by
 intro pins s σ H vs us Q I r h;obtain ⟨v,vr,e1,h⟩:=h;subst e1
 cases r with
 | cons r rr =>
  rw [hs];refine assignInOrder_cons (thn (h1 pins s σ H _ _ _ I r h) fun _ s1 ⟨σ1,H1,I1,q1⟩=>?_);exact h2 pins s1 σ1 H1 _ _ Q I1 rr q1
def xN (K:W.Frag) (n:Nat) (t:TGs):TG:=fun v σ H Q=>∃ a xs,v=.ref a∧SqT K H a xs∧xs.length=n∧t xs σ H Q
theorem Ct {es:List Expr} {k:Nat} {t:TGs} {n:Nat} (hc:X.calm=true) (h:PGs X es t)
  (hn:(assignEach es X.env).length=n:=by rfl) (hst:(assignEach es X.env).findIdx? (·.1)=none:=by rfl):PG X (.Tuple es k pos) (xN X.K n t):=by
 intro pins s σ H v u Q I r hw;obtain ⟨a,xs,e1,hq,hl,hw⟩:=hw;subst e1
 cases r;obtain ⟨its,rv,ht,hz⟩:=I.tuple hq;refine assign_Tuple_tuple (I.ok.hd hc) ht (by simp [hn,← hl,rv.length]) hst fun h' hx=>?_;have I1:Inv X pins σ H { s with heap:=h' }:=I.kept (t':=s.toks) fun b o e=>hx b o (Nat.ne_of_lt (Heap.lt_size e)) e;exact h pins _ σ H xs _ Q I1 (by simpa using rv) hw
def Dw (to ti:TE) (t:xm):TG:=fun v σ H Q=>to σ H fun o H1=>ti σ H1 fun i H2=>t o i v H2 fun H3=>Q σ H3
theorem uj {o i:Expr} {to ti:TE} {t:xm} (ho:PE X o to) (hi:PE X i ti) (hs:Di X t)
  (ha:∀ v,assign (.Subscript o i pos) X.env v=(do
   let ov ← holding [v] (eval o X.env)
   let iv ← holding [v,ov] (eval i X.env)
   standAt pos
   holding [v,ov,iv] (setItem ov iv v)
   release [v,ov,iv] []):=by intro _; rfl):PG X (.Subscript o i pos) (Dw to ti t):=by
 intro pins s σ H v u Q I r h;rw [ha];refine wpAny_bind (wpAny_holding (thn (ho pins s σ H _ I h) fun ov s1 ⟨x,H1,I1,r1,q1⟩=>?_));refine wpAny_bind (wpAny_holding (thn (hi pins s1 σ H1 _ I1 q1) fun iv s2 ⟨y,H2,I2,r2,q2⟩=>?_));refine wpAny_bind (wpAny_standAt (wpAny_bind (wpAny_holding (thn (hs pins s2 σ H2 x y v ov iv u _ I2 r1 r2 r q2) fun _ s3 ⟨H3,I3,q3⟩=>?_))));exact wpAny_release ⟨σ,H3,I3,q3⟩
def wU (te:TE) (g:TG):TS:=fun D σ H=>te σ H fun x H1=>g x σ H1 D.nx
theorem ky {tg e:Expr} {te:TE} {g:TG} (he:PE X e te) (hg:PG X tg g) (hs:swapsWithSole [tg] e pos.line X.env=pure false:=by rfl) (hw:swappedStores [tg] e X.env=pure none:=by rfl)
  (h1:(assignEach [tg] X.env).map (·.2)=[assign tg X.env]:=by rfl):PS X (.Assign [tg] e pos) (wU te g):=by
 intro pins s σ H D I h;refine wpAny_Assign_stores (thn (he pins s σ H _ I h) fun v s1 ⟨x,H1,I1,r1,q1⟩=>?_) hs hw;rw [h1];exact thn (hg pins s1 σ H1 x v _ I1 r1 q1) fun _ s2 q=>q
theorem aF {i:Nat} {x:Str} {e:Expr} {te:TE} {pos':Pos} (hN:X.N.Nodup) (hi:X.N[i]?=some x) (hx:Loc X.env.scope x) (he:PE X e te) (hs:swapsWith e (some (.Name x pos')) pos.line X.env=pure false:=by rfl) (hf:X.fn x=true∨X.env.scope.names.lookup x=some .local:=by first | exact .inl rfl | exact .inr rfl | assumption) :
  PS X (.Assign [.Name x pos'] e pos) (wU te (eW i)):=by
 intro pins s σ H D I h;refine wpAny_Assign_Name (thn (he pins s σ H _ I h) fun v s1 ⟨y,H1,I1,r1,q1⟩=>?_) hs;exact gh I1 hN hi hx r1 (fun s2 I2=>⟨_,H1,I2,q1⟩) hf
def D6 (i j:Nat) (ta:TA):TS:=fun D σ H=>ta σ H fun vs H1=>∃ v w,vs=[v,w]∧D.nx ((σ.set i (some v)).set j (some w)) H1
theorem Cv {i j:Nat} {x y:Str} {a b:Expr} {ta:TA} {px py pt:Pos} {kt k2 pt2} (hc:X.calm=true) (hN:X.N.Nodup) (hi:X.N[i]?=some x) (hj:X.N[j]?=some y) (hij:i≠j)
  (hx:X.env.scope.names.lookup x=some .local) (hy:X.env.scope.names.lookup y=some .local) (ha:PA X [a,b] ta)
  (hw:swappedStores [.Tuple [.Name x px,.Name y py] kt pt] (.Tuple [a,b] k2 pt2) X.env=pure (some [x,y]))
  (hs:swapsWithSole [.Tuple [.Name x px,.Name y py] kt pt] (.Tuple [a,b] k2 pt2) pos.line X.env=pure false:=by rfl) :
  PS X (.Assign [.Tuple [.Name x px,.Name y py] kt pt] (.Tuple [a,b] k2 pt2) pos) (D6 i j ta):=by
 intro pins s σ H D I h;rw [exec_Assign_arm];refine wpAny_bind (wpAny_standAt ?_);rw [hs];refine wpAny_bind (wpAny_pure ?_);rw [if_neg (by decide)];refine wpAny_bind (Tuple_ (thn (ha _ pins s σ H _ I h) fun us s1 ⟨vs,H1,I1,r1,q1⟩=>?_));obtain ⟨v,w,e1,q1⟩:=q1;subst e1;obtain ⟨u1,u2,rfl,rv,rw'⟩:∃ u1 u2,us=[u1,u2]∧bG v u1∧bG w u2:=by
  cases r1 with
  | cons p q =>
   cases q with
   | cons p' q' =>
    cases q';exact ⟨_,_,rfl,p,p'⟩
 refine wpAny_newObj_type ?_ (by show 2≤sizeLine; decide);have I2:Inv X pins σ H1 { s1 with heap:=s1.heap.push { cls:=.type "tuple",data:=.seq [u1,u2].toArray } }:=I1.kept (t':=s1.toks) fun b o e=>Heap.get?_push_of_some _ e;rw [hw];refine wpAny_bind (wpAny_pure ?_)
 show wpAny (model X.prog X.w) X.A (do rule "assign.swapped-stores"; let items ← unpackItems (.ref s1.heap.objs.size) 2 none; assignInOrder [fun v=>bindName X.env y v,fun v=>bindName X.env x v] items.reverse; pure Flow.next) _ _ _
 refine wpAny_bind (wpAny_rule (wpAny_bind (unpackItems_tuple (items:=#[u1,u2]) (I.ok.hd hc) (IsTup.new s1.heap _) fun h' hx'=>?_)));have I3:=I2.kept (h':=h') (t':=s1.toks) fun b o e=>hx' b o (Nat.ne_of_lt (Heap.lt_size e)) e
 show wpAny _ _ (assignInOrder [fun v=>bindName X.env y v,fun v=>bindName X.env x v] [u2,u1] >>= fun _=>pure Flow.next) _ _ _
 refine wpAny_bind (assignInOrder_cons (wpAny_bindName (gh I3 hN hj (.inl hy) rw' (fun s2 I4=>?_) (.inr hy))));refine assignInOrder_cons (wpAny_bindName (gh I4 hN hi (.inl hx) rv (fun s3 I5=>assignInOrder_nil (wpAny_pure ?_)) (.inr hx)));rw [List.set_comm _ _ (Ne.symm hij)] at I5;exact ⟨_,H1,I5,q1⟩
def zH (c:TT) (tb:TS):TS:=fun D σ H=>∃ W:Nat→St→Hp→Prop,(∃ m,W m σ H)∧∀ m σ H,W m σ H →
 c σ H fun b H1=>if b=true then ∃ N:St→Hp→Prop,(∀ σ' H',N σ' H'→∃ m',m'<m∧W m' σ' H')∧tb { D with nx:=N,ct:=N,bk:=D.nx } σ H1 else D.nx σ H1
theorem sL {c:Expr} {body:List Stmt} {tc:TT} {tb:TS} (hp:PassesOwn (model X.prog X.w) X.A X.env X.xe) (hc:PT X c tc) (hb:PSs X body tb):PS X (.While c body [] pos) (zH tc tb):=by
 intro pins s σ H D I h;obtain ⟨W,⟨m0,w0⟩,turn⟩:=h;refine wpAny_While (codeAny_whileLoop (fun n s'=>∃ σ' H',Inv X pins σ' H' s'∧W n σ' H') ?_ m0 ⟨σ,H,I,w0⟩);rintro n s1 ⟨σ1,H1,I1,w1⟩;refine wpAny_passesOwn hp (thn (hc pins s1 σ1 H1 _ I1 (turn n σ1 H1 w1)) fun b s2 ⟨H2,I2,q2⟩=>?_)
 cases b with
 | true =>
  obtain ⟨N,hN,q2⟩:=q2;rw [if_pos rfl];refine wpAny_passesOwn hp (thn (hb pins s2 σ1 H2 _ I2 q2) fun f s3 q3=>?_)
  cases f with
  | next =>
   obtain ⟨σ3,H3,I3,n3⟩:=q3;obtain ⟨m',hm,w3⟩:=hN σ3 H3 n3;exact ⟨m',hm,σ3,H3,I3,w3⟩
  | cont =>
   obtain ⟨σ3,H3,I3,n3⟩:=q3;obtain ⟨m',hm,w3⟩:=hN σ3 H3 n3;exact ⟨m',hm,σ3,H3,I3,w3⟩
  | brk => exact q3
  | ret v => exact q3
 | false =>
  rw [if_neg Bool.false_ne_true];exact wpAny_execs_nil ⟨σ1,H2,I2,q2⟩
end
structure It where
 go:Nat→Hp→Prop
 yld:Nat→Hp→V→Hp→Prop
 stop:Nat→Hp→Prop
def iX (X:Cx) (pins:List (Addr×Obj)) (H:Hp) (b:Addr):Prop :=
 H b=none∧b≠X.env.locals∧b∉X.fs∧(b∈X.ex∨X.s₀.heap.objs.size≤b)∧(∀ x c,X.env.cells.lookup x=some c→c≠b)∧∀ p∈X.pn++pins,p.1≠b
theorem Inv.fpOk {X:Cx} {pins:List (Addr×Obj)} {σ:St} {H H':Hp} {s:Shared} {b:Addr} (I:Inv X pins σ H s) (hb:s.heap.objs.size≤b) (hn:H' b=none):iX X pins H' b:=by
 refine ⟨hn,Nat.ne_of_gt (Nat.lt_of_lt_of_le I.lt hb),I.nofs hb,.inr (Nat.le_trans I.sz hb),fun x c e z=>?_,fun p hp z=>?_⟩
 ·obtain ⟨v,q⟩:=I.cell x c e;exact absurd (Nat.lt_of_lt_of_le q.lt (by rw [z]; exact hb)) (Nat.lt_irrefl _)
 ·exact absurd (Nat.lt_of_lt_of_le (Heap.lt_size (I.pin p hp).1) (by rw [z]; exact hb)) (Nat.lt_irrefl _)
structure pF (P:Program) (w:World) (K:W.Frag) (tg:Expr) (J:It) (fp:List Addr) (it:Addr) (tn:Nat→Heap→Prop):Prop where
 mem:it∈fp
 obj:∀ i h,tn i h→∀ b∈fp,∃ o,h.get? b=some o∧∀ v,o.data≠.cell v
 keep:∀ i h h',tn i h→(∀ b∈fp,∀ o,h.get? b=some o→h'.get? b=some o)→tn i h'
 item:∀ (X:Cx),X.prog=P→X.w=w→X.K=K→X.calm=true→∀ (i:Nat) (pins:List (Addr×Obj)) (s:Shared) (σ:St) (H:Hp) (E:Value→Shared→Prop),Inv X pins σ H s→(∀ b∈fp,iX X pins H b)→tn i s.heap→J.go i H →
  wpAny (model P w) X.A (pyNext (.ref it)) (fun r s1=>∃ u,r=some u ∧
   wpAny (model P w) X.A (letOwnedTupleGo tg (.ref it) u) (fun _ s2=>∃ x H',Inv X pins σ H' s2∧bG x u∧J.yld i H x H'∧tn (i+1) s2.heap∧∀ b∈fp,H' b=none) E s1) E s
 done:∀ (X:Cx),X.prog=P→X.w=w→X.K=K→X.calm=true→∀ (i:Nat) (pins:List (Addr×Obj)) (s:Shared) (σ:St) (H:Hp) (E:Value→Shared→Prop),Inv X pins σ H s→(∀ b∈fp,iX X pins H b)→tn i s.heap→J.stop i H →
  wpAny (model P w) X.A (pyNext (.ref it)) (fun r s1=>r=none∧Inv X pins σ H s1) E s
 self:∀ (A:Around) (i:Nat) (s:Shared) (Q:Value→Shared→Prop) (E:Value→Shared→Prop),tn i s.heap→Q (.ref it) s→wpAny (model P w) A (pyIter (.ref it)) Q E s
abbrev TI:=St→Hp→(It→Hp→Prop)→Prop
def PIE (X:Cx) (pins:List (Addr×Obj)) (σ:St) (tg:Expr) (R:It→Hp→Prop) (itv:Value) (s2:Shared):Prop :=
 ∃ (it:Addr) (fp:List Addr) (tn:Nat→Heap→Prop) (J:It) (H':Hp),itv=.ref it∧Inv X pins σ H' s2∧pF X.prog X.w X.K tg J fp it tn∧tn 0 s2.heap∧(∀ b∈fp,iX X pins H' b)∧R J H'
def PI (X:Cx) (tg iter:Expr) (wi:TI):Prop :=
 ∀ (pins:List (Addr×Obj)) (s:Shared) (σ:St) (H:Hp) (R:It→Hp→Prop),Inv X pins σ H s→wi σ H R →
  wpAny (model X.prog X.w) X.A (eval iter X.env) (fun v s1=>wpAny (model X.prog X.w) X.A (pyIter v) (PIE X pins σ tg R) X.xe s1) X.xe s
theorem rY {M:Model} {A:Around} {E:Value→Shared→Prop} {s:Shared} {tg:Expr} {it:Addr} {u:Value} {o:Obj} {n:String} {vs:Array Value} {Q:Unit→Shared→Prop} (ho:s.heap.get? it=some o) (hc:o.cls=.type n) (hd:o.data=.fields vs)
    (hn:["enumerate","zip","dict_itemiterator","dict_reverseitemiterator","odict_iterator","itertools.zip_longest","itertools.pairwise"].contains n=false) (hQ:Q () s):wpAny M A (letOwnedTupleGo tg (.ref it) u) Q E s:=by
  unfold letOwnedTupleGo
  cases tg<;>first
    | exact wpAny_pure hQ
    | (cases u<;>first
        | exact wpAny_pure hQ
        | (refine wpAny_bind (wpAny_load ho ?_)
           rw [hc,hd]
           show wpAny M A (if (["enumerate","zip","dict_itemiterator","dict_reverseitemiterator","odict_iterator","itertools.zip_longest","itertools.pairwise"].contains n&&vs[0]?==some (rawInt _))=true then _ else _) Q E s
           rw [if_neg (by intro h; rw [hn,Bool.false_and] at h; cases h)];exact wpAny_pure hQ))
def Itl (K:W.Frag) (a:Addr):It :=
 ⟨fun i H=>∃ xs x,SqL K H a xs∧xs[i]?=some x,fun i H x H'=>H'=H∧∀ xs,SqL K H a xs→xs[i]?=some x,fun i H=>∃ xs,SqL K H a xs∧xs.length≤i⟩
def Itt (K:W.Frag) (a:Addr):It :=
 ⟨fun i H=>∃ xs x,SqT K H a xs∧xs[i]?=some x,fun i H x H'=>H'=H∧∀ xs,SqT K H a xs→xs[i]?=some x,fun i H=>∃ xs,SqT K H a xs∧xs.length≤i⟩
def Itr (lo:Int) (n:Nat):It:=⟨fun i _=>i<n,fun i H x H'=>H'=H∧x=.int (lo+i),fun i _=>n≤i⟩
theorem wX {P:Program} {w:World} {K:W.Frag} {tg:Expr} (a it:Addr):pF P w K tg (Itl K a) [it] it (fun i h=>h.IsListIter it a i) where
 mem:=by simp
 obj:=fun i h st b hb=>by
  have e:b=it:=by simpa using hb
  subst e;obtain ⟨o,e,c,d⟩:=st;exact ⟨o,e,fun v z=>by rw [d] at z; cases z⟩
 keep:=fun i h h' st k=>st.at fun o e=>k it (by simp) o e
 item:=by
  intro X hP hw hK hc i pins s σ H E I hf st hg;subst hP hw hK;obtain ⟨xs,x,hq,hx⟩:=hg;obtain ⟨its,rv,p,hz⟩:=I.list hq;obtain ⟨u,hu,ru⟩:=rv.get hx;obtain ⟨f0,f1,f2,f3,f4,f5⟩:=hf it (by simp);refine wpAny_pyNext_list_item st p.isList (x:=u) (by simpa using hu) fun h' st' sb=>?_;have I1:Inv X pins σ H { s with heap:=h' }:=I.turned (t':=s.toks) (fun b o hb e=>(sb.2 b hb).trans e) f0 f1 f3 f4 f5;obtain ⟨o,e,c,d⟩:=id st';exact ⟨u,rfl,rY (s:={ s with heap:=h' }) e c d (by decide) ⟨x,H,I1,ru,⟨rfl,fun ys hy=>by rw [I.list_inj hy hq]; exact hx⟩,st',fun b hb=>(hf b hb).1⟩⟩
 done:=by
  intro X hP hw hK hc i pins s σ H E I hf st hg;subst hP hw hK;obtain ⟨xs,hq,hx⟩:=hg;obtain ⟨its,rv,p,hz⟩:=I.list hq;obtain ⟨f0,f1,f2,f3,f4,f5⟩:=hf it (by simp);have hl:=rv.length;exact wpAny_pyNext_list_end (I.ok.hd hc) st p.isList (by simp; omega) fun h' eb=>⟨rfl,I.turned (t':=s.toks) (fun b o hb e=>eb b o hb e) f0 f1 f3 f4 f5⟩
 self:=fun _ _ _ _ _ st h=>wpAny_pyIter_listiter st h
theorem uL {P:Program} {w:World} {K:W.Frag} {tg:Expr} (a it:Addr):pF P w K tg (Itt K a) [it] it (fun i h=>h.IsTupleIter it a i) where
 mem:=by simp
 obj:=fun i h st b hb=>by
  have e:b=it:=by simpa using hb
  subst e;obtain ⟨o,e,c,d⟩:=st;exact ⟨o,e,fun v z=>by rw [d] at z; cases z⟩
 keep:=fun i h h' st k=>st.at fun o e=>k it (by simp) o e
 item:=by
  intro X hP hw hK hc i pins s σ H E I hf st hg;subst hP hw hK;obtain ⟨xs,x,hq,hx⟩:=hg;obtain ⟨its,rv,p,hz⟩:=I.tuple hq;obtain ⟨u,hu,ru⟩:=rv.get hx;obtain ⟨f0,f1,f2,f3,f4,f5⟩:=hf it (by simp);refine wpAny_pyNext_tuple_item st (show s.heap.IsTuple a its.toArray from p) (x:=u) (by simpa using hu) fun h' st' sb=>?_;have I1:Inv X pins σ H { s with heap:=h' }:=I.turned (t':=s.toks) (fun b o hb e=>(sb.2 b hb).trans e) f0 f1 f3 f4 f5;obtain ⟨o,e,c,d⟩:=id st';exact ⟨u,rfl,rY (s:={ s with heap:=h' }) e c d (by decide) ⟨x,H,I1,ru,⟨rfl,fun ys hy=>by rw [I.tuple_inj hy hq]; exact hx⟩,st',fun b hb=>(hf b hb).1⟩⟩
 done:=by
  intro X hP hw hK hc i pins s σ H E I hf st hg;subst hP hw hK;obtain ⟨xs,hq,hx⟩:=hg;obtain ⟨its,rv,p,hz⟩:=I.tuple hq;obtain ⟨f0,f1,f2,f3,f4,f5⟩:=hf it (by simp);have hl:=rv.length;exact wpAny_pyNext_tuple_end (I.ok.hd hc) st (show s.heap.IsTuple a its.toArray from p) (by simp; omega) fun h' eb=>⟨rfl,I.turned (t':=s.toks) (fun b o hb e=>eb b o hb e) f0 f1 f3 f4 f5⟩
 self:=fun _ _ _ _ _ st h=>wpAny_pyIter_tupleiter st h
theorem uK {P:Program} {w:World} {K:W.Frag} {tg:Expr} (it:Addr) (lo:Int) (n:Nat):pF P w K tg (Itr lo n) [it] it (fun i h=>IsRangeIter h it (lo+(i:Nat)*1) ((n:Int) - (i:Nat)) 1) where
 mem:=by simp
 obj:=fun i h st b hb=>by
  have e:b=it:=by simpa using hb
  subst e;exact ⟨_,st,fun v z=>by
   have z':Data.fields _=Data.cell v:=z
   cases z'⟩
 keep:=fun i h h' st k=>k it (by simp) _ st
 item:=by
  intro X hP hw hK hc i pins s σ H E I hf st hg;subst hP hw hK;obtain ⟨f0,f1,f2,f3,f4,f5⟩:=hf it (by simp);have W:=Walks.range (prog:=X.prog) (w:=X.w) (I.ok.hd hc) it lo 1 n;refine W.item i s _ _ hg st fun v h' tk hv st' kk=>?_;obtain ⟨t,rfl⟩:=hv;have I1:Inv X pins σ H { s with heap:=h',toks:=tk }:=I.turned (fun b o hb e=>kk b o (by simpa using hb) e) f0 f1 f3 f4 f5;refine ⟨_,rfl,rY (s:={ s with heap:=h',toks:=tk }) (n:="range_iterator") st' rfl rfl (by decide) ⟨.int (lo+i),H,I1,⟨t,?_⟩,⟨rfl,rfl⟩,st',fun b hb=>(hf b hb).1⟩⟩;rw [Int.mul_one]
 done:=by
  intro X hP hw hK hc i pins s σ H E I hf st hg;subst hP hw hK;obtain ⟨f0,f1,f2,f3,f4,f5⟩:=hf it (by simp);exact wpAny_pyNext_range_end (I.ok.hd hc) st (by have:n≤i:=hg; omega) fun h' eb=>⟨rfl,I.turned (t':=s.toks) (fun b o hb e=>eb b o hb e) f0 f1 f3 f4 f5⟩
 self:=fun _ _ _ _ _ st h=>wpAny_pyIter_rangeiter st h
section
variable {X:Cx} {tg:Expr}
def Bo (K:W.Frag) (tl:TE):TI:=fun σ H R=>tl σ H fun x H1=>∃ a,x=.ref a∧(∃ xs,SqL K H1 a xs)∧R (Itl K a) H1
def Dx (K:W.Frag) (tl:TE):TI:=fun σ H R=>tl σ H fun x H1=>∃ a,x=.ref a∧(∃ xs,SqT K H1 a xs)∧R (Itt K a) H1
theorem dP {l:Expr} {tl:TE} (hl:PE X l tl):PI X tg l (Bo X.K tl):=by
 intro pins s σ H R I h;refine thn (hl pins s σ H _ I h) fun v s1 ⟨x,H1,I1,r1,q1⟩=>?_;obtain ⟨a,e,⟨xs,hq⟩,q⟩:=q1;subst e
 cases r1;obtain ⟨its,rv,p,hz⟩:=I1.list hq;refine wpAny_pyIter_list p.isList ?_;refine ⟨s1.heap.objs.size,[s1.heap.objs.size],_,_,H1,rfl,I1.kept (t':=s1.toks) fun b o e=>Heap.get?_push_of_some _ e,wX a _,⟨_,Heap.get?_push_size _ rfl,rfl,rfl⟩,fun b hb=>?_,q⟩;have e:b=s1.heap.objs.size:=by simpa using hb
 subst e;exact I1.fpOk (Nat.le_refl _) (I1.hok.fresh (Nat.le_refl _))
theorem Cu {l:Expr} {tl:TE} (hl:PE X l tl):PI X tg l (Dx X.K tl):=by
 intro pins s σ H R I h;refine thn (hl pins s σ H _ I h) fun v s1 ⟨x,H1,I1,r1,q1⟩=>?_;obtain ⟨a,e,⟨xs,hq⟩,q⟩:=q1;subst e
 cases r1;obtain ⟨its,rv,p,hz⟩:=I1.tuple hq;refine wpAny_pyIter_tuple (show s1.heap.IsTuple a its.toArray from p) ?_;refine ⟨s1.heap.objs.size,[s1.heap.objs.size],_,_,H1,rfl,I1.kept (t':=s1.toks) fun b o e=>Heap.get?_push_of_some _ e,uL a _,⟨_,Heap.get?_push_size _ rfl,rfl,rfl⟩,fun b hb=>?_,q⟩;have e:b=s1.heap.objs.size:=by simpa using hb
 subst e;exact I1.fpOk (Nat.le_refl _) (I1.hok.fresh (Nat.le_refl _))
theorem yn {pins:List (Addr×Obj)} {σ:St} {H:Hp} {s:Shared} {R:It→Hp→Prop} {E:Value→Shared→Prop} {lo hi:Int} {t u v:Tok} {tk:Nat} (I:Inv X pins σ H s) (h1:-(2 ^ 62)≤lo) (h2:lo<2 ^ 62) (h3:-(2 ^ 62)≤hi) (h4:hi<2 ^ 62)
  (q:R (Itr lo (hi - lo).toNat) H):wpAny (model X.prog X.w) X.A (pyIter (.ref s.heap.objs.size)) (PIE X pins σ tg R) E { s with heap:=s.heap.push { cls:=.type "range",data:=.fields #[.int lo t,.int hi u,.int 1 v] },toks:=tk }:=by
 refine wpAny_pyIter_range (IsRange.new ..) (small_one h1 h2 h3 h4) ?_;have I1:Inv X pins σ H { s with heap:=s.heap.push { cls:=.type "range",data:=.fields #[.int lo t,.int hi u,.int 1 v] },toks:=tk }:=I.kept fun b o e=>Heap.get?_push_of_some _ e;refine ⟨(s.heap.push { cls:=.type "range",data:=.fields #[.int lo t,.int hi u,.int 1 v] }).objs.size,[(s.heap.push { cls:=.type "range",data:=.fields #[.int lo t,.int hi u,.int 1 v] }).objs.size],_,_,H,rfl,
  I1.kept (t':=tk) fun b o e=>Heap.get?_push_of_some _ e,uK _ lo (hi - lo).toNat,?_,fun b hb=>?_,q⟩
 ·have e1:lo+((0:Nat):Int)*1=lo:=by simp
  have e2:(((hi - lo).toNat:Nat):Int) - ((0:Nat):Int)=Builtin.Range.rangeSize lo hi 1:=by rw [rangeSize_one]; split<;>omega
  show IsRangeIter _ _ (lo+((0:Nat):Int)*1) ((((hi - lo).toNat:Nat):Int) - ((0:Nat):Int)) 1
  rw [e1,e2];exact Heap.get?_push_size _ rfl
 ·have e:b=(s.heap.push { cls:=.type "range",data:=.fields #[.int lo t,.int hi u,.int 1 v] }).objs.size:=by simpa using hb
  subst e;exact I1.fpOk (Nat.le_refl _) (I1.hok.fresh (Nat.le_refl _))
def Bp (ta:TA):TI:=fun σ H R=>ta σ H fun vs H1=>∃ j:Int,vs=[.int j]∧-(2 ^ 62)≤j∧j<2 ^ 62∧R (Itr 0 j.toNat) H1
theorem eB {a:Expr} {ta:TA} {p pos:Pos} (hg:Gl X "range") (hm:X.mg "range"=none) (ha:PA X [a] ta) (hs:starEach [a] X.env=[(false,eval a X.env)]:=by rfl):PI X tg (.Call (.Name "range" p) [a] [] pos) (Bp ta):=by
 intro pins s σ H R I h;refine Call_ (kj I hg hm boot_range (PyProof.Rows.callWith_type1 (thn (ha pos pins s σ H _ I h) fun us s1 ⟨vs,H1,I1,r1,q1⟩=>?_) hs rfl));obtain ⟨j,e,q1,q2,q⟩:=q1;subst e
 cases r1 with
 | cons r rr =>
  cases rr;obtain ⟨t,rfl⟩:=r;exact call_range_1 (yn I1 (by omega) (by omega) q1 q2 (by simpa using q))
def D3 (wi:TI) (g:TG) (tb:TS):TS:=fun D σ H=>wi σ H fun J H1=>∃ W:Nat→Nat→St→Hp→Prop,(∃ m,W 0 m σ H1)∧∀ i m σ H,W i m σ H →
 (J.stop i H∧D.nx σ H)∨(J.go i H∧∃ N:St→Hp→Prop,(∀ σ' H',N σ' H'→∃ m',m'<m∧W (i+1) m' σ' H')∧∀ x H',J.yld i H x H'→g x σ H' fun σ2 H2=>tb { D with nx:=N,ct:=N,bk:=D.nx } σ2 H2)
def mJ (fp:List Addr) (h:Heap):List (Addr×Obj):=fp.filterMap fun b=>(h.get? b).map fun o=>(b,o)
theorem gz {fp:List Addr} {h:Heap} {b:Addr} {o:Obj} (hb:b∈fp) (e:h.get? b=some o):(b,o)∈mJ fp h:=List.mem_filterMap.mpr ⟨b,hb,by rw [e]; rfl⟩
theorem v5 {fp:List Addr} {h:Heap} {p:Addr×Obj} (hp:p∈mJ fp h):p.1∈fp∧h.get? p.1=some p.2:=by
 obtain ⟨b,hb,e⟩:=List.mem_filterMap.mp hp
 cases q:h.get? b with
 | none=>rw [q] at e; cases e
 | some o =>
  rw [q] at e;have e':(b,o)=p:=Option.some.inj e;subst e';exact ⟨hb,q⟩
theorem Inv.pinned {pins:List (Addr×Obj)} {σ:St} {H:Hp} {s:Shared} {fp:List Addr} (I:Inv X pins σ H s) (hf:∀ b∈fp,iX X pins H b) (ho:∀ b∈fp,∃ o,s.heap.get? b=some o∧∀ v,o.data≠.cell v):Inv X (pins++mJ fp s.heap) σ H s :=
 I.pins_of fun p hp=>(List.mem_append.mp hp).elim (fun z=>I.pin p (List.mem_append_right _ z)) fun z=>by
  obtain ⟨hb,e⟩:=v5 z;obtain ⟨f0,f1,f2,_⟩:=hf p.1 hb;obtain ⟨o,e',d⟩:=ho p.1 hb;rw [e] at e'; cases e';exact ⟨e,f0,f1,f2,d⟩
theorem Inv.unpinned {pins pl:List (Addr×Obj)} {σ:St} {H:Hp} {s:Shared} (I:Inv X (pins++pl) σ H s):Inv X pins σ H s:=I.pins_of fun p hp=>I.pin p (List.mem_append_right _ (List.mem_append_left _ hp))
theorem eQ {iter:Expr} {body:List Stmt} {wi:TI} {g:TG} {tb:TS} {pos:Pos} (hp:PassesOwn (model X.prog X.w) X.A X.env X.xe) (hc:X.calm=true) (hi:PI X tg iter wi) (hg:PG X tg g) (hb:PSs X body tb)
  (hs:∀ x,foldedSetIterable iter X.env x=pure x:=by intro _; rfl):PS X (.For tg iter body [] pos) (D3 wi g tb):=by
 intro pins s σ H D I h;refine wpAny_For (thn (hi pins s σ H _ I h) fun v s1 h1=>thn h1 fun itv s2 h2=>?_) hs;obtain ⟨it,fp,tn,J,H2,e,I2,T,st2,f2,W,⟨m0,w0⟩,turn⟩:=h2;subst e
 -- what stays true of the iterator's objects through the loop
 have stat:∀ {H':Hp},(∀ b∈fp,H' b=none)→∀ b∈fp,iX X pins H' b:=fun hn b hb=>⟨hn b hb,(f2 b hb).2⟩
 refine codeAny_forLoop_any (fun n s'=>∃ i σ' H',Inv X pins σ' H' s'∧tn i s'.heap∧(∀ b∈fp,H' b=none)∧W i n σ' H') ?_ m0 ⟨0,σ,H2,I2,st2,fun b hb=>(f2 b hb).1,w0⟩;rintro n s3 ⟨i,σ3,H3,I3,st3,fr3,w3⟩;rcases turn i n σ3 H3 w3 with ⟨stop,qn⟩ | ⟨go,N,hN,step⟩
 ·refine wpAny_passesOwn hp (thn (T.done X rfl rfl rfl hc i pins s3 σ3 H3 X.xe I3 (stat fr3) st3 stop) fun r s4 ⟨hr,I4⟩=>?_);subst hr;exact wpAny_execs_nil ⟨σ3,H3,I4,qn⟩
 ·refine wpAny_passesOwn hp (thn (T.item X rfl rfl rfl hc i pins s3 σ3 H3 X.xe I3 (stat fr3) st3 go) fun r s4 ⟨u,hr,h4⟩=>?_);subst hr;refine wpAny_passesOwn hp (thn h4 fun _ s5 ⟨x,H5,I5,r5,y5,st5,fr5⟩=>?_);have I5':=I5.pinned (stat fr5) (T.obj _ _ st5);refine wpAny_passesOwn hp (thn (hg _ s5 σ3 H5 x u _ I5' r5 (step x H5 y5)) fun _ s6 ⟨σ6,H6,I6,q6⟩=>?_);refine wpAny_passesOwn hp (thn (hb _ s6 σ6 H6 _ I6 q6) fun f s7 q7=>?_);have again:∀ {σ7:St} {H7:Hp},Inv X (pins++mJ fp s5.heap) σ7 H7 s7→N σ7 H7→∃ m,m<n∧∃ i σ' H',Inv X pins σ' H' s7∧tn i s7.heap∧(∀ b∈fp,H' b=none)∧W i m σ' H':=fun {σ7 H7} I7 n7=>by
   obtain ⟨m',hm,w7⟩:=hN σ7 H7 n7;refine ⟨m',hm,i+1,σ7,H7,I7.unpinned,T.keep _ _ _ st5 fun b hb o e=>(I7.pin (b,o) (List.mem_append_right _ (List.mem_append_right _ (gz hb e)))).1,fun b hb=>?_,w7⟩;obtain ⟨o,e,d⟩:=T.obj _ _ st5 b hb;exact (I7.pin (b,o) (List.mem_append_right _ (List.mem_append_right _ (gz hb e)))).2.1
  cases f with
  | next => obtain ⟨σ7, H7, I7, n7⟩ := q7; exact again I7 n7
  | cont => obtain ⟨σ7, H7, I7, n7⟩ := q7; exact again I7 n7
  | brk => obtain ⟨σ7, H7, I7, q7⟩ := q7; exact ⟨σ7, H7, I7.unpinned, q7⟩
  | ret v => obtain ⟨x7, σ7, H7, I7, r7, q7⟩ := q7; exact ⟨x7, σ7, H7, I7.unpinned, r7, q7⟩
end
theorem xM {K:W.Frag} {a:Addr} {xs:List V} {g:TG} {tb:TS} {D:cZ} {σ:St} {H:Hp} (Pv:Nat→St→Hp→Prop) (h0:Pv 0 σ H) (hl:∀ i σ H,i≤xs.length→Pv i σ H→SqL K H a xs)
  (hs:∀ i x σ H,xs[i]?=some x→Pv i σ H→g x σ H fun σ2 H2=>tb { D with nx:=Pv (i+1),ct:=Pv (i+1),bk:=D.nx } σ2 H2) (hd:∀ σ H,Pv xs.length σ H→D.nx σ H) :
  ∃ W:Nat→Nat→St→Hp→Prop,(∃ m,W 0 m σ H)∧∀ i m σ H,W i m σ H →
   ((Itl K a).stop i H∧D.nx σ H)∨((Itl K a).go i H∧∃ N:St→Hp→Prop,(∀ σ' H',N σ' H'→∃ m',m'<m∧W (i+1) m' σ' H')∧∀ x H',(Itl K a).yld i H x H'→g x σ H' fun σ2 H2=>tb { D with nx:=N,ct:=N,bk:=D.nx } σ2 H2):=by
 refine ⟨fun i m σ H=>m=xs.length - i∧i≤xs.length∧Pv i σ H,⟨xs.length,by simp,Nat.zero_le _,h0⟩,?_⟩;rintro i m σ H ⟨rfl,hi,p⟩;have q:=hl i σ H hi p;by_cases hlt:i<xs.length
 ·refine .inr ⟨⟨xs,xs[i],q,by simp [hlt]⟩,Pv (i+1),fun σ' H' p'=>⟨xs.length - (i+1),by omega,rfl,hlt,p'⟩,fun x H' y=>?_⟩;obtain ⟨e,y⟩:=y;subst e;exact hs i x σ _ (y xs q) p
 ·have e:i=xs.length:=by omega
  subst e;exact .inl ⟨⟨xs,q,Nat.le_refl _⟩,hd σ H p⟩
theorem Ab {K:W.Frag} {a:Addr} {xs:List V} {g:TG} {tb:TS} {D:cZ} {σ:St} {H:Hp} (Pv:Nat→St→Hp→Prop) (h0:Pv 0 σ H) (hl:∀ i σ H,i≤xs.length→Pv i σ H→SqT K H a xs)
  (hs:∀ i x σ H,xs[i]?=some x→Pv i σ H→g x σ H fun σ2 H2=>tb { D with nx:=Pv (i+1),ct:=Pv (i+1),bk:=D.nx } σ2 H2) (hd:∀ σ H,Pv xs.length σ H→D.nx σ H) :
  ∃ W:Nat→Nat→St→Hp→Prop,(∃ m,W 0 m σ H)∧∀ i m σ H,W i m σ H →
   ((Itt K a).stop i H∧D.nx σ H)∨((Itt K a).go i H∧∃ N:St→Hp→Prop,(∀ σ' H',N σ' H'→∃ m',m'<m∧W (i+1) m' σ' H')∧∀ x H',(Itt K a).yld i H x H'→g x σ H' fun σ2 H2=>tb { D with nx:=N,ct:=N,bk:=D.nx } σ2 H2):=by
 refine ⟨fun i m σ H=>m=xs.length - i∧i≤xs.length∧Pv i σ H,⟨xs.length,by simp,Nat.zero_le _,h0⟩,?_⟩;rintro i m σ H ⟨rfl,hi,p⟩;have q:=hl i σ H hi p;by_cases hlt:i<xs.length
 ·refine .inr ⟨⟨xs,xs[i],q,by simp [hlt]⟩,Pv (i+1),fun σ' H' p'=>⟨xs.length - (i+1),by omega,rfl,hlt,p'⟩,fun x H' y=>?_⟩;obtain ⟨e,y⟩:=y;subst e;exact hs i x σ _ (y xs q) p
 ·have e:i=xs.length:=by omega
  subst e;exact .inl ⟨⟨xs,q,Nat.le_refl _⟩,hd σ H p⟩
theorem vR {lo:Int} {n:Nat} {g:TG} {tb:TS} {D:cZ} {σ:St} {H:Hp} (Pv:Nat→St→Hp→Prop) (h0:Pv 0 σ H)
  (hs:∀ i σ H,i<n→Pv i σ H→g (.int (lo+i)) σ H fun σ2 H2=>tb { D with nx:=Pv (i+1),ct:=Pv (i+1),bk:=D.nx } σ2 H2) (hd:∀ σ H,Pv n σ H→D.nx σ H) :
  ∃ W:Nat→Nat→St→Hp→Prop,(∃ m,W 0 m σ H)∧∀ i m σ H,W i m σ H →
   ((Itr lo n).stop i H∧D.nx σ H)∨((Itr lo n).go i H∧∃ N:St→Hp→Prop,(∀ σ' H',N σ' H'→∃ m',m'<m∧W (i+1) m' σ' H')∧∀ x H',(Itr lo n).yld i H x H'→g x σ H' fun σ2 H2=>tb { D with nx:=N,ct:=N,bk:=D.nx } σ2 H2):=by
 refine ⟨fun i m σ H=>m=n - i∧i≤n∧Pv i σ H,⟨n,by simp,Nat.zero_le _,h0⟩,?_⟩;rintro i m σ H ⟨rfl,hi,p⟩;by_cases hlt:i<n
 ·refine .inr ⟨hlt,Pv (i+1),fun σ' H' p'=>⟨n - (i+1),by omega,rfl,hlt,p'⟩,fun x H' y=>?_⟩;obtain ⟨e,y⟩:=y;subst e y;exact hs i σ _ hlt p
 ·have e:i=n:=by omega
  subst e;exact .inl ⟨Nat.le_refl _,hd σ H p⟩
abbrev R2:=V→V→Hp→VK→Prop
def OpR (X:Cx) (f:Value→Value→Sem Value) (r:R2):Prop :=
 ∀ (pins:List (Addr×Obj)) (s:Shared) (σ:St) (H:Hp) (x y:V) (v u:Value) (Q:VK),Inv X pins σ H s→bG x v→bG y u→r x y H Q →
  wpAny (model X.prog X.w) X.A (f v u) (EP X pins σ Q) X.xe s
def UnR (X:Cx) (f:Value→Sem Value) (r:V→Hp→VK→Prop):Prop :=
 ∀ (pins:List (Addr×Obj)) (s:Shared) (σ:St) (H:Hp) (x:V) (v:Value) (Q:VK),Inv X pins σ H s→bG x v→r x H Q →
  wpAny (model X.prog X.w) X.A (f v) (EP X pins σ Q) X.xe s
def cn (X:Cx) (f:Value) (r:List V→Hp→VK→Prop):Prop :=
 ∀ (pins:List (Addr×Obj)) (s:Shared) (σ:St) (H:Hp) (xs:List V) (us:List Value) (Q:VK),Inv X pins σ H s→aV xs us→r xs H Q →
  wpAny (model X.prog X.w) X.A (call f us) (EP X pins σ Q) X.xe s
def tOp (r:R2) (ta tb:TE):TE:=fun σ H Q=>ta σ H fun x H1=>tb σ H1 fun y H2=>r x y H2 Q
def tUn (r:V→Hp→VK→Prop) (ta:TE):TE:=fun σ H Q=>ta σ H fun x H1=>r x H1 Q
def rI (C:Int→Int→Prop) (g:Int→Int→V):R2:=fun x y H Q=>∃ i j,x=.int i∧y=.int j∧C i j∧Q (g i j) H
def rI0 (g:Int→Int→V):R2:=fun x y H Q=>∃ i j,x=.int i∧y=.int j∧Q (g i j) H
def rU (g:Int→V):V→Hp→VK→Prop:=fun x H Q=>∃ i,x=.int i∧Q (g i) H
section
variable {X:Cx} {a b c:Expr} {ta tb tc:TE} {pos:Pos}
theorem BW (ha:PE X a ta) (hb:PE X b tb) {pins:List (Addr×Obj)} {s:Shared} {σ:St} {H:Hp} {R:V→V→Hp→Prop} (I:Inv X pins σ H s)
  (h:ta σ H fun x H1=>tb σ H1 fun y H2=>R x y H2) {Q:Value→Shared→Prop} {f:Value→Value→Sem Value}
  (hf:∀ v u s2 x y H2,Inv X pins σ H2 s2→bG x v→bG y u→R x y H2→wpAny (model X.prog X.w) X.A (f v u) Q X.xe s2) :
  wpAny (model X.prog X.w) X.A (eval a X.env) (fun v s₁=>wpAny (model X.prog X.w) X.A (eval b X.env) (fun u s₂=>wpAny (model X.prog X.w) X.A (f v u) Q X.xe s₂) X.xe s₁) X.xe s:=by
 refine thn (ha pins s σ H _ I h) fun v s1 ⟨x,H1,I1,r1,q1⟩=>?_;refine thn (hb pins s1 σ H1 _ I1 q1) fun u s2 ⟨y,H2,I2,r2,q2⟩=>?_;exact hf v u s2 x y H2 I2 r1 r2 q2
theorem aB {op:Operator} {r:R2} (ho:OpR X (binaryOp op) r) (ha:PE X a ta) (hb:PE X b tb):PE X (.BinOp a op b pos) (tOp r ta tb):=by
 intro pins s σ H Q I h;exact wpAny_BinOp (BW ha hb I h fun v u s2 x y H2 I2 rx ry q=>ho pins s2 σ H2 x y v u Q I2 rx ry q)
theorem sy {op:UnaryOp} {r:V→Hp→VK→Prop} (ho:UnR X (unaryOp op) r) (ha:PE X a ta):PE X (.UnaryOp op a pos) (tUn r ta):=by
 intro pins s σ H Q I h;exact UnaryOp_ (thn (ha pins s σ H _ I h) fun v s1 ⟨x,H1,I1,r1,q1⟩=>ho pins s1 σ H1 x v Q I1 r1 q1)
theorem opI {f:Value→Value→Sem Value} {C:Int→Int→Prop} {g:Int→Int→Int}
  (rule:∀ (i j:Int) (t u:Tok) (s:Shared) (Q:Value→Shared→Prop) (E:Value→Shared→Prop),C i j→Q (.int (g i j) s.toks) { s with toks:=s.toks+1 }→wpAny (model X.prog X.w) X.A (f (.int i t) (.int j u)) Q E s) :
  OpR X f (rI C fun i j=>.int (g i j)):=by
 intro pins s σ H x y v u Q I rx ry h;obtain ⟨i,j,rfl,rfl,hc,q⟩:=h;obtain ⟨t,rfl⟩:=rx;obtain ⟨t',rfl⟩:=ry;exact rule i j t t' s _ _ hc ⟨.int (g i j),H,I.tok _,⟨_,rfl⟩,q⟩
theorem DC {f:Value→Value→Sem Value} {g:Int→Int→Int}
  (rule:∀ (i j:Int) (t u:Tok) (s:Shared) (Q:Value→Shared→Prop) (E:Value→Shared→Prop),Q (.int (g i j) s.toks) { s with toks:=s.toks+1 }→wpAny (model X.prog X.w) X.A (f (.int i t) (.int j u)) Q E s) :
  OpR X f (rI0 fun i j=>.int (g i j)):=by
 intro pins s σ H x y v u Q I rx ry h;obtain ⟨i,j,rfl,rfl,q⟩:=h;obtain ⟨t,rfl⟩:=rx;obtain ⟨t',rfl⟩:=ry;exact rule i j t t' s _ _ ⟨.int (g i j),H,I.tok _,⟨_,rfl⟩,q⟩
theorem Ar {f:Value→Value→Sem Value} {g:Int→Int→Bool}
  (rule:∀ (i j:Int) (t u:Tok) (s:Shared) (Q:Value→Shared→Prop) (E:Value→Shared→Prop),Q (.bool (g i j)) s→wpAny (model X.prog X.w) X.A (f (.int i t) (.int j u)) Q E s) :
  OpR X f (rI0 fun i j=>.bl (g i j)):=by
 intro pins s σ H x y v u Q I rx ry h;obtain ⟨i,j,rfl,rfl,q⟩:=h;obtain ⟨t,rfl⟩:=rx;obtain ⟨t',rfl⟩:=ry;exact rule i j t t' s _ _ ⟨.bl (g i j),H,I,rfl,q⟩
def Ed (i j:Int):Prop:=0<j∧j<1073741824
def Ee (i j:Int):Prop:=0≤j∧j≤1000000∧i.natAbs<2 ^ 64
def BM (i j:Int):Prop:=(-(2 ^ 64)<i∧i<2 ^ 64)∨(-(2 ^ 64)<j∧j<2 ^ 64)
theorem BM.ok {i j:Int} (h:BM i j):IntMulOk i j:=by
 rcases h with ⟨h1,h2⟩ | ⟨h1,h2⟩
 ·exact .of_left (intBits_le_64 h1 h2)
 ·exact .of_right (intBits_le_64 h1 h2)
theorem aZ:OpR X (binaryOp .Add) (rI0 fun i j=>.int (i+j)):=DC fun _ _ _ _ _ _ _ q=>add_int q
theorem fq:OpR X (binaryOp .Sub) (rI0 fun i j=>.int (i - j)):=DC fun _ _ _ _ _ _ _ q=>sub_int q
theorem gG:OpR X (binaryOp .Mult) (rI BM fun i j=>.int (i*j)):=opI fun _ _ _ _ _ _ _ hc q=>mul_int q hc.ok
theorem gF:OpR X (binaryOp .FloorDiv) (rI Ed fun i j=>.int (i / j)):=opI fun i j _ _ _ _ _ hc q=>by
 have h1:(0:Int)<j:=hc.1;have h2:j<1073741824:=hc.2;exact floordiv_int (by omega) (by rw [Int.fdiv_eq_ediv_of_nonneg i (by omega)]; exact q) (.inl (PyProof.noPylong_small (by omega)))
theorem bh:OpR X (binaryOp .Mod) (rI (fun _ j=>0<j) fun i j=>.int (i%j)):=opI fun i j _ _ _ _ _ hc q=>by
 have h1:(0:Int)<j:=hc;exact mod_int' (by omega) (by rw [Int.fmod_eq_emod_of_nonneg i (by omega)]; exact q)
theorem Cn:OpR X (binaryOp .Pow) (rI Ee fun i j=>.int (i ^ j.toNat)):=opI fun _ _ _ _ _ _ _ hc q=>pow_int_small hc.1 hc.2.1 hc.2.2 q
theorem unI {f:Value→Sem Value} {g:Int→Int}
  (rule:∀ (i:Int) (t:Tok) (s:Shared) (Q:Value→Shared→Prop) (E:Value→Shared→Prop),Q (.int (g i) s.toks) { s with toks:=s.toks+1 }→wpAny (model X.prog X.w) X.A (f (.int i t)) Q E s) :
  UnR X f (rU fun i=>.int (g i)):=by
 intro pins s σ H x v Q I rx h;obtain ⟨i,rfl,q⟩:=h;obtain ⟨t,rfl⟩:=rx;exact rule i t s _ _ ⟨.int (g i),H,I.tok _,⟨_,rfl⟩,q⟩
theorem nD:UnR X (unaryOp .USub) (rU fun i=>.int (-i)):=unI fun _ _ _ _ _ q=>neg_int q
end
def DW:V→V→Bool
 | .non,.non=>true | .non,.int _=>true | .int _,.non=>true | .non,.bl _=>true | .bl _,.non=>true | .non,.str _=>true | .str _,.non=>true
 | .int _,.int _=>true | .bl _,.bl _=>true | .str _,.str _=>true | .byt _,.byt _=>true
 | .int _,.str _=>true | .str _,.int _=>true | .bl _,.str _=>true | .str _,.bl _=>true
 | _,_=>false
def rEq:R2:=fun x y H Q=>DW x y=true∧Q (.bl (decide (x=y))) H
def rNe:R2:=fun x y H Q=>DW x y=true∧Q (.bl (!decide (x=y))) H
theorem lC {i j:Int}:decide (V.int i=V.int j)=(i==j):=by
 rw [Bool.eq_iff_iff];simp
theorem xE {i j:Bool}:decide (V.bl i=V.bl j)=(i==j):=by
 rw [Bool.eq_iff_iff];simp
theorem uV {i j:Str}:decide (V.str i=V.str j)=(i==j):=by
 rw [Bool.eq_iff_iff];simp
theorem uU {i j:Array UInt8}:decide (V.byt i=V.byt j)=(i.toList==j.toList):=by
 rw [Bool.eq_iff_iff]
 cases i
 cases j;simp
section
variable {X:Cx} {a b c:Expr} {ta tb tc:TE} {pos:Pos}
theorem bK {pins:List (Addr×Obj)} {σ:St} {H:Hp} {s:Shared} {Q:VK} {k k':Bool} (I:Inv X pins σ H s) (q:Q (.bl k) H) (e:k=k'):EP X pins σ Q (.bool k') s:=by
 subst e;exact ⟨.bl k,H,I,rfl,q⟩
theorem bJ:OpR X (compareOp .Eq) rEq:=by
 intro pins s σ H x y v u Q I rx ry h;obtain ⟨hs,q⟩:=h
 cases x with
 | non =>
  cases rx
  cases y with
  | non => cases ry; exact PySem.EqNone.eq_none_none (bK I q (by simp))
  | bl j => cases ry; exact PySem.EqNone.eq_none_bool (bK I q (by simp))
  | int j => obtain ⟨t', rfl⟩ := ry; exact PySem.EqNone.eq_none_int (bK I q (by simp))
  | str j => obtain ⟨t', rfl⟩ := ry; exact PySem.EqNone.eq_none_str (bK I q (by simp))
  | _ => exact absurd (show false = true from hs) Bool.false_ne_true
 | bl i =>
  cases rx
  cases y with
  | non => cases ry; exact PySem.EqNone.eq_bool_none (bK I q (by simp))
  | bl j => cases ry; exact eq_bool (bK I q xE)
  | str j => obtain ⟨t', rfl⟩ := ry; exact PySem.EqMixed.eq_bool_str (bK I q (by simp))
  | _ => exact absurd (show false = true from hs) Bool.false_ne_true
 | int i =>
  obtain ⟨t,rfl⟩:=rx
  cases y with
  | non => cases ry; exact PySem.EqNone.eq_int_none (bK I q (by simp))
  | int j => obtain ⟨t', rfl⟩ := ry; exact eq_int (bK I q lC)
  | str j => obtain ⟨t', rfl⟩ := ry; exact PySem.EqMixed.eq_int_str (bK I q (by simp))
  | _ => exact absurd (show false = true from hs) Bool.false_ne_true
 | str i =>
  obtain ⟨t,rfl⟩:=rx
  cases y with
  | non => cases ry; exact PySem.EqNone.eq_str_none (bK I q (by simp))
  | bl j => cases ry; exact PySem.EqMixed.eq_str_bool (bK I q (by simp))
  | int j => obtain ⟨t', rfl⟩ := ry; exact PySem.EqMixed.eq_str_int (bK I q (by simp))
  | str j => obtain ⟨t', rfl⟩ := ry; exact eq_str (bK I q uV)
  | _ => exact absurd (show false = true from hs) Bool.false_ne_true
 | byt i =>
  obtain ⟨t,rfl⟩:=rx
  cases y with
  | byt j => obtain ⟨t', rfl⟩ := ry; exact W.eq_bytes (bK I q uU)
  | _ => exact absurd (show false = true from hs) Bool.false_ne_true
 | _=>cases y<;>exact absurd (show false=true from hs) Bool.false_ne_true
theorem gQ:OpR X (compareOp .NotEq) rNe:=by
 intro pins s σ H x y v u Q I rx ry h;obtain ⟨hs,q⟩:=h
 cases x with
 | non =>
  cases rx
  cases y with
  | non => cases ry; exact PySem.EqNone.ne_none_none (bK I q (by simp))
  | bl j => cases ry; exact PySem.EqNone.ne_none_bool (bK I q (by simp))
  | int j => obtain ⟨t', rfl⟩ := ry; exact PySem.EqNone.ne_none_int (bK I q (by simp))
  | str j => obtain ⟨t', rfl⟩ := ry; exact PySem.EqNone.ne_none_str (bK I q (by simp))
  | _ => exact absurd (show false = true from hs) Bool.false_ne_true
 | bl i =>
  cases rx
  cases y with
  | non => cases ry; exact PySem.EqNone.ne_bool_none (bK I q (by simp))
  | bl j => cases ry; exact ne_bool (bK I q (congrArg not xE))
  | str j => obtain ⟨t', rfl⟩ := ry; exact PySem.EqMixed.ne_bool_str (bK I q (by simp))
  | _ => exact absurd (show false = true from hs) Bool.false_ne_true
 | int i =>
  obtain ⟨t,rfl⟩:=rx
  cases y with
  | non => cases ry; exact PySem.EqNone.ne_int_none (bK I q (by simp))
  | int j => obtain ⟨t', rfl⟩ := ry; exact ne_int (bK I q (congrArg not lC))
  | str j => obtain ⟨t', rfl⟩ := ry; exact PySem.EqMixed.ne_int_str (bK I q (by simp))
  | _ => exact absurd (show false = true from hs) Bool.false_ne_true
 | str i =>
  obtain ⟨t,rfl⟩:=rx
  cases y with
  | non => cases ry; exact PySem.EqNone.ne_str_none (bK I q (by simp))
  | bl j => cases ry; exact PySem.EqMixed.ne_str_bool (bK I q (by simp))
  | int j => obtain ⟨t', rfl⟩ := ry; exact PySem.EqMixed.ne_str_int (bK I q (by simp))
  | str j => obtain ⟨t', rfl⟩ := ry; exact ne_str (bK I q (congrArg not uV))
  | _ => exact absurd (show false = true from hs) Bool.false_ne_true
 | byt i =>
  obtain ⟨t,rfl⟩:=rx
  cases y with
  | byt j => obtain ⟨t', rfl⟩ := ry; exact W.ne_bytes (bK I q (congrArg not uU))
  | _ => exact absurd (show false = true from hs) Bool.false_ne_true
 | _=>cases y<;>exact absurd (show false=true from hs) Bool.false_ne_true
theorem kS:OpR X (compareOp .Lt) (rI0 fun i j=>.bl (decide (i<j))):=Ar fun _ _ _ _ _ _ _ q=>lt_int q
theorem Bs:OpR X (compareOp .LtE) (rI0 fun i j=>.bl (decide (i≤j))):=Ar fun _ _ _ _ _ _ _ q=>le_int q
theorem mG:OpR X (compareOp .Gt) (rI0 fun i j=>.bl (decide (j<i))):=Ar fun _ _ _ _ _ _ _ q=>gt_int q
theorem DD:OpR X (compareOp .GtE) (rI0 fun i j=>.bl (decide (j≤i))):=Ar fun _ _ _ _ _ _ _ q=>ge_int q
theorem wj:OpR X (compareOp .In) (fun x y H Q=>∃ i j,x=.str i∧y=.str j∧Q (.bl (!(Builtin.Str.occurrences j i 0 j.length 1).isEmpty)) H):=by
 intro pins s σ H x y v u Q I rx ry h;obtain ⟨i,j,rfl,rfl,q⟩:=h;obtain ⟨t,rfl⟩:=rx;obtain ⟨t',rfl⟩:=ry;exact in_str (bK I q rfl)
theorem uh:OpR X (compareOp .Is) (fun x y H Q=>y=.non∧Q (.bl (decide (x=.non))) H):=by
 intro pins s σ H x y v u Q I rx ry h;obtain ⟨rfl,q⟩:=h
 cases ry;refine is_none_gen (bK I q ?_)
 cases x<;>first
  | (cases rx; rfl)
  | (obtain ⟨t, rfl⟩ := rx; rfl)
theorem u4:OpR X (compareOp .IsNot) (fun x y H Q=>y=.non∧Q (.bl (!decide (x=.non))) H):=by
 intro pins s σ H x y v u Q I rx ry h;obtain ⟨rfl,q⟩:=h
 cases ry;refine isnot_none_gen (bK I q ?_)
 cases x<;>first
  | (cases rx; rfl)
  | (obtain ⟨t, rfl⟩ := rx; rfl)
theorem aG (b:Expr) {op:CmpOp} (h:op≠.In:=by decide) (h2:op≠.NotIn:=by decide):behindInMarks op b=false:=by
 have e1:(op==CmpOp.In)=false:=by cases op<;>first | rfl | exact absurd rfl h
 have e2:(op==CmpOp.NotIn)=false:=by cases op<;>first | rfl | exact absurd rfl h2
 cases b<;>simp [behindInMarks,e1,e2]
theorem cO {op:CmpOp} {r:R2} (ho:OpR X (compareOp op) r) (ha:PE X a ta) (hb:PE X b tb) (hm:behindInMarks op b=false):PE X (.Compare a [op] [b] pos) (tOp r ta tb):=by
 intro pins s σ H Q I h;exact wpAny_Compare1 (BW ha hb I h fun v u s2 x y H2 I2 rx ry q=>ho pins s2 σ H2 x y v u Q I2 rx ry q) hm
def BL (t:TE):TT:=fun σ H Q=>t σ H fun x H'=>∃ k,x=.bl k∧Q k H'
theorem aD {op:CmpOp} {r:R2} (ho:OpR X (compareOp op) r) (ha:PE X a ta) (hb:PE X b tb) (hm:behindInMarks op b=false):PT X (.Compare a [op] [b] pos) (BL (tOp r ta tb)):=by
 intro pins s σ H Q I h;refine wpAny_isTrue_Compare1 (thn (ha pins s σ H _ I h) fun v s1 ⟨x,H1,I1,r1,q1⟩=>thn (hb pins s1 σ H1 _ I1 q1) fun u s2 ⟨y,H2,I2,r2,q2⟩ =>
  thn (ho pins s2 σ H2 x y v u _ I2 r1 r2 q2) fun c s3 ⟨z,H3,I3,r3,k,e,q3⟩=>?_) hm
 subst e
 cases r3;exact wpAny_truthy_bool ⟨H3,I3,q3⟩
def zw (r r':R2) (ta tb tc:TE):TE:=fun σ H Q=>ta σ H fun x H1=>tb σ H1 fun y H2=>r x y H2 fun z H3=>∃ k,z=.bl k ∧
 (if k=true then tc σ H3 fun w' H4=>r' y w' H4 Q else Q (.bl false) H3)
theorem mH {op op':CmpOp} {r r':R2} (ho:OpR X (compareOp op) r) (ho':OpR X (compareOp op') r') (ha:PE X a ta) (hb:PE X b tb) (hc:PE X c tc)
  (hm:lastMarks [op,op'] [b,c]=false:=by with_unfolding_all rfl):PE X (.Compare a [op,op'] [b,c] pos) (zw r r' ta tb tc):=by
 intro pins s σ H Q I h;refine Compare_chain (thn (ha pins s σ H _ I h) fun v s1 ⟨x,H1,I1,r1,q1⟩=>chain_link (thn (hb pins s1 σ H1 _ I1 q1) fun u s2 ⟨y,H2,I2,r2,q2⟩ =>
  thn (ho pins s2 σ H2 x y v u _ I2 r1 r2 q2) fun d s3 ⟨z,H3,I3,r3,k,e,q3⟩=>?_)) hm
 subst e
 cases r3;refine wpAny_truthy_bool ?_
 cases k with
 | false=>exact ite_ff ⟨.bl false,H3,I3,rfl,q3⟩
 | true=>exact ite_tt (chain_last (thn (hc pins s3 σ H3 _ I3 q3) fun w' s4 ⟨z',H4,I4,r4,q4⟩=>ho' pins s4 σ H4 y z' u w' Q I4 r2 r4 q4))
theorem km:(sizeLine:Nat)<2 ^ 63:=by rw [sizeLine_eq]; decide
theorem mE:OpR X (binaryOp .Add) (fun x y H Q=>∃ i j,x=.str i∧y=.str j∧i.length+j.length≤sizeLine∧Q (.str (i++j)) H):=by
 intro pins s σ H x y v u Q I rx ry h;obtain ⟨i,j,rfl,rfl,hz,q⟩:=h;obtain ⟨t,rfl⟩:=rx;obtain ⟨t',rfl⟩:=ry;exact add_str (fun t' tk=>⟨.str (i++j),H,I.tok _,⟨_,rfl⟩,q⟩) hz
theorem j7 {x:V} {us:List Value} (r:aV [x] us):∃ u,us=[u]∧bG x u:=by
 cases r with
 | cons r1 r2=>cases r2; exact ⟨_,rfl,r1⟩
theorem Ea {x y:V} {us:List Value} (r:aV [x,y] us):∃ u w',us=[u,w']∧bG x u∧bG y w':=by
 cases r with
 | cons r1 r2 =>
  cases r2 with
  | cons r3 r4 => cases r4; exact ⟨_, _, rfl, r1, r3⟩
theorem xu:cn X (.builtin "abs") (fun xs H Q=>∃ i,xs=[.int i]∧Q (.int (if i<0 then -i else i)) H):=by
 intro pins s σ H xs us Q I r h;obtain ⟨i,rfl,q⟩:=h;obtain ⟨u,rfl,t,rfl⟩:=j7 r;exact call_abs_int fun u tk=>⟨.int (if i<0 then -i else i),H,I.tok _,⟨_,rfl⟩,q⟩
theorem vI (hc:X.calm=true):cn X (.builtin "max") (fun xs H Q=>∃ i j,xs=[.int i,.int j]∧Q (.int (if j > i then j else i)) H):=by
 intro pins s σ H xs us Q I r h;obtain ⟨i,j,rfl,q⟩:=h;obtain ⟨u,w',rfl,⟨t,rfl⟩,⟨t',rfl⟩⟩:=Ea r;refine max_two_ints (I.ok.hd hc) fun h' tk k=>⟨_,H,I.kept k,?_,q⟩
 by_cases hj:j > i
 ·rw [if_pos hj,if_pos hj]; exact ⟨_,rfl⟩
 ·rw [if_neg hj,if_neg hj]; exact ⟨_,rfl⟩
theorem vH:cn X (.type "int") (fun xs H Q=>(∃ i,xs=[.int i]∧Q (.int i) H)∨∃ k,xs=[.bl k]∧Q (.int (if k then 1 else 0)) H):=by
 intro pins s σ H xs us Q I r h;rcases h with ⟨i,rfl,q⟩ | ⟨k,rfl,q⟩
 ·obtain ⟨u,rfl,t,rfl⟩:=j7 r;exact call_int_int ⟨.int i,H,I,⟨_,rfl⟩,q⟩
 ·obtain ⟨u,rfl,r1⟩:=j7 r
  cases r1;exact call_int_bool ⟨.int (if k then 1 else 0),H,I.tok _,⟨_,rfl⟩,q⟩
end
structure tP (h:Heap) (x dx C:Addr) (mA:Str→Option Value):Prop where
 obj:h.get? x=some (W.instObj C dx)
 ns:h.Ns1 dx mA
 ne:dx≠x
theorem vY {h:Heap} {dx:Addr} {mA:Str→Option Value} (n:h.Ns1 dx mA):∃ od,h.get? dx=some od∧∀ name,W.lookIn name od=some (mA name):=by
 obtain ⟨o,es,ep,ho,hd,hk,_,hm⟩:=n;refine ⟨o,ho,fun name=>?_⟩;have e:=hm name;unfold nsFind findBy at e;rw [← Array.find?_toList] at e;unfold W.lookIn;rw [hd];dsimp only
 split
 ·rename_i y q;rw [q] at e;exact congrArg some e
 ·rename_i q;rw [q] at e
  have a:es.toList.any (·.refKey)=false:=by
   rw [List.any_eq_false];intro y hy;obtain ⟨z,t,hkey⟩:=hk y (Array.mem_toList_iff.mp hy);simp [DictEntry.refKey,hkey]
  have a':¬ es.toList.any (·.refKey)=true:=by rw [a]; exact Bool.false_ne_true
  rw [if_neg a'];exact congrArg some e
theorem tP.look {h:Heap} {x dx C:Addr} {mA:Str→Option Value} (I:tP h x dx C mA):∃ od,PySem.W.InstAt h x (W.instObj C dx) C (some od)∧∀ name,W.lookIn name od=some (mA name) :=
 let ⟨od,ho,hl⟩:=vY I.ns
 ⟨od,⟨I.obj,rfl,rfl,ho⟩,hl⟩
section
variable {prog:Program} {w:World} {A:Around} {E:Value→Shared→Prop} {s:Shared} {K:W.Frag} {x dx C f:Addr} {mA:Str→Option Value} {name:Str} {v:Value}
theorem Af {expr:Bool} {Q:Value→Shared→Prop} (X:K.In s.heap) (I:tP s.heap x dx C mA) (hg:W.plainGet K C name=true) (hh:W.hasDictIn K C=true)
  (ha:W.findIn K (.ref C) name=some none) (hv:mA name=some v) (hv':W.handedIn v=true) (h:Q v { s with toks:=s.toks+1 }) :
  wpAny (model prog w) A (getAttr (.ref x) name expr) Q E s:=by
 obtain ⟨od,J,hl⟩:=I.look;exact W.get_value X J (W.plainGet_of hg).1 (W.findObj_own hh ha rfl (by rw [hl,hv])) hv' h
theorem xO {pl:Sem Bool} {Q:Value×List Value→Shared→Prop} (X:K.In s.heap) (I:tP s.heap x dx C mA) (hg:W.plainGet K C name=true)
  (hf:W.findIn K (.ref C) name=some (some (.ref f))) (ht:W.isFn K (.ref f)=true) (hv:mA name=none) (h:Q (.ref f,[.ref x]) s) :
  wpAny (model prog w) A (getMethod (.ref x) name pl) Q E s:=by
 obtain ⟨od,J,hl⟩:=I.look;exact W.method_fn X J (W.plainGet_of hg).1 (W.plainGet_of hg).2 hf (beq_iff_eq.mp ht) (by show (W.lookIn name od).map (·.isSome)=some false; rw [hl,hv]; rfl) h
theorem A5 {ns:List Str} {Q:Unit→Shared→Prop} (X:K.In s.heap) (I:tP s.heap x dx C mA)
  (hs:W.findIn K (.ref C) "__setattr__"=some (some (.builtin "object.__setattr__"))) (hp:W.plainOver K C=true) (ht:W.takerIn K C name=some none) (hh:W.hasDictIn K C=true)
  (hw:PySem.Within mA ns) (hsz:ns.length≤sizeLine)
  (h:∀ h',tP h' x dx C (fun y=>if y=name then some v else mA y)→Heap.SameBut dx s.heap h'→Q () { s with heap:=h',toks:=s.toks+2 }) :
  wpAny (model prog w) A (setAttr (.ref x) name v) Q E s:=by
 obtain ⟨od,J,hl⟩:=I.look;refine W.set_plain X J hs (W.osa_open (s:={ s with toks:=s.toks+1 }) (r:=none) X J hp ht fun b=>?_);obtain ⟨cd,hc,hd'⟩:=W.any_some hh;have hx:s.heap.get? x=some ⟨.ref C,some dx,.plain,#[]⟩:=I.obj;refine wpAny_bind (wpAny_pure (wpAny_bind (wpAny_bind (wpAny_loadPart hx (wpAny_bind (PySem.W.Looks.here (s:={ s with toks:=s.toks+1 }) (W.looks_clsIn X hc) ?_))))));rw [hd'];refine wpAny_pure (a:=some dx) (wpAny_bind (wpAny_pure (wpAny_bind ?_)));refine wpAny_nsSet1 (s:={ s with toks:=s.toks+1 }) I.ns fun h' hn2 hs2=>?_;obtain ⟨oD,esD,epD,hoD,hdD,hcD⟩:=hn2.count (PySem.Within.cons name v hw);refine wpAny_bind (wpAny_lookBehind hoD (by rw [hdD]; exact pastItsLine_dict (Nat.le_trans hcD (by rw [List.length_cons]; omega))) ?_);exact wpAny_pure (h _ ⟨(hs2.2 _ (Ne.symm I.ne)).trans I.obj,hn2,I.ne⟩ hs2)
theorem se {R:Result→Shared→Prop} {vs:List Value} {kw:List (Str×Value)} (X:K.In s.heap) (hm:W.makesIn K C=true)
  (hi:W.findIn K (.ref C) "__init__"=some (some (.ref f))) (hf:W.typeIn K (.ref f)=some (.type "function"))
  (h:codeAny (model prog w) (A.under (.builtin "type.__call__" ⟨.ref C::vs,kw⟩)) (.call (.ref f) ⟨.ref (s.heap.objs.size+1)::vs,kw⟩) (PySem.W.InitBack (s.heap.objs.size+1) R)
   { s with heap:=(s.heap.push W.emptyDict).push (W.instObj C s.heap.objs.size) }) :
  codeAny (model prog w) A (.call (.ref C) ⟨vs,kw⟩) R s:=by
 obtain ⟨hh,g,d,t,os⟩:=s;exact W.make_core (W.makes_of X hm) (W.looks_findIn X hi) (fun self=>W.bind_fn X self hf) (.inl rfl) h
end
def cG (f:Str) (v:V):List (Str×V)→List (Str×V)
 | []=>[(f,v)]
 | (g,x)::r=>if g=f then (g,v)::r else (g,x)::cG f v r
theorem az (f g:Str) (v:V):∀ fs:List (Str×V),(cG f v fs).lookup g=if g=f then some v else fs.lookup g
 | []=>by
  show List.lookup g [(f,v)]=_
  by_cases h:g=f
  ·have hb:(g==f)=true:=beq_iff_eq.mpr h;simp only [List.lookup,hb,if_pos h]
  ·have hb:(g==f)=false:=beq_eq_false_iff_ne.mpr h;simp only [List.lookup,hb,if_neg h]
 | (k,x)::r=>by
  have ih:=az f g v r;rw [show cG f v ((k,x)::r)=(if k=f then (k,v)::r else (k,x)::cG f v r) from rfl];by_cases hk:k=f
  ·rw [if_pos hk];by_cases h:g=k
   ·have hb:(g==k)=true:=beq_iff_eq.mpr h;simp only [List.lookup,hb,if_pos (h.trans hk)]
   ·have hb:(g==k)=false:=beq_eq_false_iff_ne.mpr h;simp only [List.lookup,hb,if_neg (fun e:g=f=>h (e.trans hk.symm))]
  ·rw [if_neg hk];by_cases h:g=k
   ·have hb:(g==k)=true:=beq_iff_eq.mpr h;simp only [List.lookup,hb,if_neg (fun e:g=f=>hk (h.symm.trans e))]
   ·have hb:(g==k)=false:=beq_eq_false_iff_ne.mpr h;simp only [List.lookup,hb];exact ih
theorem fV (f:Str) (v:V):∀ fs:List (Str×V),f∈(cG f v fs).map (·.1)∧∀ g,g∈fs.map (·.1)→g∈(cG f v fs).map (·.1)
 | []=>⟨by simp [cG],fun g h=>by simp at h⟩
 | (k,x)::r=>by
  obtain ⟨i1,i2⟩:=fV f v r;rw [show cG f v ((k,x)::r)=(if k=f then (k,v)::r else (k,x)::cG f v r) from rfl];by_cases hk:k=f
  ·rw [if_pos hk];subst hk;exact ⟨by simp,fun g h=>by simpa using h⟩
  ·rw [if_neg hk];refine ⟨?_,fun g h=>?_⟩
   ·rw [List.map_cons];exact List.mem_cons_of_mem _ i1
   ·rw [List.map_cons] at h ⊢;rcases List.mem_cons.mp h with e | e
    ·exact List.mem_cons.mpr (.inl e)
    ·exact List.mem_cons_of_mem _ (i2 g e)
theorem bu (f:Str) (v:V):∀ fs:List (Str×V),(cG f v fs).length≤fs.length+1
 | []=>by simp [cG]
 | (k,x)::r=>by
  have ih:=bu f v r;rw [show cG f v ((k,x)::r)=(if k=f then (k,v)::r else (k,x)::cG f v r) from rfl];by_cases hk:k=f
  ·rw [if_pos hk,List.length_cons,List.length_cons]; omega
  ·rw [if_neg hk,List.length_cons,List.length_cons]; omega
theorem fM.some_of {v:V} {o:Option Value} (r:fM (some v) o):∃ u,o=some u∧bG v u:=by
 cases o with
 | none=>exact (show False from r).elim
 | some u=>exact ⟨u,rfl,r⟩
theorem fM.none_of {o:Option Value} (r:fM none o):o=none:=by
 cases o with
 | none=>rfl
 | some u=>exact (show False from r).elim
theorem vS {v:V} {u:Value} (r:bG v u):W.handedIn u=true:=by
 cases v with
 | non=>cases (show u=Value.none from r); rfl
 | bl b=>cases (show u=Value.bool b from r); rfl
 | int i=>obtain ⟨t,e⟩:=(show ∃ t,u=Value.int i t from r); cases e; rfl
 | str x=>obtain ⟨t,e⟩:=(show ∃ t,u=Value.str x t from r); cases e; rfl
 | byt b=>obtain ⟨t,e⟩:=(show ∃ t,u=Value.bytes b t from r); cases e; rfl
 | flt b=>obtain ⟨t,e⟩:=(show ∃ t,u=Value.float b t from r); cases e; rfl
 | ref a=>cases (show u=Value.ref a from r); rfl
 | ty n=>cases (show u=Value.type n from r); rfl
section
variable {P:Program} {w:World} {H H':Hp} {h h':Heap} {a C dx:Addr} {fs fs':List (Str×V)}
theorem lE (hok:HOk P w H h) (e:H a=some (.ins C dx fs)):∃ mA,tP h a dx C mA∧(∀ f,fM (fs.lookup f) (mA f))∧PySem.Within mA (fs.map (·.1))∧fs.length≤1000∧H dx=some (.own a):=by
 obtain ⟨d,z,ne,ob,mA,n,r,q⟩:=(show bM P w H h a (.ins C dx fs) from hok a _ e)
 exact ⟨mA,⟨ob,n,ne⟩,r,q,z,d⟩
end
structure Cls (K:W.Frag) (C:Addr):Prop where
 pg:W.plainGet K C Str.empty=true
 hd:W.hasDictIn K C=true
 po:W.plainOver K C=true
 sa:W.findIn K (.ref C) "__setattr__"=some (some (.builtin "object.__setattr__"))
theorem Cls.get {K:W.Frag} {C:Addr} (c:Cls K C) (f:Str):W.plainGet K C f=true:=c.pg
def cR (K:W.Frag) (C:Addr) (f:Str):Prop:=W.findIn K (.ref C) f=some none
theorem cR.taker {K:W.Frag} {C:Addr} {f:Str} (n:cR K C f):W.takerIn K C f=some none:=by
 unfold W.takerIn;rw [show W.findIn K (.ref C) f=some none from n];rfl
structure Con (K:W.Frag) (C:Addr) (f:Str) (v:V) (u:Value):Prop where
 at_:W.findIn K (.ref C) f=some (some u)
 rel:bG v u
 get:W.specialIn K u "__get__"=some none
 cp:W.copiedNames.contains f=false
structure dG (K:W.Frag) (C:Addr) (m:Str) (f:Addr):Prop where
 at_:W.findIn K (.ref C) m=some (some (.ref f))
 fn:W.isFn K (.ref f)=true
 kp:W.keepIn K (.ref f)=true
section
variable {X:Cx} {pins:List (Addr×Obj)} {σ:St} {H:Hp} {s:Shared} {a C dx:Addr} {fs:List (Str×V)} {f:Str} {v:V} {A:Around} {E:Value→Shared→Prop}
theorem tY {b:Bool} {Q:Value→Shared→Prop} (I:Inv X pins σ H s) (e:H a=some (.ins C dx fs)) (c:Cls X.K C) (n:cR X.K C f) (l:fs.lookup f=some v)
  (h:∀ u s',Inv X pins σ H s'→bG v u→Q u s'):wpAny (model X.prog X.w) A (getAttr (.ref a) f b) Q E s:=by
 obtain ⟨mA,O,r,_,_,_⟩:=lE I.hok e;obtain ⟨u,hu,ru⟩:=fM.some_of (v:=v) (o:=mA f) (by rw [← l]; exact r f);exact Af I.kIn O (c.get f) c.hd n hu (vS ru) (h u _ (I.tok _) ru)
theorem gu {m:Str} {g:Addr} {pl:Sem Bool} {Q:Value×List Value→Shared→Prop} (I:Inv X pins σ H s) (e:H a=some (.ins C dx fs)) (c:Cls X.K C) (k:dG X.K C m g) (l:fs.lookup m=none)
  (h:Q (.ref g,[.ref a]) s):wpAny (model X.prog X.w) A (getMethod (.ref a) m pl) Q E s:=by
 obtain ⟨mA,O,r,_,_,_⟩:=lE I.hok e;have hn:mA m=none:=fM.none_of (by rw [← l]; exact r m);exact xO I.kIn O (c.get m) k.at_ k.fn hn h
theorem uz {y:V} {u:Value} {Q:Unit→Shared→Prop} (I:Inv X pins σ H s) (e:H a=some (.ins C dx fs)) (c:Cls X.K C) (n:cR X.K C f) (hl:fs.length<1000) (ry:bG y u)
  (h:∀ s',Inv X pins σ (upd H a (.ins C dx (cG f y fs))) s'→Q () s'):wpAny (model X.prog X.w) A (setAttr (.ref a) f u) Q E s:=by
 obtain ⟨mA,O,r,wi,_,ho⟩:=lE I.hok e;have hz:(fs.map (·.1)).length≤sizeLine:=by rw [List.length_map,sizeLine_eq]; omega
 refine A5 I.kIn O c.sa c.po n.taker c.hd wi hz fun h' O' sb=>h _ ?_;have hd:∃ o,h'.get? dx=some o:=let ⟨o,_,_,e',_⟩:=O'.ns; ⟨o,e'⟩;refine I.write (x:=a) (e:=dx) (by rw [e]; exact True.intro) (.inr ho) (fun b q hb z=>(sb.2 b hb).trans z) hd ?_;refine ⟨by rw [au O.ne]; exact ho,?_,O.ne,O'.obj,_,O'.ns,fun g=>?_,fun g hg=>?_⟩
 ·have:=bu f y fs; omega
 ·show fM ((cG f y fs).lookup g) (if g=f then some u else mA g)
  rw [az];by_cases q:g=f
  ·rw [if_pos q,if_pos q]; exact ry
  ·rw [if_neg q,if_neg q]; exact r g
 ·by_cases q:g=f
  ·rw [q]; exact (fV f y fs).1
  ·refine (fV f y fs).2 g (wi g fun z=>hg ?_)
   show (if g=f then some u else mA g)=none
   rw [if_neg q]; exact z
theorem Inv.made (I:Inv X pins σ H s):Inv X pins σ (upd (upd H s.heap.objs.size (.own (s.heap.objs.size+1))) (s.heap.objs.size+1) (.ins C s.heap.objs.size []))
  { s with heap:=(s.heap.push W.emptyDict).push (W.instObj C s.heap.objs.size) }:=by
 have e1:(s.heap.push W.emptyDict).get? s.heap.objs.size=some W.emptyDict:=Heap.get?_push_size s.heap rfl
 have e2:((s.heap.push W.emptyDict).push (W.instObj C s.heap.objs.size)).get? (s.heap.objs.size+1)=some (W.instObj C s.heap.objs.size):=by
  have:=Heap.get?_push_size (s.heap.push W.emptyDict) (o:=W.instObj C s.heap.objs.size) rfl
  rwa [Heap.size_push] at this
 have e3:(s.heap.push W.emptyDict).Ns s.heap.objs.size (fun _=>none):=⟨W.emptyDict,#[],_,e1,rfl,(fun e he=>absurd he (by simp)),fun _=>rfl⟩
 have I1:=I.laid (a:=s.heap.objs.size) (o:=.own (s.heap.objs.size+1)) (h':=s.heap.push W.emptyDict) (t':=s.toks) (fun b u q=>Heap.get?_push_of_some _ q) (Nat.le_refl _) ⟨_,e1⟩;refine I1.laid (a:=s.heap.objs.size+1) (o:=.ins C s.heap.objs.size []) (t':=s.toks) (fun b u q=>Heap.get?_push_of_some _ q) (Nat.le_of_eq (Heap.size_push _ _)) ?_;have ne:s.heap.objs.size≠s.heap.objs.size+1:=Nat.ne_of_lt (Nat.lt_succ_self _);refine ⟨by rw [au ne,ae],Nat.zero_le _,ne,e2,fun _=>none,(Heap.Ns1.of_empty e3).at fun o q=>Heap.get?_push_of_some _ q,fun _=>True.intro,fun y hy=>absurd rfl hy⟩
theorem zU {prog:Program} {w:World} {env:Env} {e:Expr} {f:Str} {pos:Pos} {s:Shared} {Q:Value→Shared→Prop} (hb:attributeBase e f env (eval e env)=eval e env)
  (h:wpAny (model prog w) A (eval e env) (fun o s₁=>wpAny (model prog w) A (getAttr o f true) Q E s₁) E s):wpAny (model prog w) A (eval (.Attribute e f pos) env) Q E s :=
 Attribute_any_ h (by rw [arm_eval_Attribute,hb])
end
def De (K:W.Frag) (ta:TE) (f:Str):TE:=fun σ H Q=>ta σ H fun x H1=>∃ a C dx fs v,x=.ref a∧H1 a=some (.ins C dx fs)∧Cls K C∧cR K C f∧fs.lookup f=some v∧Q v H1
def DV (K:W.Frag) (ta tv:TE) (f:Str):TS:=fun D σ H=>tv σ H fun y H1=>ta σ H1 fun x H2=>∃ a C dx fs,x=.ref a∧H2 a=some (.ins C dx fs)∧Cls K C∧cR K C f∧fs.length<1000 ∧
 D.nx σ (upd H2 a (.ins C dx (cG f y fs)))
section
variable {X:Cx} {o e value:Expr} {f:Str} {pos pos' tpos:Pos} {ta tv:TE}
theorem Cp (he:PE X e ta) (hb:attributeBase e f X.env (eval e X.env)=eval e X.env):PE X (.Attribute e f pos) (De X.K ta f):=by
 intro pins s σ H Q I h;refine zU hb (thn (he pins s σ H _ I h) fun u s1 ⟨x,H1,I1,rx,a,C,dx,fs,v,ex,ea,c,n,l,q⟩=>?_);subst ex;obtain rfl:u=Value.ref a:=rx
 exact tY I1 ea c n l fun u' s2 I2 ru=>⟨v,H1,I2,ru,q⟩
theorem dC (ha:PE X o ta) (hv:PE X value tv) (hs:swapsWith value (some (.Attribute o f pos')) pos.line X.env=pure false):PS X (.Assign [.Attribute o f pos'] value pos) (DV X.K ta tv f):=by
 intro pins s σ H D I h;refine plainObj_wpAny_Assign_Attribute (thn (hv pins s σ H _ I h) fun u s1 ⟨y,H1,I1,ry,q⟩=>thn (ha pins s1 σ H1 _ I1 q) fun ov s2 ⟨x,H2,I2,rx,a,C,dx,fs,ex,ea,c,n,l,q2⟩=>?_) hs;subst ex;obtain rfl:ov=Value.ref a:=rx
 exact uz I2 ea c n l ry fun s3 I3=>⟨σ,_,I3,q2⟩
end
section
variable {X:Cx} {pins:List (Addr×Obj)} {σ:St} {H:Hp} {s:Shared} {A:Around} {E:Value→Shared→Prop} {Q:Value→Shared→Prop} {c:Value} {b:Bool}
inductive i0 (K:W.Frag) (H:Hp):V→Value→Prop where
  | non : i0 K H .non (.type "NoneType")
  | bl (x : Bool) : i0 K H (.bl x) (.type "bool")
  | int (i : Int) : i0 K H (.int i) (.type "int")
  | str (x : Str) : i0 K H (.str x) (.type "str")
  | flt (x : UInt64) : i0 K H (.flt x) (.type "float")
  | lst {a : Addr} {xs : List V} (e : H a = some (.lst xs)) : i0 K H (.ref a) (.type "list")
  | frz {a : Addr} {o : Obj} {xs : List V} (e : H a = some (.frz o (.lst xs))) : i0 K H (.ref a) (.type "list")
  | tup {a : Addr} {xs : List V} (e : H a = some (.tup xs)) : i0 K H (.ref a) (.type "tuple")
  | dK {a : Addr} {kvs : List (Key × V)} (e : H a = some (.dK kvs)) : i0 K H (.ref a) (.type "dict")
  | dT {a : Addr} {kvs : List (List Key × V)} (e : H a = some (.dT kvs)) : i0 K H (.ref a) (.type "dict")
  | ins {a C dx : Addr} {fs : List (Str × V)} (e : H a = some (.ins C dx fs)) (cl : Cls K C) (ha : W.findIn K (.ref C) "__class__" = some (some (.builtin "object.__class__")))
      (hn:W.specialIn K (.builtin "object.__class__") "__get__"=some (some (.builtin "getset_descriptor.__get__"))) (htk:W.takesIn K (.builtin "object.__class__")=some true)
      (hm:W.mroIn K C (.type "object")=some true):i0 K H (.ref a) (.ref C)
theorem vU {x:V} {u t:Value} (I:Inv X pins σ H s) (rx:bG x u) (ty:i0 X.K H x t) (e:W.kitOne X.K t c=some b) (h:∀ tk,Q (.bool b) { s with toks:=tk }) :
  wpAny (model X.prog X.w) A (call (.builtin "isinstance") [u,c]) Q E s:=by
 cases ty with
 | non=>cases (show u=Value.none from rx); exact W.kia_one W.kitx_none I.kIn True.intro e (fun z=>nomatch z) h
 | bl y=>cases (show u=Value.bool y from rx); exact W.kia_one W.kitx_bool I.kIn True.intro e (fun z=>nomatch z) h
 | int i=>obtain ⟨t,q⟩:=(show ∃ t,u=Value.int i t from rx); cases q; exact W.kia_one W.kitx_int I.kIn True.intro e (fun z=>nomatch z) h
 | str y=>obtain ⟨t,q⟩:=(show ∃ t,u=Value.str y t from rx); cases q; exact W.kia_one W.kitx_str I.kIn True.intro e (fun z=>nomatch z) h
 | flt y=>obtain ⟨t,q⟩:=(show ∃ t,u=Value.float y t from rx); cases q; exact W.kia_one W.kitx_float I.kIn True.intro e (fun z=>nomatch z) h
 | @lst a xs ea =>
  cases (show u=Value.ref a from rx)
  obtain ⟨_,_,n,_,h1⟩:=(show bM X.prog X.w H s.heap a (.lst xs) from I.hok a _ ea)
  exact W.kia_one W.kitx_list I.kIn ⟨_,h1,rfl⟩ e (fun z=>nomatch z) h
 | @frz a ob xs ea =>
  cases (show u=Value.ref a from rx)
  obtain ⟨_,_,_,n,_,h1⟩:=(show bM X.prog X.w H s.heap a (.frz ob (.lst xs)) from I.hok a _ ea)
  exact W.kia_one W.kitx_list I.kIn ⟨_,h1,rfl⟩ e (fun z=>nomatch z) h
 | @tup a xs ea =>
  cases (show u=Value.ref a from rx)
  obtain ⟨_,_,_,p⟩:=(show bM X.prog X.w H s.heap a (.tup xs) from I.hok a _ ea)
  obtain ⟨o,h1,h2,_⟩:=p;exact W.kia_one W.kitx_tuple I.kIn ⟨o,h1,h2⟩ e (fun z=>nomatch z) h
 | @dK a kvs ea =>
  cases (show u=Value.ref a from rx)
  obtain ⟨_,_,vs,_,p⟩:=(show bM X.prog X.w H s.heap a (.dK kvs) from I.hok a _ ea)
  obtain ⟨o,es,ep,h1,h2,_⟩:=p;exact W.kia_one W.kitx_dict I.kIn ⟨o,h1,h2.1⟩ e (fun z=>nomatch z) h
 | @dT a kvs ea =>
  cases (show u=Value.ref a from rx)
  obtain ⟨_,_,xs,_,o,es,ep,h1,h2,_⟩:=(show bM X.prog X.w H s.heap a (.dT kvs) from I.hok a _ ea)
  exact W.kia_one W.kitx_dict I.kIn ⟨o,h1,h2.1⟩ e (fun z=>nomatch z) h
 | @ins a C dx fs ea cl ha hn htk hm =>
  cases (show u=Value.ref a from rx)
  obtain ⟨mA,O,_⟩:=lE I.hok ea;obtain ⟨od,J,_⟩:=O.look;exact W.kia_one (W.kitx_own (cl.get _) cl.hd ha hn htk hm) I.kIn J e (fun z=>nomatch z) h
end
structure cS (k:Nat) (A:Around):Prop where
 hd:A.handled=none
 dp:A.depth+3*k+5<recursionLimit
 un:A.units+16*k+200<cLine
theorem cS.mono {j k:Nat} {A:Around} (r:cS k A) (h:j≤k):cS j A:=⟨r.hd,by have:=r.dp; omega,by have:=r.un; omega⟩
theorem cS.deeper {k:Nat} {A:Around} (r:cS (k+1) A) (env:Env):cS k (A.deeper env) :=
 ⟨r.hd,by have:=r.dp; show A.depth+1+3*k+5<_; omega,by have:=r.un; show A.units+3+16*k+200<_; omega⟩
theorem ub {A:Around} {C:Addr} {us:List Value} {kw:List (Str×Value)}:(A.under (.builtin "type.__call__" ⟨.ref C::us,kw⟩)).depth=A.depth+1:=by
 first | rfl | simp [Around.under,Code.weight,Code.isCreation,Code.isGuard,Code.isCaller,Code.frames,Code.isFrame,guardIds]
theorem uc {A:Around} {C:Addr} {us:List Value} {kw:List (Str×Value)}:(A.under (.builtin "type.__call__" ⟨.ref C::us,kw⟩)).units=A.units+1:=by
 first | rfl | simp [Around.under,Code.cUnits,Code.frames,Code.isFrame]
theorem cS.make {k:Nat} {A:Around} (r:cS (k+1) A) (C:Addr) (us:List Value) (kw:List (Str×Value)):cS k (A.under (.builtin "type.__call__" ⟨.ref C::us,kw⟩)) :=
 ⟨r.hd,by have:=r.dp; rw [ub]; omega,by have:=r.un; rw [uc]; omega⟩
theorem cS.depth {k:Nat} {A:Around} (r:cS k A):A.depth<recursionLimit:=by have:=r.dp; omega
theorem cS.units {k:Nat} {A:Around} (r:cS k A):A.units+64<cLine:=by have:=r.un; omega
def zF:TA:=fun _ H Q=>Q [] H
def BD (ta:TE) (tr:TA):TA:=fun σ H Q=>ta σ H fun x H1=>tr σ H1 fun xs H2=>Q (x::xs) H2
section
variable {X:Cx} {e:Expr} {es:List Expr} {te:TE} {t:TA} {pos:Pos}
theorem af:PA X [] zF:=fun _ _ _ _ H Q I h=>Calls.spliced_nil ⟨[],H,I,.nil,h⟩
theorem aa (ha:PE X e te) (hr:PA X es t) (hs:starEach (e::es) X.env=(false,eval e X.env)::starEach es X.env:=by rfl):PA X (e::es) (BD te t):=by
 intro pos pins s σ H Q I h;rw [hs]
 show wpAny _ _ (spliced ((false,eval e X.env)::backTo pos (starEach es X.env))) _ _ s
 refine Calls.spliced_cons (thn (ha pins s σ H _ I h) fun u s1 ⟨x,H1,I1,r1,q1⟩=>?_);exact thn (hr pos pins s1 σ H1 _ I1 q1) fun us s2 ⟨xs,H2,I2,r2,q2⟩=>⟨x::xs,H2,I2,.cons r1 r2,q2⟩
def D9 (t:TA):TE:=fun σ H Q=>t σ H fun xs H1=>xs.length≤sizeLine∧∀ p,H1 p=none→Q (.ref p) (upd H1 p (.tup xs))
def Bd (t:TA):TE:=fun σ H Q=>t σ H fun xs H1=>xs.length≤sizeLine∧∀ p,H1 p=none→Q (.ref p) (upd H1 p (.lst xs))
theorem bq {x1} (h:PA X es t):PE X (.Tuple es x1 pos) (D9 t):=by
 intro pins s σ H Q I hq;refine wpAny_Tuple_spliced (thn (h pos pins s σ H _ I hq) fun us s1 ⟨xs,H1,I1,r,z,q⟩=>⟨by rw [← r.length]; exact z,?_⟩);have hf:H1 s1.heap.objs.size=none:=I1.hok.fresh (Nat.le_refl _);refine ⟨.ref s1.heap.objs.size,upd H1 s1.heap.objs.size (.tup xs),I1.laid (t':=s1.toks) (fun b u e=>Heap.get?_push_of_some _ e) (Nat.le_refl _) ?_,rfl,q _ hf⟩;exact ⟨z,us,r,⟨_,Heap.get?_push_size _ rfl,rfl,_,rfl⟩⟩
theorem bP (h:PA X es t):PE X (.List es pos) (Bd t):=by
 intro pins s σ H Q I hq;refine wpAny_List_spliced (thn (h pos pins s σ H _ I hq) fun us s1 ⟨xs,H1,I1,r,z,q⟩=>⟨by rw [← r.length]; exact z,?_⟩);have hf:H1 s1.heap.objs.size=none:=I1.hok.fresh (Nat.le_refl _);refine ⟨.ref s1.heap.objs.size,upd H1 s1.heap.objs.size (.lst xs),I1.laid (t':=s1.toks) (fun b u e=>Heap.get?_push_of_some _ e) (Nat.le_refl _) ?_,rfl,q _ hf⟩;exact ⟨z,us,0,r,Heap.get?_push_size _ rfl⟩
end
abbrev Sp:=List V→Hp→VK→XK→Prop
abbrev CXT:=List Env→Hp→Shared→XK→Value→Shared→Prop
structure rE (P:Program) (w:World) (K:W.Frag) (mg:Str→Option Value) (base:Heap) (A:Around) (outer:List Env) (s:Shared) (H:Hp):Prop where
 frames:A.frames=some outer
 mod:Mod K mg base
 bs:∀ b o,base.get? b=some o→s.heap.get? b=some o∧H b=none
 bsz:base.objs.size≤s.heap.objs.size
 funs:s.heap.FunFrames base outer
 frf:∀ b∈frs outer,H b=none
 hok:HOk P w H s.heap
 bare:AllBare s.gens
def CE (outer:List Env) (P:Program) (w:World) (H:Hp) (s:Shared) (Q:VK) (u:Value) (s':Shared):Prop :=
 ∃ v H',s'.os=s.os∧AllBare s'.gens∧Un (frs outer) [] H H' s.heap s'.heap∧HOk P w H' s'.heap∧bG v u∧Q v H'
def CR (CX:CXT) (outer:List Env) (P:Program) (w:World) (H:Hp) (s:Shared) (Q:VK) (E:XK) (r:Result) (s':Shared):Prop :=
 match r with
 | .ok (.ret u)=>CE outer P w H s Q u s'
 | .ok _=>False
 | .error e=>CX outer H s E e s'
structure aU (P:Program) (w:World) (K:W.Frag) (mg:Str→Option Value) (base:Heap) (CX:CXT) (k:Nat) (f:Addr) (fd:FuncData) (ps:List Str) (sp:Sp):Prop where
 len:∀ vs H Q E,sp vs H Q E→vs.length=ps.length
 run:∀ (A:Around) (outer:List Env) (s:Shared) (H:Hp) (args:Args) (us:List Value) (vs:List V) (Q:VK) (E:XK),cS k A→rE P w K mg base A outer s H→BindsTo s fd args (ps.zip us)→aV vs us→sp vs H Q E →
  codeAny (model P w) A (.call (.ref f) args) (CR CX outer P w H s Q E) s
theorem rE.make {P:Program} {w:World} {K:W.Frag} {mg:Str→Option Value} {base:Heap} {A:Around} {outer:List Env} {s:Shared} {H:Hp} (e:rE P w K mg base A outer s H) (C:Addr) (us:List Value) (kw:List (Str×Value)) :
  rE P w K mg base (A.under (.builtin "type.__call__" ⟨.ref C::us,kw⟩)) outer s H:=⟨by first | exact e.frames | (simpa [Around.under,Code.envs,Code.isFrame,pushEnvs] using e.frames),e.mod,e.bs,e.bsz,e.funs,e.frf,e.hok,e.bare⟩
section
variable {X:Cx} {pins:List (Addr×Obj)} {σ:St} {H:Hp} {s s':Shared}
theorem Inv.env0 (I:Inv X pins σ H s):rE X.prog X.w X.K X.mg X.base X.A X.stack s H :=
 ⟨I.ok.frames,I.ok.mod,I.bs,Nat.le_trans I.ok.bsz I.sz,I.stack,I.stkFree,I.hok,I.bare⟩
theorem Inv.after {Q:VK} {u:Value} (I:Inv X pins σ H s) (h:CE X.stack X.prog X.w H s Q u s'):EP X pins σ Q u s':=by
 obtain ⟨v,H',os,bare,un,hok,r,q⟩:=h;obtain ⟨hh,g,d,t,os'⟩:=s';obtain rfl:os'=s.os:=os
 exact ⟨v,H',I.call (h':=hh) (g':=g) (d':=d) (t':=t) (ch:=[]) un hok bare (fun b z=>absurd z (by simp)),r,q⟩
end
def vo (sp:Sp) (dvs:List V) (E:XK) (t:TA):TE:=fun σ H Q=>t σ H fun vs H1=>sp (vs++dvs) H1 Q E
def zE (C:Addr) (m:Str) (sp:Sp) (dvs:List V) (E:XK) (ta:TE) (t:TA):TE:=fun σ H Q=>ta σ H fun x H1=>∃ a dx fs,x=.ref a∧H1 a=some (.ins C dx fs)∧fs.lookup m=none ∧
 t σ H1 fun vs H2=>sp (x::(vs++dvs)) H2 Q E
def zC (C:Addr) (sp:Sp) (dvs:List V) (E:XK) (t:TA):TE:=fun σ H Q=>t σ H fun vs H1=>∀ x dx,H1 x=none→H1 dx=none→dx≠x →
 sp (.ref x::(vs++dvs)) (upd (upd H1 dx (.own x)) x (.ins C dx [])) (fun v H2=>v=.non∧Q (.ref x) H2) E
def aK (K:W.Frag) (fd:FuncData) (ps:List Str) (ds:List Value):Prop :=
 ∀ (s:Shared) (us:List Value),K.In s.heap→(us++ds).length=ps.length→BindsTo s fd ⟨us,[]⟩ (ps.zip (us++ds))
theorem aK.all {K:W.Frag} {fd:FuncData} {ps:List Str} (h:∀ us:List Value,us.length=ps.length→bindArgs fd ⟨us,[]⟩=pure (ps.zip us)):aK K fd ps []:=fun s us _ hl=>by
 rw [List.append_nil] at hl ⊢;exact .of_eq (h us hl)
def fL (CX:CXT) (X:Cx) (E:XK):Prop:=∀ (pins:List (Addr×Obj)) (σ:St) (H:Hp) (s:Shared) (e:Value) (s':Shared),Inv X pins σ H s→CX X.stack H s E e s'→X.xe e s'
section
variable {X:Cx} {CX:CXT} {k:Nat} {f C:Addr} {fd:FuncData} {ps:List Str} {sp:Sp} {dvs:List V} {ds:List Value} {E:XK} {x m:Str} {p pos apos:Pos} {e o:Expr} {es:List Expr} {ta:TE} {t:TA}
theorem qx {pins:List (Addr×Obj)} {σ:St} {H:Hp} {s:Shared} {Q:VK} {us:List Value} {vs:List V} (F:aU X.prog X.w X.K X.mg X.base CX k f fd ps sp) (hr:cS k X.A) (hb:aK X.K fd ps ds) (hd:aV dvs ds) (hx:fL CX X E)
  (I:Inv X pins σ H s) (r:aV vs us) (h:sp (vs++dvs) H Q E):wpAny (model X.prog X.w) X.A (call (.ref f) us) (EP X pins σ Q) X.xe s:=by
 have r2:aV (vs++dvs) (us++ds):=r.append hd;have hl:(us++ds).length=ps.length:=by rw [← r2.length]; exact F.len _ _ _ _ h
 refine wpAny_call (codeAny_mono (F.run X.A X.stack s H ⟨us,[]⟩ (us++ds) (vs++dvs) Q E hr I.env0 (hb s us I.kIn hl) r2 h) fun r s' hq=>?_)
 cases r with
 | error e=>exact hx pins σ H s e s' I hq
 | ok fl =>
  cases fl with
  | ret u => exact I.after hq
  | next => exact False.elim hq
  | brk => exact False.elim hq
  | cont => exact False.elim hq
theorem aC (F:aU X.prog X.w X.K X.mg X.base CX k f fd ps sp) (hr:cS k X.A) (hg:Gl X x) (hm:X.mg x=some (.ref f)) (hk:W.keepIn X.K (.ref f)=true) (hb:aK X.K fd ps ds) (hd:aV dvs ds) (hx:fL CX X E)
  (ha:PA X (e::es) t) (hdb:(x==("__debug__":Str))=false:=by decide) (he:starEach (e::es) X.env=(false,eval e X.env)::starEach es X.env:=by rfl) (hpl:(backTo pos (starEach es X.env)).any (·.1)=false:=by rfl) :
  PE X (.Call (.Name x p) (e::es) [] pos) (vo sp dvs E t):=by
 intro pins s σ H Q I h;refine wpAny_Call_Name_kw (fc I hg hm ?_ hdb);refine W.callWith_K (h₀:=X.base) I.ok.mod.kin hk (thn (ha pos pins s σ H _ I h) fun us s1 ⟨vs,H1,I1,r,q⟩=>⟨I1.kIn,?_⟩) he hpl;exact qx F hr hb hd hx I1 r q
theorem bF {pl:Sem Bool} (he:PE X o ta) (c:Cls X.K C) (hm:dG X.K C m f) (F:aU X.prog X.w X.K X.mg X.base CX k f fd ps sp) (hr:cS k X.A) (hb:aK X.K fd ps ds) (hd:aV dvs ds) (hx:fL CX X E) (ha:PA X (e::es) t)
  (hst:starEach (e::es) X.env=(false,eval e X.env)::starEach es X.env:=by rfl) (hpl:(backTo pos (starEach es X.env)).any (·.1)=false:=by rfl)
  (ht:eval (.Call (.Attribute o m apos) (e::es) [] pos) X.env=(do
   let ov ← eval o X.env
   standAt apos.atName
   let (f,first) ← holding [ov] (getMethod ov m pl)
   callWith pos f first (backTo pos (starEach (e::es) X.env)) (backToKw pos (keywordEach [] X.env))):=by rfl) :
  PE X (.Call (.Attribute o m apos) (e::es) [] pos) (zE C m sp dvs E ta t):=by
 intro pins s σ H Q I h;refine W.methodCall_KW (pl:=pl) (thn (he pins s σ H _ I h) fun u s1 ⟨x,H1,I1,rx,a,dx,fs,ex,ea,l,q⟩=>?_) ht;subst ex;obtain rfl:u=Value.ref a:=rx
 refine gu I1 ea c hm l ?_;refine W.callWith_K (first:=[.ref a]) (h₀:=X.base) I.ok.mod.kin hm.kp (thn (ha pos pins s1 σ H1 _ I1 q) fun us s2 ⟨vs,H2,I2,r,q2⟩=>⟨I2.kIn,?_⟩) hst hpl;exact qx (us:=.ref a::us) (vs:=.ref a::vs) F hr hb hd hx I2 (.cons rfl r) q2
theorem aT {pl:Sem Bool} (he:PE X o ta) (c:Cls X.K C) (hm:dG X.K C m f) (F:aU X.prog X.w X.K X.mg X.base CX k f fd ps sp) (hr:cS k X.A) (hb:aK X.K fd ps ds) (hd:aV dvs ds) (hx:fL CX X E)
  (ht:eval (.Call (.Attribute o m apos) [] [] pos) X.env=(do
   let ov ← eval o X.env
   standAt apos.atName
   let (f,first) ← holding [ov] (getMethod ov m pl)
   callWith pos f first (backTo pos (starEach [] X.env)) (backToKw pos (keywordEach [] X.env))):=by rfl) :
  PE X (.Call (.Attribute o m apos) [] [] pos) (zE C m sp dvs E ta zF):=by
 intro pins s σ H Q I h;refine W.methodCall_KW (pl:=pl) (thn (he pins s σ H _ I h) fun u s1 ⟨x,H1,I1,rx,a,dx,fs,ex,ea,l,q⟩=>?_) ht;subst ex;obtain rfl:u=Value.ref a:=rx
 refine gu I1 ea c hm l ?_;exact W.callWith_K0 (first:=[.ref a]) I1.kIn hm.kp (qx (us:=[.ref a]) (vs:=[.ref a]) F hr hb hd hx I1 (.cons rfl .nil) q)
structure Mk (K:W.Frag) (C f:Addr):Prop where
 makes:W.makesIn K C=true
 init:W.findIn K (.ref C) "__init__"=some (some (.ref f))
 fn:W.isFn K (.ref f)=true
 kp:W.keepIn K (.ref C)=true
theorem sR {pins:List (Addr×Obj)} {σ:St} {H:Hp} {s:Shared} {Q:VK} {us:List Value} {vs:List V} (M:Mk X.K C f) (F:aU X.prog X.w X.K X.mg X.base CX k f fd ps sp) (hr:cS (k+1) X.A) (hb:aK X.K fd ps ds) (hd:aV dvs ds)
  (hx:fL CX X E) (I:Inv X pins σ H s) (r:aV vs us)
  (h:∀ x dx,H x=none→H dx=none→dx≠x→sp (.ref x::(vs++dvs)) (upd (upd H dx (.own x)) x (.ins C dx [])) (fun v H2=>v=.non∧Q (.ref x) H2) E) :
  wpAny (model X.prog X.w) X.A (call (.ref C) us) (EP X pins σ Q) X.xe s:=by
 have hq:=h (s.heap.objs.size+1) s.heap.objs.size (I.hok.fresh (Nat.le_succ _)) (I.hok.fresh (Nat.le_refl _)) (Nat.ne_of_lt (Nat.lt_succ_self _));have I2:=Inv.made (C:=C) I;have r2:aV (V.ref (s.heap.objs.size+1)::(vs++dvs)) (Value.ref (s.heap.objs.size+1)::(us++ds)):=.cons rfl (r.append hd)
 have hl:(Value.ref (s.heap.objs.size+1)::us++ds).length=ps.length:=by
  have e:=r2.length;rw [F.len _ _ _ _ hq] at e;exact e.symm
 refine wpAny_call (se (f:=f) I.kIn M.makes M.init (beq_iff_eq.mp M.fn) (codeAny_mono (F.run _ X.stack _ _ ⟨Value.ref (s.heap.objs.size+1)::us,[]⟩ (Value.ref (s.heap.objs.size+1)::(us++ds)) _ _ E (hr.make C us [])
  (I2.env0.make C us []) (hb _ (Value.ref (s.heap.objs.size+1)::us) I2.kIn hl) r2 hq) fun r s' hq'=>?_))
 cases r with
 | error e=>exact hx pins σ _ _ e s' I2 hq'
 | ok fl =>
  cases fl with
  | ret u =>
   obtain ⟨v,H',I3,rv,ev,q3⟩:=I2.after hq';subst ev;exact ⟨rv,⟨V.ref (s.heap.objs.size+1),H',I3,rfl,q3⟩⟩
  | next => exact False.elim hq'
  | brk => exact False.elim hq'
  | cont => exact False.elim hq'
theorem iT (M:Mk X.K C f) (F:aU X.prog X.w X.K X.mg X.base CX k f fd ps sp) (hr:cS (k+1) X.A) (hg:Gl X x) (hm:X.mg x=some (.ref C)) (hb:aK X.K fd ps ds) (hd:aV dvs ds) (hx:fL CX X E)
  (ha:PA X (e::es) t) (hdb:(x==("__debug__":Str))=false:=by decide) (he:starEach (e::es) X.env=(false,eval e X.env)::starEach es X.env:=by rfl) (hpl:(backTo pos (starEach es X.env)).any (·.1)=false:=by rfl) :
  PE X (.Call (.Name x p) (e::es) [] pos) (zC C sp dvs E t):=by
 intro pins s σ H Q I h;refine wpAny_Call_Name_kw (fc I hg hm ?_ hdb);refine W.callWith_K (h₀:=X.base) I.ok.mod.kin M.kp (thn (ha pos pins s σ H _ I h) fun us s1 ⟨vs,H1,I1,r,q⟩=>⟨I1.kIn,?_⟩) he hpl;exact sR M F hr hb hd hx I1 r q
theorem sx (M:Mk X.K C f) (F:aU X.prog X.w X.K X.mg X.base CX k f fd ps sp) (hr:cS (k+1) X.A) (hg:Gl X x) (hm:X.mg x=some (.ref C)) (hb:aK X.K fd ps ds) (hd:aV dvs ds) (hx:fL CX X E)
  (hdb:(x==("__debug__":Str))=false:=by decide):PE X (.Call (.Name x p) [] [] pos) (zC C sp dvs E zF):=by
 intro pins s σ H Q I h;refine wpAny_Call_Name_kw (fc I hg hm ?_ hdb);exact W.callWith_K0 I.kIn M.kp (sR (us:=[]) M F hr hb hd hx I .nil h)
end
structure aE (N P:List Str) (sc:Scope):Prop where
 kind:sc.kind=.function
 co:sc.isCoroutine=false
 gen:sc.isGenerator=false
 nd:N.Nodup
 pre:N.take P.length=P
 par:∀ x∈P,sc.names.lookup x=some .local∨sc.names.lookup x=some .cell
 nofree:∀ y∈sc.names,y.2≠.free
theorem oM {kindOf:Str→Option NameKind} {x:Str}:∀ {binds:List (Str×Value)} {m:Str→Option Value},(∀ v,(x,v)∉binds)→bindL kindOf binds m x=m x
 | [],_,_=>rfl
 | (n,v)::r,m,h=>by
  unfold bindL;rw [oM fun w hw=>h w (List.mem_cons_of_mem _ hw)]
  split
  ·have:x≠n:=by rintro rfl; exact h v List.mem_cons_self
   simp [this]
  ·rfl
theorem oJ {kindOf:Str→Option NameKind} {x:Str}:∀ {binds:List (Str×Value)} {m:Str→Option Value},(∀ v,(x,v)∉binds)→bindC kindOf binds m x=m x
 | [],_,_=>rfl
 | (n,v)::r,m,h=>by
  unfold bindC;rw [oJ fun w hw=>h w (List.mem_cons_of_mem _ hw)]
  split
  ·rfl
  ·have:x≠n:=by rintro rfl; exact h v List.mem_cons_self
   simp [this]
theorem oK {kindOf:Str→Option NameKind} {x:Str} {v:Value}:∀ {P:List Str} {vs:List Value} {i:Nat} {m:Str→Option Value},P.Nodup→P[i]?=some x→vs[i]?=some v→kindOf x=some .local →
  bindL kindOf (P.zip vs) m x=some v
 | [],_,_,_,_,h,_,_=>by simp at h
 | _::_,[],_,_,_,_,h,_=>by simp at h
 | p::P,w::vs,0,m,nd,h1,h2,hk=>by
  simp at h1 h2; subst h1; subst h2
  show bindL kindOf ((p,w)::P.zip vs) m p=_
  unfold bindL;rw [oM fun v hv=>(List.nodup_cons.mp nd).1 (List.of_mem_zip hv).1,if_pos hk];simp
 | p::P,w::vs,i+1,m,nd,h1,h2,hk=>by
  show bindL kindOf ((p,w)::P.zip vs) m x=_
  unfold bindL;exact oK (i:=i) (List.nodup_cons.mp nd).2 (by simpa using h1) (by simpa using h2) hk
theorem oH {kindOf:Str→Option NameKind} {x:Str} {v:Value}:∀ {P:List Str} {vs:List Value} {i:Nat} {m:Str→Option Value},P.Nodup→P[i]?=some x→vs[i]?=some v→kindOf x≠some .local →
  bindC kindOf (P.zip vs) m x=some v
 | [],_,_,_,_,h,_,_=>by simp at h
 | _::_,[],_,_,_,_,h,_=>by simp at h
 | p::P,w::vs,0,m,nd,h1,h2,hk=>by
  simp at h1 h2; subst h1; subst h2
  show bindC kindOf ((p,w)::P.zip vs) m p=_
  unfold bindC;rw [oJ fun v hv=>(List.nodup_cons.mp nd).1 (List.of_mem_zip hv).1,if_neg hk];simp
 | p::P,w::vs,i+1,m,nd,h1,h2,hk=>by
  show bindC kindOf ((p,w)::P.zip vs) m x=_
  unfold bindC;exact oH (i:=i) (List.nodup_cons.mp nd).2 (by simpa using h1) (by simpa using h2) hk
def gg (N:List Str) (vs:List V):St:=vs.map some++List.replicate (N.length - vs.length) none
def eX (CX:CXT) (P:Program) (w:World) (K:W.Frag) (mg:Str→Option Value) (base:Heap) (N:List Str) (qual:Str) (scope:Scope) (f:Addr) (cd:Value) (A:Around) (outer:List Env) (s:Shared) (H:Hp) (E:XK):Cx where
 prog:=P
 w:=w
 K:=K
 mg:=mg
 base:=base
 A:=A.deeper (envOfC qual scope s.heap.objs.size f cd)
 N:=N
 s₀:=s
 H₀:=H
 env:=envOfC qual scope s.heap.objs.size f cd
 outer:=outer
 stack:=envOfC qual scope s.heap.objs.size f cd::outer
 ex:=[]
 calm:=true
 fn:=fun _=>true
 pn:=[]
 xe:=fun e s'=>wpAny (model P w) (A.deeper (envOfC qual scope s.heap.objs.size f cd)) (leaving (envOfC qual scope s.heap.objs.size f cd) e) (fun _ s''=>CX outer H s E e s'') (fun e' s''=>CX outer H s E e' s'') s'
theorem rN {sc:Scope} {n:Nat} {x:Str} (h:sc.names.lookup x=some .cell):∃ c,(cellsFrom n sc.names []).lookup x=some c:=by
 have q:=W.cellsFrom_some sc.names n [] (.inl h);exact Option.isSome_iff_exists.mp q
theorem oV {CX:CXT} {P:Program} {w:World} {K:W.Frag} {mg:Str→Option Value} {base:Heap} {N ps:List Str} {qual:Str} {scope:Scope} {f:Addr} {cd:Value} {A:Around} {outer:List Env} {s s1:Shared} {H:Hp} {E:XK} {us:List Value} {vs:List V}
    (S:aE N ps scope) (hd:A.handled=none) (e0:rE P w K mg base A outer s H) (hl:vs.length=ps.length) (r:aV vs us)
    (x:InCallC s s.heap.objs.size (bindL (envOfC qual scope s.heap.objs.size f cd).kindOf (ps.zip us) fun _=>none) (cellsFrom (s.heap.objs.size+1) scope.names []) (bindC (envOfC qual scope s.heap.objs.size f cd).kindOf (ps.zip us) fun _=>none) s1) :
    Inv (eX CX P w K mg base N qual scope f cd A outer s H E) [] (gg N vs) H s1:=by
  have hpl:ps.length≤N.length:=by have:=congrArg List.length S.pre; rw [List.length_take] at this; omega
  obtain ⟨h1,tk,rfl,hk⟩:=x.done;have noA:∀ b:Addr,b∉(eX CX P w K mg base N qual scope f cd A outer s H E).ex:=fun b z=>absurd (show b∈([]:List Addr) from z) (by simp);refine ⟨⟨e0.mod,S.kind,rfl,rfl,Nat.le_refl _,fun y z c h1 h2=>?_,fun y hy=>?_,fun y c _ h=>?_,fun _=>hd,Around.frames_deeper e0.frames,.inr ⟨rfl,rfl⟩,fun b z=>absurd z (noA b),e0.bs,e0.bsz,fun b _ _=>noA b,fun b z=>absurd z (noA b),e0.funs,e0.frf⟩,
    rfl,e0.bare,Un.kept hk,⟨_,x.toInCall.ns,fun i y v h1 h2 h3=>?_⟩,fun y c h=>⟨_,x.cell y c h⟩,e0.hok.fresh (Nat.le_refl _),fun y c h=>?_,fun p hp=>absurd (show p∈([]:List (Addr×Obj)) from hp) (by simp),e0.hok.kept hk,?_⟩
  · exact name_of_addr x.apart (PySem.mem_of_lookup h1) (PySem.mem_of_lookup h2)
  · have hy:scope.names.lookup y=some .cell∨scope.names.lookup y=some .free:=hy
    rcases hy with hy | hy
    · exact rN hy
    · exact absurd rfl (S.nofree _ (PySem.mem_of_lookup hy))
  · exact Nat.le_of_lt (x.above y c (PySem.mem_of_lookup h))
  · have hi:i<vs.length:=by
      unfold gg at h2;by_cases hi:i<vs.length
      · exact hi
      · rw [List.getElem?_append_right (by simpa using hi)] at h2
        rw [List.getElem?_replicate] at h2
        split at h2<;>cases h2
    have ha:vs[i]?=some v:=by
      unfold gg at h2;rw [List.getElem?_append_left (by simpa using hi),List.getElem?_map] at h2
      cases e:vs[i]? with
      | none=>rw [e] at h2; cases h2
      | some a=>rw [e] at h2; cases h2; rfl
    obtain ⟨u,hu,rv⟩:=r.get ha
    have hp:ps[i]?=some y:=by
      rw [← S.pre,List.getElem?_take_of_lt (by omega)]; exact h1
    have ndP:ps.Nodup:=by rw [← S.pre]; exact S.nd.sublist (List.take_sublist _ _)
    refine ⟨u,rv,?_⟩;rcases S.par y (List.mem_of_getElem? hp) with k | k
    · exact .inl ⟨k,oK ndP hp hu k⟩
    · obtain ⟨c,e⟩:=rN (n:=s.heap.objs.size+1) k
      refine .inr ⟨.inl k,c,e,?_⟩;have q:=x.cell y c e;rw [oH ndP hp hu (by show scope.names.lookup y≠_; rw [k]; decide)] at q;exact q
  · exact e0.hok.fresh (Nat.le_of_lt (x.above y c (PySem.mem_of_lookup h)))
  · unfold gg
    show _=N.length
    rw [List.length_append,List.length_map,List.length_replicate];omega
theorem Bl {CX:CXT} {P:Program} {w:World} {K:W.Frag} {mg:Str→Option Value} {base:Heap} {k:Nat} {f:Addr} {name qual:Str} {params:Arguments} {body:List Stmt} {scope:Scope} {dV kV doc pm cdv ct oc:Value} {an od:Option Addr}
  {osl:Array (Option Value)} {N ps:List Str} {sp:Sp} (lk:K.lookup f=some ⟨oc,od,.func (W.fnOf name qual params body scope dV kV doc pm an cdv ct),osl⟩) (hcd:W.codeIn K cdv qual=true) (S:aE N ps scope)
  (len:∀ vs H Q E,sp vs H Q E→vs.length=ps.length)
  (hbody:∀ (A:Around) (outer:List Env) (s:Shared) (H:Hp) (vs:List V) (Q:VK) (E:XK),cS k (A.deeper (envOfC qual scope s.heap.objs.size f cdv))→sp vs H Q E →
   ∃ t,PSs (eX CX P w K mg base N qual scope f cdv A outer s H E) body t∧t { nx:=fun _ H'=>Q .non H',rt:=Q } (gg N vs) H) :
  aU P w K mg base CX (k+1) f (W.fnOf name qual params body scope dV kV doc pm an cdv ct) ps sp:=by
 refine ⟨len,fun A outer s H args us vs Q E hr e0 hb r hsp=>?_⟩;have hl:=len _ _ _ _ hsp;have KX:K.In s.heap:=e0.mod.kin.keeps fun b o e=>(e0.bs b o e).1;have lim:s.heap.NoLimit:=e0.mod.nolimit.keeps fun b o e=>(e0.bs b o e).1;have hkind:∀ y∈ps.zip us,scope.names.lookup y.1=some .local∨(scope.names.lookup y.1=some .cell∧((cellsFrom (s.heap.objs.size+1) scope.names []).lookup y.1).isSome=true):=fun ⟨n,v⟩ hy=>by
  rcases S.par n (List.of_mem_zip hy).1 with q | q
  ·exact .inl q
  ·exact .inr ⟨q,W.cellsFrom_some _ _ _ (.inl q)⟩
 refine codeAny_call_function hr.depth (KX _ _ lk) rfl S.co S.gen rfl (W.codeRec_of KX hcd) (hb _ _ _ _ ?_);refine wpAny_newFunctionEnv_cells S.kind hkind fun env he s1 x=>?_;subst he;refine ⟨lim.keeps x.toInCall.keep,codeAny_func ?_⟩;obtain ⟨t,ht,hq⟩:=hbody A outer s H vs Q E (hr.deeper _) hsp;have I:Inv (eX CX P w K mg base N qual scope f cdv A outer s H E) [] (gg N vs) H s1:=oV S hr.hd e0 hl r x;refine wpAny_mono (ht [] s1 (gg N vs) H _ I hq) (fun fl s' hs=>?_) fun e s' hs=>hs
 have fin:∀ {σ':St} {H':Hp} {v:V} {u:Value},Inv (eX CX P w K mg base N qual scope f cdv A outer s H E) [] σ' H' s'→bG v u→Q v H'→CE outer P w H s Q u s' :=
  fun {σ' H' v u} J rv q=>⟨v,H',J.os,J.bare,J.base,J.hok,rv,q⟩
 cases fl with
 | ret u =>
  obtain ⟨v,σ',H',J,rv,q⟩:=hs;exact fin J rv q
 | next =>
  obtain ⟨σ',H',J,q⟩:=hs;exact fin (v:=V.non) (u:=Value.none) J rfl q
 | brk =>
  obtain ⟨_,_,_,q⟩:=hs;exact False.elim q
 | cont =>
  obtain ⟨_,_,_,q⟩:=hs;exact False.elim q
section
variable {X:Cx} {x:Str} {p pos:Pos} {e:Expr} {es:List Expr} {t:TA} {id T:String} {r:List V→Hp→VK→Prop}
def tCB (r:List V→Hp→VK→Prop) (t:TA):TE:=fun σ H Q=>t σ H fun vs H1=>r vs H1 Q
theorem ax (hc:cn X (.builtin id) r) (hg:Gl X x) (hm:X.mg x=none) (hv:bootBuiltins x=some (.builtin id)) (ha:PA X (e::es) t) (hn:x≠"__name__":=by decide) (hdb:(x==("__debug__":Str))=false:=by decide)
  (he:starEach (e::es) X.env=(false,eval e X.env)::starEach es X.env:=by rfl) (hpl:(backTo pos (starEach es X.env)).any (·.1)=false:=by rfl):PE X (.Call (.Name x p) (e::es) [] pos) (tCB r t):=by
 intro pins s σ H Q I h;refine wpAny_Call_Name_kw (kj I hg hm hv ?_ hn hdb);exact PyProof.Rows.callWith_builtin1 (thn (ha pos pins s σ H _ I h) fun us s1 ⟨vs,H1,I1,r1,q1⟩=>hc pins s1 σ H1 vs us Q I1 r1 q1) he hpl
theorem aW (hc:cn X (.type T) r) (hg:Gl X x) (hm:X.mg x=none) (hv:bootBuiltins x=some (.type T)) (ha:PA X (e::es) t) (hn:x≠"__name__":=by decide) (hdb:(x==("__debug__":Str))=false:=by decide)
  (he:starEach (e::es) X.env=(false,eval e X.env)::starEach es X.env:=by rfl) (hpl:(backTo pos (starEach es X.env)).any (·.1)=false:=by rfl):PE X (.Call (.Name x p) (e::es) [] pos) (tCB r t):=by
 intro pins s σ H Q I h;refine wpAny_Call_Name_kw (kj I hg hm hv ?_ hn hdb);exact PyProof.Rows.callWith_type1 (thn (ha pos pins s σ H _ I h) fun us s1 ⟨vs,H1,I1,r1,q1⟩=>hc pins s1 σ H1 vs us Q I1 r1 q1) he hpl
end
end L2
namespace HT
open PySem PyProof.Rows
section
open PySem.SeqAt
open PySem.AutoSeq1 (wpAny_loadPart')
open PySem.MeetsSeq PySem.MeetsSeq2 PySem.MeetsSeq3
end
section
variable {prog:Program} {w:World} {A:Around} {E:Value→Shared→Prop} {s:Shared}
def sIx (n d:Nat):Option Int→Nat
 | none=>d
 | some v=>if v<0 then (v+(n:Int)).toNat else min v.toNat n
theorem mM (n d:Nat):sIx n d none=d:=rfl
theorem lK (n d k:Nat):sIx n d (some (k:Int))=min k n:=by
 show (if (k:Int)<0 then ((k:Int)+(n:Int)).toNat else min (k:Int).toNat n)=min k n
 rw [if_neg (by omega),Int.toNat_natCast]
theorem C8 (n d:Nat) (hd:d≤n) (o:Option Int):sIx n d o≤n:=by
 cases o with
 | none=>exact hd
 | some v =>
  show (if v<0 then (v+(n:Int)).toNat else min v.toNat n)≤n
  by_cases hv:v<0
  ·rw [if_pos hv]; omega
  ·rw [if_neg hv]; exact Nat.min_le_right _ _
theorem uT (v:Int) (n d:Nat):(if v<0 then max (v+(n:Int)) 0 else min v (n:Int))=((sIx n d (some v):Nat):Int):=by
 show (if v<0 then max (v+(n:Int)) 0 else min v (n:Int))=(((if v<0 then (v+(n:Int)).toNat else min v.toNat n):Nat):Int)
 by_cases hv:v<0
 ·simp only [if_pos hv]; omega
 ·simp only [if_neg hv]; omega
theorem tQ (lo hi:Option Int) (n:Nat):Builtin.Slice.sliceAdjust lo hi 1 (n:Int)=(((sIx n 0 lo:Nat):Int),((sIx n n hi:Nat):Int)):=by
 have h1:¬ ((1:Int)<0):=by omega
 unfold Builtin.Slice.sliceAdjust;simp only [h1,if_false];refine Prod.ext ?_ ?_
 ·cases lo with
  | none => rfl
  | some v => exact uT v n 0
 ·cases hi with
  | none => rfl
  | some v => exact uT v n n
theorem uk (i j:Nat):Builtin.Slice.slicePlaces (i:Int) (j:Int) 1=j - i:=by
 unfold Builtin.Slice.slicePlaces;have h1:(1:Int) > 0:=by omega
 simp only [h1,if_true,Int.ediv_one]
 split<;>omega
theorem mY {v:Value} {o:Option Int} {Q:Option Int→Shared→Prop} (p:IsPart v o) (h:Q o s):wpAny (model prog w) A (Builtin.Slice.slicePartIndex v) Q E s:=by
 cases p with
 | none=>exact slicePart_none h
 | int i t=>exact slicePart_int h
theorem gf {sl:Addr} {vl vu:Value} {lo hi:Option Int} {n:Nat} {Q:Int×Int×Nat→Shared→Prop} (hs:s.heap.IsSliceOf sl vl vu .none) (pl:IsPart vl lo) (pu:IsPart vu hi)
  (h:Q (((sIx n 0 lo:Nat):Int),1,sIx n n hi - sIx n 0 lo) s):wpAny (model prog w) A (Builtin.Slice.sliceApplied (.ref sl) (pure (n:Int))) Q E s:=by
 obtain ⟨os,hos,hcs,hds⟩:=id hs;unfold Builtin.Slice.sliceApplied Builtin.Slice.sliceFields;refine wpAny_bind (wpAny_bind (wpAny_field hos hds (x:=vl) rfl (wpAny_bind (wpAny_field hos hds (x:=vu) rfl (wpAny_bind (wpAny_field hos hds (x:=.none) rfl (wpAny_pure ?_)))))));refine wpAny_bind (slicePart_none ?_)
 show wpAny _ _ (if ((1:Int)==0)=true then _ else _) _ _ s
 rw [if_neg (by decide)];refine wpAny_bind (mY pl (wpAny_bind (mY pu (wpAny_bind (wpAny_pure ?_)))))
 show wpAny _ _ (match Builtin.Slice.sliceAdjust lo hi 1 (n:Int) with | (lo,hi)=>pure (lo,(1:Int),Builtin.Slice.slicePlaces lo hi 1)) _ _ s
 rw [tQ lo hi n]
 show wpAny _ _ (pure (((sIx n 0 lo:Nat):Int),(1:Int),Builtin.Slice.slicePlaces ((sIx n 0 lo:Nat):Int) ((sIx n n hi:Nat):Int) 1)) _ _ s
 rw [uk];exact wpAny_pure h
theorem yh (xs:Array Value) (i k:Nat):((List.range k).filterMap fun (m:Nat)=>xs[((i:Int)+(m:Int)*1).toNat]?).toArray=((xs.toList.drop i).take k).toArray:=by
 have e:(fun (m:Nat)=>xs[((i:Int)+(m:Int)*1).toNat]?)=fun m=>xs[i+m]?:=by
  funext m
  have:((i:Int)+(m:Int)*1).toNat=i+m:=by omega
  rw [this]
 rw [e];have:=pick_run xs i k
 rw [List.filterMap_map] at this;have e2:((fun x=>xs[x]?)∘fun x=>i+x)=fun m=>xs[i+m]?:=rfl;rw [e2] at this;rw [this]
theorem jH {t sl:Addr} {items:Array Value} {vl vu:Value} {lo hi:Option Int} {Q:Value→Shared→Prop} (ht:IsTup s.heap t items) (hs:s.heap.IsSliceOf sl vl vu .none) (pl:IsPart vl lo) (pu:IsPart vu hi)
  (hw:¬ (sIx items.size 0 lo=0∧sIx items.size items.size hi=items.size))
  (h:Q (.ref s.heap.objs.size) { s with heap:=s.heap.push { cls:=.type "tuple",data:=.seq ((items.toList.drop (sIx items.size 0 lo)).take (sIx items.size items.size hi - sIx items.size 0 lo)).toArray } })
  (hsz:items.size≤sizeLine):wpAny (model prog w) A (getItem (.ref t) (.ref sl)) Q E s:=by
 have htake:sizeOk (.seq ((items.toList.drop (sIx items.size 0 lo)).take (sIx items.size items.size hi - sIx items.size 0 lo)).toArray):=by
  show ((items.toList.drop (sIx items.size 0 lo)).take (sIx items.size items.size hi - sIx items.size 0 lo)).toArray.size≤sizeLine
  rw [List.size_toArray,List.length_take,List.length_drop,Array.length_toList];omega
 have hj:sIx items.size items.size hi≤items.size:=C8 _ _ (Nat.le_refl _) hi;obtain ⟨os,hos,hcs,hds⟩:=id hs;have hTs:s.TypeIs (.ref sl) "slice":=⟨os,hos,hcs⟩
 unfold getItem
 try with_reducible refine wpAny_holding ?_
 first | refine wpAny_bind (wpAny_pure ?_) | skip
 refine wpAny_bind (wpAny_sequenceKey ht.typeIs (by decide) ?_);refine wpAny_bind (wpAny_callSpecial?_slot (name:=Str.ofString "__getitem__") ht.typeIs PyProof.Rows.slot_tuple_getitem
  (wpAny_call_entry PyProof.Rows.slot_tuple_getitem ht.typeIs entry_tuple_getitem ?_ (args_tuple_getitem _ _)))
 show wpAny _ _ (Builtin.Tuple.tupleItemsOf (.ref t) >>= _) _ _ s
 refine wpAny_bind (tupleItemsOf_ ht ?_);refine wpAny_bind (wpAny_typeOf hTs ?_);rw [if_pos (by decide)];refine wpAny_bind (gf hs pl pu ?_)
 have hno:¬ ((((sIx items.size 0 lo:Nat):Int)==0&&(1:Int)==1&&(sIx items.size items.size hi - sIx items.size 0 lo)==items.size)=true):=by
  intro q;rw [Bool.and_eq_true,Bool.and_eq_true] at q;have q1:((sIx items.size 0 lo:Nat):Int)=0:=eq_of_beq q.1.1;have q2:sIx items.size items.size hi - sIx items.size 0 lo=items.size:=eq_of_beq q.2;exact hw ⟨by omega,by omega⟩
 show wpAny _ _ (if (((sIx items.size 0 lo:Nat):Int)==0&&(1:Int)==1&&(sIx items.size items.size hi - sIx items.size 0 lo)==items.size)=true then _ else _) _ _ s
 rw [if_neg hno,yh]
 first
  | exact wpAny_bind (m := Builtin.Tuple.tupleExact _) (wpAny_newObj_type (wpAny_pure ⟨_, rfl, wpAny_pure h⟩) htake)
  | exact wpAny_bind (m := Builtin.Tuple.tupleExact _) (wpAny_newObj_type (wpAny_bind (wpAny_pure (wpAny_pure ⟨_, rfl, wpAny_pure h⟩))) htake)
  | exact wpAny_bind (wpAny_bind (m := Builtin.Tuple.tupleExact _) (wpAny_newObj_type (wpAny_pure (wpAny_pure ⟨_, rfl, wpAny_pure h⟩)) htake))
  | exact wpAny_bind (wpAny_bind (m := Builtin.Tuple.tupleExact _) (wpAny_newObj_type (wpAny_pure ⟨_, rfl, wpAny_pure h⟩) htake))
end
end HT
namespace L2
open PySem PySem.Spec PyProof.Rows
abbrev TO:=St→Hp→(Option Int→Hp→Prop)→Prop
def PO (X:Cx) (e:Option Expr) (t:TO):Prop :=
 ∀ (pins:List (Addr×Obj)) (s:Shared) (σ:St) (H:Hp) (Q:Option Int→Hp→Prop),Inv X pins σ H s→t σ H Q →
  wpAny (model X.prog X.w) X.A (evalPart e X.env) (fun u s'=>∃ o H',Inv X pins σ H' s'∧IsPart u o∧Q o H') X.xe s
def vt:TO:=fun _ H Q=>Q none H
def BK (t:TE):TO:=fun σ H Q=>t σ H fun x H1=>∃ i,x=.int i∧Q (some i) H1
section
variable {X:Cx} {e:Expr} {te:TE} {lo hi:Option Expr} {tl th:TO} {pos p2:Pos}
theorem cj:PO X none vt:=by
 intro pins s σ H Q I h;rw [evalPart_none];exact wpAny_pure ⟨none,H,I,.none,h⟩
theorem bZ (h:PE X e te):PO X (some e) (BK te):=by
 intro pins s σ H Q I hw;rw [evalPart_some];refine thn (h pins s σ H _ I hw) fun u s1 ⟨x,H1,I1,r1,q1⟩=>?_;obtain ⟨i,rfl,q⟩:=q1;obtain ⟨t,rfl⟩:=r1;exact ⟨some i,H1,I1,.int i t,q⟩
def SlR (X:Cx) (r:V→Option Int→Option Int→Hp→VK→Prop):Prop :=
 ∀ (pins:List (Addr×Obj)) (s:Shared) (σ:St) (H:Hp) (x:V) (v vl vu:Value) (lo hi:Option Int) (sl:Addr) (Q:VK),Inv X pins σ H s→bG x v→s.heap.IsSliceOf sl vl vu .none→IsPart vl lo→IsPart vu hi→r x lo hi H Q →
  ∃ T id,typeLookup (.type T) "__getitem__"=pure (some (.builtin id))∧s.TypeIs v T∧wpAny (model X.prog X.w) X.A (getItem v (.ref sl)) (EP X pins σ Q) X.xe s
def tSl (r:V→Option Int→Option Int→Hp→VK→Prop) (te:TE) (tl th:TO):TE:=fun σ H Q=>te σ H fun x H1=>tl σ H1 fun l H2=>th σ H2 fun u H3=>r x l u H3 Q
theorem bQ {r:V→Option Int→Option Int→Hp→VK→Prop} (hr:SlR X r) (he:PE X e te) (hl:PO X lo tl) (hu:PO X hi th):PE X (.Subscript e (.Slice lo hi none p2) pos) (tSl r te tl th):=by
 intro pins s σ H Q I h;refine Subscript_ (thn (he pins s σ H _ I h) fun v s1 ⟨x,H1,I1,r1,q1⟩=>?_);refine wpAny_Slice (thn (hl pins s1 σ H1 _ I1 q1) fun vl s2 ⟨l,H2,I2,pl,q2⟩=>thn (hu pins s2 σ H2 _ I2 q2) fun vu s3 ⟨u,H3,I3,pu,q3⟩=>?_);rw [evalPart_none];refine wpAny_pure ?_;have I4:Inv X pins σ H3 { s3 with heap:=s3.heap.push { cls:=.type "slice",data:=.fields #[vl,vu,.none] } }:=I3.kept (t':=s3.toks) fun b ob q=>Heap.get?_push_of_some _ q;obtain ⟨T,id,hT,ht,hg⟩:=hr pins { s3 with heap:=s3.heap.push { cls:=.type "slice",data:=.fields #[vl,vu,.none] } } σ H3 x v vl vu l u s3.heap.objs.size Q I4 r1 (Heap.IsSliceOf.new ..) pl pu q3
 show wpAny (model X.prog X.w) X.A (subscriptTail e (.Slice lo hi none p2) v (.ref s3.heap.objs.size)) (EP X pins σ Q) X.xe { s3 with heap:=s3.heap.push { cls:=.type "slice",data:=.fields #[vl,vu,.none] } }
 exact tail_any (ops:=[.ref s3.heap.objs.size,v]) ht hT hg (by with_unfolding_all rfl)
def gp (xs:List V) (lo hi:Option Int):List V:=(xs.drop (HT.sIx xs.length 0 lo)).take (HT.sIx xs.length xs.length hi - HT.sIx xs.length 0 lo)
theorem kO (xs:List V) (lo hi:Option Int):(gp xs lo hi).length≤xs.length:=by
 unfold gp;rw [List.length_take,List.length_drop];omega
def Ey (K:W.Frag):V→Option Int→Option Int→Hp→VK→Prop:=fun x lo hi H Q=>∃ a xs,x=.ref a∧SqT K H a xs ∧
 ¬ (HT.sIx xs.length 0 lo=0∧HT.sIx xs.length xs.length hi=xs.length)∧∀ p,H p=none→Q (.ref p) (upd H p (.tup (gp xs lo hi)))
theorem C9:SlR X (Ey X.K):=by
 intro pins s σ H x v vl vu lo hi sl Q I rx hs pl pu h;obtain ⟨a,xs,rfl,hx,hw,q⟩:=h
 cases rx;obtain ⟨its,r,ht,hz⟩:=I.tuple hx;have hlen:its.toArray.size=xs.length:=by rw [List.size_toArray]; exact r.length.symm
 refine ⟨"tuple",_,PyProof.Rows.slot_tuple_getitem.lookup,ht.typeIs,?_⟩;refine HT.jH ht hs pl pu (by rw [hlen]; exact hw) ?_ (by rw [hlen]; exact hz);rw [hlen];refine ⟨.ref s.heap.objs.size,_,I.laid (t':=s.toks) (o:=.tup (gp xs lo hi)) (fun b ob q=>Heap.get?_push_of_some _ q) (Nat.le_refl _) ?_,rfl,q _ (I.hok.fresh (Nat.le_refl _))⟩;exact ⟨Nat.le_trans (kO xs lo hi) hz,_,(r.drop (HT.sIx xs.length 0 lo)).take (HT.sIx xs.length xs.length hi - HT.sIx xs.length 0 lo),IsTup.new _ _⟩
end
def ixN (n:Nat) (i:Int):Option Nat:=if 0≤i then (if i<n then some i.toNat else none) else if -(n:Int)≤i then some (i+n).toNat else none
def atI {α:Type} (xs:List α) (i:Int):Option α:=(ixN xs.length i).bind fun j=>xs[j]?
theorem pS {n:Nat} {i:Int} {j:Nat} (h:ixN n i=some j):seqIndex? i n=some j∧j<n∧-(n:Int)≤i∧i<n:=by
 unfold ixN at h;by_cases h0:0≤i
 ·rw [if_pos h0] at h;by_cases h1:i<n
  ·rw [if_pos h1] at h;have e:i.toNat=j:=Option.some.inj h;exact ⟨by rw [seqIndex_of h0 h1,e],by omega,by omega,h1⟩
  ·rw [if_neg h1] at h; cases h
 ·rw [if_neg h0] at h;by_cases h1:-(n:Int)≤i
  ·rw [if_pos h1] at h;have e:(i+n).toNat=j:=Option.some.inj h;exact ⟨by rw [seqIndex_neg (by omega) h1,e],by omega,h1,by omega⟩
  ·rw [if_neg h1] at h; cases h
theorem pG {α:Type} {xs:List α} {i:Int} {v:α} (h:atI xs i=some v):∃ j,seqIndex? i xs.length=some j∧xs[j]?=some v∧j<xs.length∧-(xs.length:Int)≤i∧i<xs.length:=by
 unfold atI at h
 cases e:ixN xs.length i with
 | none=>rw [e] at h; cases h
 | some j =>
  rw [e] at h;obtain ⟨h1,h2,h3,h4⟩:=pS e;exact ⟨j,h1,h,h2,h3,h4⟩
theorem bY {α:Type} {xs:List α} {j:Nat} {v:α} (h:xs[j]?=some v):atI xs (j:Int)=some v:=by
 have hj:j<xs.length:=(List.getElem?_eq_some_iff.mp h).1
 have e:ixN xs.length (j:Int)=some j:=by
  unfold ixN;rw [if_pos (by omega),if_pos (by omega)]; simp
 unfold atI; rw [e]; exact h
theorem rG {α:Type} (xs:List α) (v:α):atI (xs++[v]) (-1)=some v:=by
 have hl:(xs++[v]).length=xs.length+1:=by simp
 have e:ixN (xs++[v]).length (-1)=some xs.length:=by
  unfold ixN;rw [hl,if_neg (by decide),if_pos (by omega)]
  congr 1
  omega
 unfold atI;rw [e]
 show (xs++[v])[xs.length]?=some v
 simp
def uO (b:Expr):Prop:=∀ o i,subscripted b false o i=operate [o,i] (getItem o i)
def IxR (X:Cx) (r:R2):Prop :=
 ∀ (value slice:Expr) (pins:List (Addr×Obj)) (s:Shared) (σ:St) (H:Hp) (x y:V) (v u:Value) (Q:VK),Inv X pins σ H s→bG x v→bG y u→r x y H Q →
  subscripted slice false v u=operate [v,u] (getItem v u)→wpAny (model X.prog X.w) X.A (subscriptTail value slice v u) (EP X pins σ Q) X.xe s
def MtR (X:Cx) (id:String) (r:V→List V→Hp→VK→Prop):Prop :=
 ∀ (pins:List (Addr×Obj)) (s:Shared) (σ:St) (H:Hp) (x:V) (xs:List V) (v:Value) (us:List Value) (Q:VK),Inv X pins σ H s→bG x v→aV xs us→r x xs H Q →
  wpAny (model X.prog X.w) X.A (call (.builtin id) (v::us)) (EP X pins σ Q) X.xe s
section
variable {X:Cx} {a b:Expr} {ta tb:TE} {pos:Pos}
theorem ar {r:R2} (hr:IxR X r) (ha:PE X a ta) (hb:PE X b tb) (hs:uO b):PE X (.Subscript a b pos) (tOp r ta tb):=by
 intro pins s σ H Q I h;exact Subscript_ (BW ha hb I h fun v u s2 x y H2 I2 rx ry q=>hr a b pins s2 σ H2 x y v u Q I2 rx ry q (hs _ _))
def AA (K:W.Frag):R2:=fun x y H Q=>∃ p xs i v,x=.ref p∧y=.int i∧SqL K H p xs∧atI xs i=some v∧Q v H
def CF (K:W.Frag):R2:=fun x y H Q=>∃ p xs i v,x=.ref p∧y=.int i∧SqT K H p xs∧atI xs i=some v∧Q v H
def DH:R2:=fun x y H Q=>∃ z i c,x=.str z∧y=.int i∧z.length≤sizeLine∧atI z.cps.toList i=some c∧Q (.str ⟨#[c]⟩) H
theorem Aj:IxR X (AA X.K):=by
  intro value slice pins s σ H x y v u Q I rx ry h hs;obtain ⟨p,xs,i,z,rfl,rfl,hq,he,q⟩:=h
  cases rx;obtain ⟨t,rfl⟩:=ry;obtain ⟨its,r,pl,hz⟩:=I.list hq;obtain ⟨j,h1,h2,h3,h4,h5⟩:=pG he;obtain ⟨w,ew,rw'⟩:=r.get h2;have hl:=r.length;have hn:=km;have fin:EP X pins σ Q w s:=⟨z,H,I,rw',q⟩
  by_cases h0:0≤i
  · have hj:i.toNat=j:=by
      rw [seqIndex_of h0 h5] at h1;exact Option.some.inj h1
    exact item_listR pl.isList h0 (by omega) (by rw [hj]; simpa using ew) fin hs
  · have hj:(i+(its.toArray.size:Int)).toNat=j:=by
      rw [seqIndex_neg (by omega) h4] at h1;rw [List.size_toArray,← hl];exact Option.some.inj h1
    exact subscriptTail_builtinR (x:=w) pl.isList.typeIs slot_list_getitem.lookup
      (wpAny_getItem_list_neg (Q:=fun r s'=>r=w∧EP X pins σ Q r s') pl.isList (by omega) (by rw [List.size_toArray]<;>omega) (by omega) (by rw [hj]; simpa using ew) ⟨rfl,fin⟩) hs
theorem Ca:IxR X (CF X.K):=by
 intro value slice pins s σ H x y v u Q I rx ry h hs;obtain ⟨p,xs,i,z,rfl,rfl,hq,he,q⟩:=h
 cases rx;obtain ⟨t,rfl⟩:=ry;obtain ⟨its,r,pl,hz⟩:=I.tuple hq;obtain ⟨j,h1,h2,h3,h4,h5⟩:=pG he;obtain ⟨w,ew,rw'⟩:=r.get h2;have hl:=r.length;have hn:=km;have fin:EP X pins σ Q w s:=⟨z,H,I,rw',q⟩
 exact subscriptTail_builtinR (x:=w) pl.typeIs slot_tuple_getitem.lookup
  (getItem_tuple (j:=j) (Q:=fun r s'=>r=w∧EP X pins σ Q r s') pl (by omega) (by omega) (by rw [List.size_toArray,← hl]; exact h1) (by simpa using ew) ⟨rfl,fin⟩) hs
theorem B9:IxR X DH:=by
 intro value slice pins s σ H x y v u Q I rx ry h hs;obtain ⟨z,i,c,rfl,rfl,hz,he,q⟩:=h;obtain ⟨t,rfl⟩:=rx;obtain ⟨t',rfl⟩:=ry;obtain ⟨j,h1,h2,h3,h4,h5⟩:=pG he;have hl:z.cps.toList.length=z.length:=by simp [Str.length]
 rw [hl] at h1 h4 h5;have hn:=km;exact tail_any (typeIs_str s z t) slot_str_getitem.lookup (getItem_str (c:=c) (by
  have e1:decide (i < -(2 ^ 63:Int))=false:=decide_eq_false (by omega);have e2:decide (i≥2 ^ 63)=false:=decide_eq_false (by omega);rw [e1,e2,Bool.or_false]) (by rw [h1]; simpa using h2) ⟨.str ⟨#[c]⟩,H,I.tok _,⟨_,rfl⟩,q⟩) hs
theorem ud (its:List Value) (n j:Nat) (u:Value):Obj.mapSeq (·.setIfInBounds j u) { cls:=.type "list",data:=.seq its.toArray n }={ cls:=.type "list",data:=.seq (its.set j u).toArray n }:=by
 simp [Obj.mapSeq]
theorem Inv.lst {pins:List (Addr×Obj)} {σ:St} {H:Hp} {s:Shared} {p:Addr} {xs:List V} (I:Inv X pins σ H s) (h:H p=some (.lst xs)) :
  ∃ (its:List Value) (n:Nat),aV xs its∧s.heap.get? p=some { cls:=.type "list",data:=.seq its.toArray n }∧xs.length≤sizeLine:=by
 obtain ⟨z,its,n,r,e⟩:=I.hok p _ h;exact ⟨its,n,r,e,z⟩
theorem Inv.lstUpd {pins:List (Addr×Obj)} {σ:St} {H:Hp} {s:Shared} {p:Addr} {xs ys:List V} {its its':List Value} {n n':Nat} {f:Obj→Obj} (I:Inv X pins σ H s) (h:H p=some (.lst xs))
  (ho:s.heap.get? p=some { cls:=.type "list",data:=.seq its.toArray n }) (hf:f { cls:=.type "list",data:=.seq its.toArray n }={ cls:=.type "list",data:=.seq its'.toArray n' }) (r:aV ys its') (hz:ys.length≤sizeLine) (t:Nat) :
  Inv X pins σ (upd H p (.lst ys)) { s with heap:=s.heap.update p f,toks:=t }:=by
 have e:(s.heap.update p f).get? p=some { cls:=.type "list",data:=.seq its'.toArray n' }:=by
  rw [Heap.get?_update_self f ho (by rw [hf]<;>rfl),hf]
 refine I.write (x:=p) (e:=p) (by rw [h]; trivial) (.inl rfl) (fun b u hb q=>(Heap.get?_update_other _ _ (Ne.symm hb)).trans q) ⟨_,e⟩ ?_;exact ⟨hz,its',n',r,e⟩
def Bx:V→V→V→Hp→(Hp→Prop)→Prop:=fun o i v H Q=>∃ p xs k j,o=.ref p∧i=.int k∧H p=some (.lst xs)∧ixN xs.length k=some j∧Q (upd H p (.lst (xs.set j v)))
theorem mX:Di X Bx:=by
  intro pins s σ H o i v ov iv u Q I ro ri rv h;obtain ⟨p,xs,k,j,rfl,rfl,hp,hj,q⟩:=h
  cases ro;obtain ⟨t,rfl⟩:=ri;obtain ⟨its,n,r,ho,hz⟩:=I.lst hp;obtain ⟨h1,h2,h3,h4⟩:=pS hj;have hl:=r.length;have hn:=km
  have I':Inv X pins σ (upd H p (.lst (xs.set j v))) { s with heap:=s.heap.update p (Obj.mapSeq (·.setIfInBounds j u)) } :=
    I.lstUpd hp ho (ud its n j u) (r.set rv j) (by rw [List.length_set]; exact hz) s.toks
  by_cases h0:0≤k
  · have hk:k.toNat=j:=by
      rw [seqIndex_of h0 h4] at h1;exact Option.some.inj h1
    exact W.ki_setAt ho h0 (by omega) (by rw [List.size_toArray,← hl]; exact h4) (by rw [hk]; exact ⟨_,I',q⟩)
  · have hk:(k+(its.toArray.size:Int)).toNat=j:=by
      rw [seqIndex_neg (by omega) h3] at h1;rw [List.size_toArray,← hl];exact Option.some.inj h1
    exact W.ki_setBack ho (by omega) (by rw [List.size_toArray,← hl]; exact h3) (by omega) (by rw [hk]; exact ⟨_,I',q⟩)
theorem qR (lo hi:Option Int) (n:Nat):(sliceBounds lo hi none n).1=((HT.sIx n 0 lo:Nat):Int)∧(sliceBounds lo hi none n).2.1=((HT.sIx n n hi:Nat):Int)∧(sliceBounds lo hi none n).2.2=1:=by
 refine ⟨?_,?_,rfl⟩
 ·cases lo with
  | none => simp [sliceBounds, HT.sIx]
  | some i =>
   simp only [sliceBounds,HT.sIx,Option.getD_none,show (1:Int) > 0 by decide,if_true];by_cases h:i<0
   ·simp only [h,if_true]<;>omega
   ·simp only [h,if_false]<;>omega
 ·cases hi with
  | none => simp [sliceBounds, HT.sIx]
  | some i =>
   simp only [sliceBounds,HT.sIx,Option.getD_none,show (1:Int) > 0 by decide,if_true];by_cases h:i<0
   ·simp only [h,if_true]<;>omega
   ·simp only [h,if_false]<;>omega
theorem nY (its:List Value) (lo hi:Option Int):slicePick its.toArray lo hi none=((its.drop (HT.sIx its.length 0 lo)).take (HT.sIx its.length its.length hi - HT.sIx its.length 0 lo)).toArray:=by
 obtain ⟨h1,h2,h3⟩:=qR lo hi its.toArray.size;unfold slicePick;rw [h1,h2,h3];simp only [sliceRange_one,pick_run,List.size_toArray]<;>rfl
def AD (K:W.Frag):V→Option Int→Option Int→Hp→VK→Prop:=fun x lo hi H Q=>∃ a xs,x=.ref a∧SqL K H a xs∧∀ p,H p=none→Q (.ref p) (upd H p (.lst (gp xs lo hi)))
theorem A7:SlR X (AD X.K):=by
 intro pins s σ H x v vl vu lo hi sl Q I rx hs pl pu h;obtain ⟨a,xs,rfl,hx,q⟩:=h
 cases rx;obtain ⟨its,r,ht,hz⟩:=I.list hx;have hlen:=r.length;refine ⟨"list",_,slot_list_getitem.lookup,ht.isList.typeIs,?_⟩;refine wpAny_getItem_list_slice ht.isList hs pl pu .none (by simp) ?_ (by rw [List.size_toArray]<;>omega);rw [nY,← hlen];refine ⟨.ref s.heap.objs.size,_,I.laid (t':=s.toks) (o:=.lst (gp xs lo hi)) (fun b ob q=>Heap.get?_push_of_some _ q) (Nat.le_refl _) ?_,rfl,q _ (I.hok.fresh (Nat.le_refl _))⟩;exact ⟨Nat.le_trans (kO xs lo hi) hz,_,0,(r.drop (HT.sIx xs.length 0 lo)).take (HT.sIx xs.length xs.length hi - HT.sIx xs.length 0 lo),Heap.get?_push_size _ rfl⟩
theorem pJ:cn X (.builtin "len") (fun xs H Q=>∃ p ys,xs=[.ref p]∧(SqL X.K H p ys∨SqT X.K H p ys)∧Q (.int ys.length) H):=by
 intro pins s σ H xs us Q I r h;obtain ⟨p,ys,rfl,hq,q⟩:=h;obtain ⟨u,rfl,rx⟩:=j7 r
 cases rx;have hn:=km;rcases hq with hq | hq
 ·obtain ⟨its,r',pl,hz⟩:=I.list hq;have hlen:=r'.length;exact Calls.call_len_list pl.isList (by simp only [List.size_toArray]<;>omega) ⟨.int ys.length,H,I.tok _,⟨s.toks+1,by rw [List.size_toArray,hlen]⟩,q⟩
 ·obtain ⟨its,r',pl,hz⟩:=I.tuple hq;have hlen:=r'.length;exact len_tuple pl (by simp only [List.size_toArray]<;>omega) ⟨.int ys.length,H,I.tok _,⟨s.toks+1,by rw [List.size_toArray,hlen]⟩,q⟩
theorem pK:cn X (.builtin "len") (fun xs H Q=>∃ z,xs=[.str z]∧z.length≤sizeLine∧Q (.int z.length) H):=by
 intro pins s σ H xs us Q I r h;obtain ⟨z,rfl,hz,q⟩:=h;obtain ⟨u,rfl,t,rfl⟩:=j7 r;have hn:=km;exact len_str (by omega) ⟨.int z.length,H,I.tok _,⟨_,rfl⟩,q⟩
theorem pL:cn X (.type "list") (fun xs H Q=>∃ p ys,xs=[.ref p]∧(SqL X.K H p ys∨SqT X.K H p ys)∧∀ l,H l=none→Q (.ref l) (upd H l (.lst ys))):=by
  intro pins s σ H xs us Q I r h;obtain ⟨p,ys,rfl,hq,q⟩:=h;obtain ⟨u,rfl,rx⟩:=j7 r
  cases rx;have fin:∀ (its:List Value),aV ys its→ys.length≤sizeLine→∀ (h':Heap) (c':Nat),(∀ b o',s.heap.get? b=some o'→h'.get? b=some o') →
      h'.get? s.heap.objs.size=some { cls:=.type "list",dict:=none,data:=.seq its.toArray c',slots:=#[] }→EP X pins σ Q (.ref s.heap.objs.size) { s with heap:=h' }:=fun its r' hz h' c' kp e =>
    ⟨.ref s.heap.objs.size,_,I.laid (t':=s.toks) kp (Nat.le_refl _) (show bM X.prog X.w _ h' _ (.lst ys) from ⟨hz,its,c',r',e⟩),rfl,q _ (I.hok.fresh (Nat.le_refl _))⟩
  rcases hq with hq | hq
  · obtain ⟨its,r',pl,hz⟩:=I.list hq
    have hlen:=r'.length;obtain ⟨o,ho,hc,n,hd⟩:=pl.isList;exact call_list_seq p (.inl rfl) ho hc hd (fun h' c' kp e=>fin its r' hz h' c' kp e) (by simp only [List.size_toArray]<;>omega)
  · obtain ⟨its,r',pl,hz⟩:=I.tuple hq
    have hlen:=r'.length;obtain ⟨o,ho,hc,n,hd⟩:=pl;exact call_list_seq p (.inr rfl) ho hc hd (fun h' c' kp e=>fin its r' hz h' c' kp e) (by simp only [List.size_toArray]<;>omega)
theorem nI:cn X (.type "tuple") (fun xs H Q=>∃ p ys,xs=[.ref p]∧((SqL X.K H p ys∧∀ l,H l=none→Q (.ref l) (upd H l (.tup ys)))∨(SqT X.K H p ys∧Q (.ref p) H))):=by
 intro pins s σ H xs us Q I r h;obtain ⟨p,ys,rfl,h⟩:=h;obtain ⟨u,rfl,rx⟩:=j7 r
 cases rx;rcases h with ⟨hq,q⟩ | ⟨hq,q⟩
 ·obtain ⟨its,r',pl,hz⟩:=I.list hq;have hlen:=r'.length;refine call_tuple_list pl.isList (fun h' kp=>?_) (by simp only [List.size_toArray]<;>omega);have I1:Inv X pins σ H { s with heap:=h' }:=I.kept (t':=s.toks) kp
  have I2:Inv X pins σ (upd H h'.objs.size (.tup ys)) { s with heap:=h'.push { cls:=.type "tuple",data:=.seq its.toArray } } :=
   I1.laid (t':=s.toks) (fun b o e=>Heap.get?_push_of_some _ e) (Nat.le_refl _) (show bM X.prog X.w _ _ _ (.tup ys) from ⟨hz,its,r',IsTup.new _ _⟩)
  exact ⟨.ref h'.objs.size,_,I2,rfl,q _ (I1.hok.fresh (Nat.le_refl _))⟩
 ·obtain ⟨its,r',pl,hz⟩:=I.tuple hq;exact call_tuple_same pl ⟨.ref p,H,I,rfl,q⟩
def tyV (K:W.Frag) (T:String) (x:V) (H:Hp):Prop:=match x with
  | .str _ => T = "str"
  | .int _ => T = "int"
  | .ref p => (T = "list" ∧ ∃ xs, SqL K H p xs) ∨ (T = "tuple" ∧ ∃ o, K.lookup p = some o ∧ o.cls = .type "tuple" ∧ o.dict = none) ∨
      (T="dict"∧((∃ kvs,H p=some (.dK kvs))∨∃ kvs,H p=some (.dT kvs)))∨(T="set"∧∃ S n,H p=some (.set S n))
  | _ => False
theorem zJ {pins:List (Addr×Obj)} {σ:St} {H:Hp} {s:Shared} {T:String} {x:V} {v:Value} (I:Inv X pins σ H s) (r:bG x v) (ty:tyV X.K T x H) :
    s.TypeIs v T∧∀ a,v=.ref a→∃ ob,s.heap.get? a=some ob∧ob.dict=none:=by
  cases x with
  | str z =>
    obtain ⟨t,rfl⟩:=r
    cases (show T="str" from ty)
    exact ⟨typeIs_str s z t,fun _ e=>nomatch e⟩
  | int i =>
    obtain ⟨t,rfl⟩:=r
    cases (show T="int" from ty)
    exact ⟨typeIs_int s i t,fun _ e=>nomatch e⟩
  | ref p =>
    cases r;rcases ty with ⟨rfl,xs,hq⟩ | ⟨rfl,o,hk,hc,hd⟩ | ⟨rfl,hk⟩ | ⟨rfl,S,n,hk⟩
    · obtain ⟨its,_,pl,_⟩:=I.list hq
      refine ⟨pl.isList.typeIs,fun a e=>?_⟩
      cases e;obtain ⟨o,n,e,c,hd,_⟩:=pl;exact ⟨o,e,hd⟩
    · refine ⟨⟨o,I.kIn p o hk,hc⟩,fun a e=>?_⟩
      cases e;exact ⟨o,I.kIn _ o hk,hd⟩
    · have z:∃ o,s.heap.get? p=some o∧o.ExactDict:=by
        rcases hk with ⟨kvs,hk⟩ | ⟨kvs,hk⟩
        · obtain ⟨_,_,_,_,o,_,_,e,ex,_⟩:=I.hok p _ hk
          exact ⟨o,e,ex⟩
        · obtain ⟨_,_,_,_,o,_,_,e,ex,_⟩:=I.hok p _ hk
          exact ⟨o,e,ex⟩
      obtain ⟨o,e,ex⟩:=z;refine ⟨⟨o,e,ex.1⟩,fun a e2=>?_⟩
      cases e2;exact ⟨o,e,ex.2.1⟩
    · obtain ⟨o,_,_,_,e,ex,_⟩:=I.hok p _ hk
      refine ⟨⟨o,e,ex.1⟩,fun a e2=>?_⟩
      cases e2;exact ⟨o,e,ex.2.1⟩
  | _ => exact False.elim ty
def D0 (K:W.Frag) (T:String) (r:V→List V→Hp→VK→Prop) (to:TE):TE:=fun σ H Q=>to σ H fun x H1=>tyV K T x H1∧r x [] H1 Q
def tBM (K:W.Frag) (T:String) (r:V→List V→Hp→VK→Prop) (to:TE) (t:TA):TE:=fun σ H Q=>to σ H fun x H1=>tyV K T x H1∧t σ H1 fun xs H2=>r x xs H2 Q
variable {o e:Expr} {es:List Expr} {to:TE} {t:TA} {name:Str} {apos cpos:Pos} {T id:String} {r:V→List V→Hp→VK→Prop}
theorem x6 (pa:PlainAttrs T) (slot:Slot T name id) (hty:typeOf (.builtin id)=pure (.type "method_descriptor")) (hm:MtR X id r) (ho:PE X o to)
  (hbase:attributeBase o name X.env (eval o X.env)=eval o X.env:=by rfl) (hline:(apos.endLine==cpos.line)=true:=by rfl):PE X (.Call (.Attribute o name apos) [] [] cpos) (D0 X.K T r to):=by
 intro pins s σ H Q I h;refine wpAny_Call_method0_late hbase hline (thn (ho pins s σ H _ I h) fun v s1 ⟨x,H1,I1,r1,ty,q1⟩=>?_);obtain ⟨h1,h2⟩:=zJ I1 r1 ty;exact ⟨T,id,pa,slot,hty,h1,h2,Calls.callWith_builtin rfl (PySem.evalArgs_none (hm pins s1 σ H1 x [] v [] Q I1 r1 .nil q1))⟩
theorem gR (pa:PlainAttrs T) (slot:Slot T name id) (hty:typeOf (.builtin id)=pure (.type "method_descriptor")) (hm:MtR X id r) (ho:PE X o to) (ha:PA X (e::es) t)
  (hbase:attributeBase o name X.env (eval o X.env)=eval o X.env:=by rfl)
  (hfew:((backTo cpos (starEach (e::es) X.env)).all (fun x=>!x.1)&&(backToKw cpos (keywordEach [] X.env)).all (fun x=>x.1.isSome)
   && decide ((e::es).length+([]:List Keyword).length+(if ([]:List Keyword).isEmpty then 0 else 1)<30))=true:=by rfl)
  (hline:(apos.endLine==cpos.line)=true:=by rfl) (hs:starEach (e::es) X.env=(false,eval e X.env)::starEach es X.env:=by rfl) (hplain:(backTo cpos (starEach es X.env)).any (·.1)=false:=by rfl) :
  PE X (.Call (.Attribute o name apos) (e::es) [] cpos) (tBM X.K T r to t):=by
 intro pins s σ H Q I h;refine wpAny_Call_method_late hbase hfew hline rfl (thn (ho pins s σ H _ I h) fun v s1 ⟨x,H1,I1,r1,ty,q1⟩=>?_);obtain ⟨h1,h2⟩:=zJ I1 r1 ty;refine ⟨T,id,pa,slot,hty,h1,h2,?_⟩;have hA:=ha cpos pins s1 σ H1 _ I1 q1;rw [hs] at hA ⊢;refine Calls.callWith_builtin (by show (false||(backTo cpos (starEach es X.env)).any (·.1))=false; rw [hplain]<;>rfl) (Calls.evalArgs_plain ?_);exact thn hA fun us s2 ⟨vs,H2,I2,r2,q2⟩=>hm pins s2 σ H2 x vs v us Q I2 r1 r2 q2
/- xs.append(e),list.index on a module's tuple .. are MtR facts of 06m -/
end
def MtM (X:Cx) (id:String) (r:V→List V→Hp→VK→Prop):Prop :=
 ∀ (pins:List (Addr×Obj)) (s:Shared) (σ:St) (H:Hp) (x:V) (xs:List V) (v:Value) (us:List Value) (Q:VK),Inv X pins σ H s→bG x v→aV xs us→r x xs H Q →
  wpAny (model X.prog X.w) X.A (call (.builtin id) (v::us)) (EP X pins σ Q) X.xe s
theorem aV.one:∀ {x:V} {us:List Value},aV [x] us→∃ u,us=[u]∧bG x u
 | _,_,.cons r .nil=>⟨_,rfl,r⟩
theorem aV.two:∀ {x y:V} {us:List Value},aV [x,y] us→∃ u v,us=[u,v]∧bG x u∧bG y v
 | _,_,_,.cons r (.cons q .nil)=>⟨_,_,rfl,r,q⟩
theorem aV.zero:∀ {us:List Value},aV [] us→us=[]
 | _,.nil=>rfl
theorem aV.dropLast {xs:List V} {us:List Value} (h:aV xs us):aV xs.dropLast us.dropLast:=by
 induction h with
 | nil=>exact .nil
 | cons r t ih =>
  cases t with
  | nil => exact .nil
  | cons q t' => exact .cons r ih
theorem aV.eraseIdx:∀ {xs:List V} {us:List Value} (i:Nat),aV xs us→aV (xs.eraseIdx i) (us.eraseIdx i)
 | _,_,_,.nil=>.nil
 | _,_,0,.cons _ t=>t
 | _,_,i+1,.cons r t=>.cons r (aV.eraseIdx i t)
theorem tW {α:Type} (l:List α):l.eraseIdx (l.length - 1)=l.dropLast:=by
 induction l with
 | nil=>rfl
 | cons a r ih =>
  cases r with
  | nil => rfl
  | cons b r =>
   have e:(a::b::r).length - 1=((b::r).length - 1)+1:=by
    have h1:(a::b::r).length=r.length+2:=rfl;have h2:(b::r).length=r.length+1:=rfl;omega
   rw [e,List.eraseIdx_cons_succ,ih]
   all_goals rfl
theorem oX {α:Type}:∀ (l:List α) (i:Nat),(l.eraseIdx i).length≤l.length
 | [],_=>Nat.le_refl _
 | _::_,0=>Nat.le_succ _
 | _::r,i+1=>Nat.succ_le_succ (oX r i)
section
variable {X:Cx} {pins:List (Addr×Obj)} {σ:St} {H:Hp} {s:Shared} {l b:Addr} {xs ys zs:List V}
theorem Inv.lset {its its':List Value} {n:Nat} {f:Array Value→Array Value} {t':Nat} (I:Inv X pins σ H s) (hH:H l=some (.lst xs))
  (e:s.heap.get? l=some { cls:=.type "list",data:=.seq its.toArray n }) (hf:f its.toArray=its'.toArray) (hv:aV ys its') (hz:ys.length≤sizeLine) :
  Inv X pins σ (upd H l (.lst ys)) { s with heap:=s.heap.update l (Obj.mapSeq f),toks:=t' }:=by
 have q:=PySem.IsL.update e f;rw [hf] at q;refine I.write (x:=l) (e:=l) (by rw [hH]; exact trivial) (.inl rfl) (fun b' u hb hu=>(Heap.get?_update_other s.heap (Obj.mapSeq f) (Ne.symm hb)).trans hu) ⟨_,q⟩ ?_;exact ⟨hz,its',_,hv,q⟩
theorem Inv.lnew {its:List Value} {t':Nat} (I:Inv X pins σ H s) (hv:aV ys its) (hz:ys.length≤sizeLine) :
  Inv X pins σ (upd H s.heap.objs.size (.lst ys)) { s with heap:=s.heap.push { cls:=.type "list",data:=.seq its.toArray },toks:=t' } :=
 I.laid (fun _ _ q=>Heap.get?_push_of_some _ q) (Nat.le_refl _) ⟨hz,its,0,hv,Heap.get?_push_size _ rfl⟩
theorem Inv.fresh (I:Inv X pins σ H s):H s.heap.objs.size=none:=I.hok.fresh (Nat.le_refl _)
theorem Inv.lstM (I:Inv X pins σ H s) (hH:H l=some (.lst xs)):xs.length≤sizeLine∧∃ (its:List Value) (n:Nat),aV xs its∧xs.length=its.length∧s.heap.get? l=some { cls:=.type "list",data:=.seq its.toArray n }:=by
 obtain ⟨z,its,n,r,e⟩:=I.hok l _ hH;exact ⟨z,its,n,r,r.length,e⟩
end
section
variable {X:Cx}
def u6:V→List V→Hp→VK→Prop:=fun x vs H Q=>∃ l xs y,x=.ref l∧vs=[y]∧H l=some (.lst xs)∧xs.length<sizeLine∧Q .non (upd H l (.lst (xs++[y])))
theorem bT:MtM X "list.append" u6:=by
 intro pins s σ H x vs v us Q I rx rv h;obtain ⟨l,xs,y,rfl,rfl,hH,hz,q⟩:=h
 cases rx;obtain ⟨u,rfl,ru⟩:=rv.one;obtain ⟨z,its,n,r,hl,e⟩:=I.lstM hH;refine call_meets F.slot_list_append ⟨_,e,rfl⟩ F.entry_list_append (F.args_list_append_2 _ _) (PySem.list_append l its.toArray n u (by rw [List.size_toArray]; omega)) ⟨e,?_⟩;refine ⟨.non,_,I.lset (its':=its++[u]) hH e (by simp) (r.append (.cons ru .nil)) ?_,rfl,q⟩;rw [List.length_append,List.length_singleton];omega
def Ex:V→List V→Hp→VK→Prop:=fun x vs H Q=>∃ l xs y,x=.ref l∧vs=[]∧H l=some (.lst xs)∧xs[xs.length - 1]?=some y∧Q y (upd H l (.lst xs.dropLast))
theorem xW:MtM X "list.pop" Ex:=by
 intro pins s σ H x vs v us Q I rx rv h;obtain ⟨l,xs,y,rfl,rfl,hH,hy,q⟩:=h
 cases rx;have hus:=rv.zero;subst hus;obtain ⟨z,its,n,r,hl,e⟩:=I.lstM hH;obtain ⟨u,hu,ru⟩:=r.get hy
 have hy':its.toArray[its.toArray.size - 1]?=some u:=by
  show its.toArray[its.length - 1]?=some u
  rw [← Array.getElem?_toList,← hl];exact hu
 refine call_meets F.slot_list_pop ⟨_,e,rfl⟩ F.entry_list_pop (F.args_list_pop_1 _) (MeetsSeq.list_pop_last l its.toArray n u hy' (by rw [List.size_toArray]; omega)) ⟨e,?_⟩;refine ⟨y,_,I.lset (its':=its.dropLast) hH e ?_ r.dropLast ?_,ru,q⟩
 ·show its.toArray.eraseIdxIfInBounds (its.toArray.size - 1)=its.dropLast.toArray
  rw [List.size_toArray,List.eraseIdxIfInBounds_toArray,tW]
 ·rw [List.length_dropLast];omega
def yl:V→List V→Hp→VK→Prop:=fun x vs H Q=>∃ l xs i k y,x=.ref l∧vs=[.int i]∧H l=some (.lst xs)∧-(2 ^ 63)≤i∧i<2 ^ 63∧seqIndex? i xs.length=some k∧xs[k]?=some y∧Q y (upd H l (.lst (xs.eraseIdx k)))
theorem xX:MtM X "list.pop" yl:=by
 intro pins s σ H x vs v us Q I rx rv h;obtain ⟨l,xs,i,k,y,rfl,rfl,hH,h1,h2,hk,hy,q⟩:=h
 cases rx;obtain ⟨u,rfl,ru⟩:=rv.one;obtain ⟨t,rfl⟩:=ru;obtain ⟨z,its,n,r,hl,e⟩:=I.lstM hH;obtain ⟨w,hw,rw'⟩:=r.get hy;refine call_meets F.slot_list_pop ⟨_,e,rfl⟩ F.entry_list_pop (F.args_list_pop_2 _ _)
  (MeetsSeq.list_pop_at l its.toArray n i t k w (fitsIndex_both h1 h2) (by rw [List.size_toArray,← hl]; exact hk) (by rw [← Array.getElem?_toList]; exact hw) (by rw [List.size_toArray]; omega)) ⟨e,?_⟩
 refine ⟨y,_,I.lset (its':=its.eraseIdx k) hH e ?_ (r.eraseIdx k) ?_,rw',q⟩
 ·show its.toArray.eraseIdxIfInBounds k=(its.eraseIdx k).toArray
  rw [List.eraseIdxIfInBounds_toArray]
 ·have:=oX xs k
  omega
def CA:R2:=fun x y H Q=>∃ l b xs zs,x=.ref l∧y=.ref b∧H l=some (.lst xs)∧H b=some (.lst zs)∧xs.length+zs.length≤sizeLine∧∀ p,H p=none→Q (.ref p) (upd H p (.lst (xs++zs)))
theorem eP:OpR X (binaryOp .Add) CA:=by
 intro pins s σ H x y v u Q I rx ry h;obtain ⟨l,b,xs,zs,rfl,rfl,hH,hB,hz,q⟩:=h
 cases rx
 cases ry;obtain ⟨z,its,n,r,hl,e⟩:=I.lstM hH;obtain ⟨z2,its2,n2,r2,hl2,e2⟩:=I.lstM hB;refine PySem.P.add_list e e2 ?_ (by rw [List.size_toArray,List.size_toArray]; omega);have ea:its.toArray++its2.toArray=(its++its2).toArray:=by simp
 rw [ea];exact ⟨.ref _,_,I.lnew (t':=s.toks) (r.append r2) (by rw [List.length_append]; omega),rfl,q _ I.fresh⟩
end
section
variable {prog:Program} {w:World} {A:Around} {E:Value→Shared→Prop} {s:Shared}
set_option maxRecDepth 100000 in
end
end L2
namespace Att
open PySem PySem.W PySem.Calls PyProof.Rows
theorem kY {P:Params} {h:Heap}:∀ (ns:List Int) (vs:List Value),WellAll P h vs (ns.map WData.int)→IntsAre vs ns:=by
 intro ns
 induction ns with
 | nil =>
  intro vs w;rw [List.map_nil] at w
  cases w;exact .nil
 | cons n ns ih =>
  intro vs w;rw [List.map_cons] at w
  cases w with
  | cons a b =>
   cases a;exact .cons _ _ (ih _ b)
theorem wI {l:OpenLaw} {n:Nat} (hn:l.most=some n) {P:Params} {h:Heap} {args:List WData} {vals:List Value}
  (hpre:l.row.toRowW.claim.pre args=true) (hwl:WellAll P h vals args) :
  ∃ a vs ns,vals=[Value.ref a]∧args=[WData.list (ns.map WData.int)]∧h.get? a=some { cls:=.type "list",data:=.seq vs.toArray }∧IntsAre vs ns∧ns.length≤n:=by
 have hsh:WShape.hasAll [] args [.list .int]=true:=(pre_splitW hpre).1;have hc:l.pre.holds [] { args:=args }=true:=(pre_splitW hpre).2;obtain ⟨d,r,rfl,h1,h2⟩:=hasAllW_cons hsh;obtain rfl:=hasAllW_nil h2
 obtain ⟨xs,rfl,h3⟩:=hasW_list h1;obtain ⟨ns,rfl⟩:=items_int h3
 have hlen:ns.length≤n:=by
  unfold OpenLaw.pre at hc
  have h4:(WTm.not (.lt (.lit (.int (n:Int))) (.len (.arg 0)))).holds [] { args:=[.list (ns.map .int)] }=true:=by
   have h4:=(holds_andW hc).1;rw [hn] at h4;exact h4
  have h5:=condW_of h4 (w_not (w_lt w_lit (w_len_list (w_arg rfl))));rw [List.length_map] at h5;refine Nat.le_of_not_lt fun q=>?_;have q':(n:Int)<((ns.length:Nat):Int):=by omega
  first
   | (rw [decide_eq_true q'] at h5; exact absurd h5 (by decide))
   | (simp at h5; omega)
 cases hwl with
 | cons w1 w2 =>
  cases w2
  cases w1 with
  | list ho hall => exact ⟨_, _, ns, rfl, rfl, ho, kY ns _ hall, hlen⟩
theorem wk (l:OpenLaw) (args:List WData):l.row.toRowW.claim.post args (.bool true) args=true :=
 postW_of (r:=l.row.toRowW) (X:=(true==true))
  (show WShape.has [] (.bool true) .bool=true by first | rfl | decide | simp [WShape.has,WShape.arms,WShape.armsAll])
  (show (WTm.eq .res (.lit (.bool true))).value [] { args:=args,res:=some (.bool true),after:=args }=some (.bool (true==true)) from w_eq_bool (w_res rfl) w_lit) rfl
theorem rH {l:OpenLaw} {n:Nat} {q:Program} {loose:List Str} {XP:(Str→Option Value)→Heap→Prop} {YP:World→Heap→Prop} {d:DefRec}
  (hn:l.most=some n) (hdf:d.params.defaults=[])
  (call:∀ (w:World) (s₀ s₁:Shared) (mg mb:Str→Option Value) (fa:Addr) (o:Obj) (pm cd doc:Value) (a:Addr) (vs:List Value) (ns:List Int),
   Ground q loose [] XP w s₀ mg mb s₁.heap→YP w s₁.heap →
   s₁.heap.get? fa=some o→o.data=.func (docDef d.name d.params d.body d.scope pm cd doc)→s₁.heap.CodeRec cd d.name→mg d.name=some (.ref fa) →
   s₁.heap.get? a=some { cls:=.type "list",data:=.seq vs.toArray }→IntsAre vs ns→ns.length≤n→s₁.gens=#[] →
   codeAny (model l.prog w) callerA (.call (.ref fa) ⟨[.ref a],[]⟩) (fun r s'=>r=.ok (.ret (.bool true))∧OldK s₁.heap s'.heap∧s'.os=s₁.os∧AllBare s'.gens) s₁) :
  WalkO q loose XP YP l.row.toRowW d [] (fun f vs=>PySem.call f vs):=by
 intro w s₀ s₁ mg mb G Y fa o pm cd doc dV kV ho hd hcd hD hmg hg args vals as hpre hlay hrd hwl hlo;obtain rfl:dV=.none:=Dflts.none hD hdf
 obtain rfl:kV=.none:=Dflts.noKw hD
 obtain ⟨a,vs,ns,rfl,rfl,hobj,hints,hlen⟩:=wI hn hpre hwl;refine enter_call (codeAny_mono (call w s₀ s₁ mg mb fa o pm cd doc a vs ns G Y ho (fd_plain hd) hcd hmg hobj hints hlen hg) fun r s' hq=>?_);obtain ⟨rfl,h2,h3,h4⟩:=hq;exact ⟨.inl ⟨.bool true,.bool true,[],rfl,fun _=>rfl,.bool true,wk l _,fun _=>⟨List.Pairwise.nil,fun _ hm=>(nomatch hm)⟩⟩,h2,h3,h4⟩
section
variable {prog:Program} {w:World} {A:Around} {E:Value→Shared→Prop} {s:Shared} {K:Frag}
def Em (h:Heap) (L d:Addr):List (Addr×Obj):=(List.range h.objs.size).filterMap fun a=>if a=L∨a=d then none else (h.get? a).map fun o=>(a,o)
end
end Att
namespace L2
open PySem PySem.Spec PyProof.Rows
theorem pD:∀ {vs:List Value} {ns:List Int},IntsAre vs ns→aV (ns.map V.int) vs
 | _,_,.nil=>.nil
 | _,_,.cons n t h=>.cons ⟨t,rfl⟩ (pD h)
def zQ (H:Hp):Prop:=∀ b,H b=none∨∃ o xs,H b=some (.frz o (.lst xs))
theorem xV {P:Program} {w:World} {K:W.Frag} {mg mb:Str→Option Value} {CX:CXT} {k:Nat} {fa a:Addr} {fd:FuncData} {x:Str} {sp:Sp} {s₁:Shared} {vs:List Value} {ns:List Int}
    (KX:K.In s₁.heap) (hns:s₁.heap.Ns mainGlobals mg) (hb:s₁.heap.Ns builtinsNs mb) (hbb:∀ x:Str,x≠"__name__"→mb x=bootBuiltins x) (hlim:s₁.heap.NoLimit) (hg:s₁.gens=#[])
    (ha:s₁.heap.get? a=some { cls:=.type "list",data:=.seq vs.toArray }) (hi:IntsAre vs ns) (hl:ns.length≤sizeLine) (hr:cS k callerA)
    (F:∀ base:Heap,K.In base→base.Ns mainGlobals mg→aU P w K mg base CX k fa fd [x] sp) (hbind:∀ (s:Shared) (u:Value),BindsTo s fd ⟨[u],[]⟩ [(x,u)])
    (hsp:∀ H:Hp,zQ H→SqL K H a (ns.map V.int)→sp [.ref a] H (fun v _=>v=.bl true) fun _ _ _=>False)
    (hCX:∀ H e s',CX [] H s₁ (fun _ _ _=>False) e s'→False) :
    codeAny (model P w) callerA (.call (.ref fa) ⟨[.ref a],[]⟩) (fun r s'=>r=.ok (.ret (.bool true))∧OldK s₁.heap s'.heap∧s'.os=s₁.os∧AllBare s'.gens) s₁:=by
  have rv:=pD hi;have lenV:=hi.length
  -- from an abstract heap in which nothing but the script may be tracked
  have core:∀ H:Hp,zQ H→SqL K H a (ns.map V.int)→HOk P w H s₁.heap→(∀ b,H b≠none→b=a)→(H a≠none→K.lookup a=none) →
      codeAny (model P w) callerA (.call (.ref fa) ⟨[.ref a],[]⟩) (fun r s'=>r=.ok (.ret (.bool true))∧OldK s₁.heap s'.heap∧s'.os=s₁.os∧AllBare s'.gens) s₁:=by
    intro H hO hS hok hA hK;have base_of:∀ {b:Addr} {o:Obj},s₁.heap.get? b=some o→H b=none→(pQ s₁.heap H).get? b=some o:=fun e n=>xP e n;have noA:∀ {b:Addr} {o:Obj} {es:Array DictEntry} {ep:Nat},s₁.heap.get? b=some o→o.data=.dict es ep→H b=none:=fun {b o es ep} e d=>by
      cases q:H b with
      | none=>rfl
      | some u =>
        have e':b=a:=hA b (by rw [q]; simp);subst e';rw [ha] at e; cases e;have d':Data.seq vs.toArray _=Data.dict es ep:=d
        cases d'
    have nsK:∀ {b:Addr} {m:Str→Option Value},s₁.heap.Ns b m→(pQ s₁.heap H).Ns b m:=fun {b m} ⟨o,es,ep,e,d,r⟩=>⟨o,es,ep,base_of e (noA e d),d,r⟩
    have hKb:K.In (pQ s₁.heap H):=fun b o e=>base_of (KX b o e) (by
      cases q:H b with
      | none=>rfl
      | some u =>
        have e':b=a:=hA b (by rw [q]; simp);subst e';rw [hK (by rw [q]; simp)] at e; cases e)
    have hM:Mod K mg (pQ s₁.heap H):=⟨hKb,nsK hns,⟨mb,nsK hb,hbb⟩,let ⟨mc,h1,h2⟩:=hlim; ⟨mc,nsK h1,h2⟩⟩
    have e0:rE P w K mg (pQ s₁.heap H) callerA [] s₁ H:=⟨rfl,hM,fun b o e=>An e,Nat.le_of_eq (vT _ _),trivial,fun b hb=>absurd (show b∈([]:List Addr) from hb) (by simp),hok,.of_eq hg⟩
    refine codeAny_mono ((F _ hKb (nsK hns)).run callerA [] s₁ H ⟨[.ref a],[]⟩ [.ref a] [.ref a] _ _ hr e0 (hbind s₁ (.ref a)) (.cons rfl .nil) (hsp H hO hS)) fun r s' h=>?_
    cases r with
    | error e=>exact (hCX H e s' h).elim
    | ok fl =>
      cases fl with
      | next=>exact False.elim h
      | brk=>exact False.elim h
      | cont=>exact False.elim h
      | ret u =>
        obtain ⟨v,H',os,bare,un,hok',r',q⟩:=h;have q':v=.bl true:=q;subst q';obtain rfl:u=Value.bool true:=r'
        refine ⟨rfl,OldK.of_keep fun b o e=>?_,os,bare⟩
        cases q:H b with
        | none=>exact un.keep b o e q (by intro z; exact absurd (show b∈([]:List Addr) from z) (by simp)) (by simp)
        | some u =>
          rcases hO b with z | ⟨ob,xs,z⟩
          · rw [q] at z; cases z
          · have z2:=un.frzs b ob _ z
            obtain ⟨e1,_⟩:=hok b _ z;obtain ⟨e2,_⟩:=hok' b _ z2;rw [e] at e1; cases e1;exact e2
  cases hk:K.lookup a with
  | some o =>
    -- the script is one of the module's own objects
    have e:=KX a o hk;rw [ha] at e
    cases e;refine core (fun _=>none) (fun _=>.inl rfl) (.inr ⟨_,vs.toArray,_,hk,rfl,rfl,rfl,by rw [List.size_toArray,lenV]; exact hl,by simpa using rv⟩) (fun b u z=>by have z':(none:Option HO)=some u:=z; cases z') (fun b z=>absurd rfl z) fun z=>absurd rfl z
  | none =>
    refine core (fun b=>if b=a then some (.frz { cls:=.type "list",data:=.seq vs.toArray } (.lst (ns.map V.int))) else none) (fun b=>?_) (.inl (.inr ⟨{ cls:=.type "list",data:=.seq vs.toArray },if_pos rfl⟩)) (fun b u z=>?_) (fun b z=>?_) fun _=>hk
    · by_cases hb:b=a
      · exact .inr ⟨_,_,if_pos hb⟩
      · exact .inl (if_neg hb)
    · by_cases hb:b=a
      · have z':=(if_pos hb).symm.trans z
        cases z';subst hb;exact ⟨ha,by rw [List.length_map]; exact hl,vs,_,rv,ha⟩
      · have z':=(if_neg hb).symm.trans z
        cases z'
    · by_cases hb:b=a
      · exact hb
      · exact absurd (if_neg hb) z
abbrev KOf {K:W.Frag} {h:Heap} (_:K.In h):W.Frag:=K
theorem walk_of {l:PySem.W.OpenLaw} {n k:Nat} {q:Program} {loose:List Str} {XP:(Str→Option Value)→Heap→Prop} {YP:World→Heap→Prop} {d:DefRec} {K:Params→W.Frag} {CX:World→CXT} {sp:World→Sp} {x:Str}
  (hn:l.most=some n) (hn2:n≤sizeLine) (hdf:d.params.defaults=[]) (hr:cS k callerA)
  (hY:∀ (w:World) (h:Heap),YP w h→(K w.params).In h)
  (F:∀ (w:World) (mg:Str→Option Value) (fa:Addr) (h:Heap),(K w.params).In h→h.Ns mainGlobals mg→mg d.name=some (.ref fa) →
   ∃ fd:FuncData,(∀ (s:Shared) (u:Value),BindsTo s fd ⟨[u],[]⟩ [(x,u)]) ∧
    ∀ base:Heap,(K w.params).In base→base.Ns mainGlobals mg→aU l.prog w (K w.params) mg base (CX w) k fa fd [x] (sp w))
  (hsp:∀ (w:World) (H:Hp) (a:Addr) (ns:List Int),ns.length≤n→zQ H→SqL (K w.params) H a (ns.map V.int)→sp w [.ref a] H (fun v _=>v=.bl true) fun _ _ _=>False)
  (hCX:∀ (w:World) (H:Hp) (s:Shared) (e:Value) (s':Shared),CX w [] H s (fun _ _ _=>False) e s'→False) :
  PySem.W.WalkO q loose XP YP l.row.toRowW d [] (fun f vs=>PySem.call f vs):=by
 refine Att.rH hn hdf fun w s₀ s₁ mg mb fa o pm cd doc a vs ns G Y ho hd hcd hmg hobj hints hlen hg=>?_;have KX:=hY w _ Y;obtain ⟨fd,hb,hF⟩:=F w mg fa _ KX G.T.g hmg;exact xV KX G.T.g G.T.b G.T.builtins G.T.nolimit hg hobj hints (Nat.le_trans hlen hn2) hr hF hb (fun H hO hS=>hsp w H a ns hlen hO hS) fun H e s'=>hCX w H s₁ e s'
theorem walk_ofK {l:PySem.W.OpenLaw} {n k:Nat} {q:Program} {loose:List Str} {XP:(Str→Option Value)→Heap→Prop} {YP:World→Heap→Prop} {d:DefRec} {K:Params→W.Frag} {CX:CXT} {sp:W.Frag→Sp} {x:Str}
  (hn:l.most=some n) (hn2:n≤sizeLine) (hdf:d.params.defaults=[]) (hr:cS k callerA)
  (hY:∀ (w:World) (h:Heap),YP w h→(K w.params).In h)
  (F:∀ (w:World) (mg:Str→Option Value) (fa:Addr) (h:Heap),(K w.params).In h→h.Ns mainGlobals mg→mg d.name=some (.ref fa) →
   ∃ fd:FuncData,(∀ (s:Shared) (u:Value),BindsTo s fd ⟨[u],[]⟩ [(x,u)]) ∧
    ∀ base:Heap,(K w.params).In base→base.Ns mainGlobals mg→aU l.prog w (K w.params) mg base CX k fa fd [x] (sp (K w.params)))
  (hsp:∀ (K:W.Frag) (H:Hp) (a:Addr) (ns:List Int),ns.length≤n→zQ H→SqL K H a (ns.map V.int)→sp K [.ref a] H (fun v _=>v=.bl true) fun _ _ _=>False)
  (hCX:∀ (H:Hp) (s:Shared) (e:Value) (s':Shared),CX [] H s (fun _ _ _=>False) e s'→False) :
  PySem.W.WalkO q loose XP YP l.row.toRowW d [] (fun f vs=>PySem.call f vs) :=
 walk_of (K:=K) (CX:=fun _=>CX) (sp:=fun w=>sp (K w.params)) hn hn2 hdf hr hY F (fun w H a ns h1 h2 h3=>hsp (K w.params) H a ns h1 h2 h3) fun _ H s e s'=>hCX H s e s'
end L2
/- THE LAST THEOREM (shape; LID,My.* are yours):
   My.Adr: a structure of the addresses that your layer names (classes,functions); My.Txt K t: a structure (Prop) of the equations over K;
   My.txt_mk:{K} {implicit addresses ..} (e1:nsIn K mainGlobals "law"=some (some (.ref f))) (e2:K.lookup f=some ⟨oc,od,.func (fnOf "law" "law" params body scope dV kV doc pm an cdv ct),sl⟩) (e3:codeIn K cdv "law"=true) ..:∃ t,My.Txt K t
set_option maxRecDepth 100000 in
set_option maxHeartbeats 0 in
theorem PySem.Challenge.cw_LID_holds : PySem.Challenge.rw_LID.Holds := by
 w_on; o_law; k_head; (case hw=>w_witness2)
 k_fill
 refine L2.walk_of (l:=PySem.Challenge.rw_LID) (n:=63) (k:=40) (x:="script") (CX:=fun w=>..) (sp:=fun _=>My.sp_law) rfl (by decide) rfl ⟨rfl,by decide,by decide⟩ (fun w h Y=>W.kIn_of Y) ?F ?S ?C
 case F =>
  intro w mg fa h KX G hmg
  have T:∃ t,My.Txt (L2.KOf KX) t:=by
   dsimp only [L2.KOf]                          -- K must stand as «<heap const> w.params» for k_is;refine' My.txt_mk ?e1 ?e2 ?e3 ..
   (case e1=>W.k_is)                    -- in the order: a name -> its address -> its object -> its parts
   (case e2=>W.k_is)
   ..
  obtain ⟨t,T⟩:=T;have e0:=hmg.symm.trans (W.mg_of KX G T.law)
  cases e0                                       -- fa is the law's own address
  exact ⟨_,fun s u=>.of_eq rfl,fun base kb nb=>My.law_fn T kb nb⟩     -- if «.of_eq rfl» comes too early: refine' ⟨_,?b,fun base kb nb=>My.law_fn T kb nb⟩; exact fun s u=>.of_eq rfl
 case S=>exact fun w H a ns hl hO hS=>..
 case C=>exact ..
(the tactic k_is has no namespace: write k_is) -/
namespace L2
open PySem PySem.Spec PyProof.Rows
def bE (s:Stmt) (j:Nat):Stmt:=match s with
 | .ClassDef _ _ _ body _ _ _ _ _ _ _=>body.getD j (.Pass ⟨0,0,0,0⟩)
 | _=>.Pass ⟨0,0,0,0⟩
def eE (s:Stmt):Arguments:=match s with
 | .FunctionDef _ a _ _ _ _ _ _ _ _=>a
 | _=>{ posonlyargs:=[],args:=[],vararg:=none,kwonlyargs:=[],kw_defaults:=[],kwarg:=none,defaults:=[] }
def c7 (s:Stmt):List Stmt:=match s with
 | .FunctionDef _ _ b _ _ _ _ _ _ _=>b
 | _=>[]
def ao (s:Stmt):Scope:=match s with
 | .FunctionDef _ _ _ _ _ _ sc _ _ _=>sc
 | _=>{ kind:=.function,names:=[],isGenerator:=false,isCoroutine:=false }
abbrev CX0:CXT:=fun _ _ _ _ _ _=>False
abbrev E0:XK:=fun _ _ _=>False
theorem aS {X:Cx}:fL CX0 X E0:=fun _ _ _ _ _ _ _ h=>h.elim
structure Fun (K:W.Frag) (x qual:Str) (st:Stmt) (f:Addr) (fd:FuncData):Prop where
 ex:∃ (oc:Value) (od:Option Addr) (kV doc pm:Value) (an:Option Addr) (cdv ct:Value) (osl:Array (Option Value)),
  fd=W.fnOf x qual (eE st) (c7 st) (ao st) .none kV doc pm an cdv ct∧K.lookup f=some ⟨oc,od,.func fd,osl⟩∧W.codeIn K cdv qual=true
 kp:W.keepIn K (.ref f)=true
section
variable {P:Program} {w:World} {K:W.Frag} {mg:Str→Option Value} {base:Heap}
theorem Fun.ok {x qual:Str} {st:Stmt} {f:Addr} {fd:FuncData} {N ps:List Str} {k:Nat} {sp:Sp} (F:Fun K x qual st f fd) (S:aE N ps (ao st)) (len:∀ vs H Q E,sp vs H Q E→vs.length=ps.length)
  (hbody:∀ (cdv:Value) (A:Around) (outer:List Env) (s:Shared) (H:Hp) (vs:List V) (Q:VK) (E:XK),cS k (A.deeper (envOfC qual (ao st) s.heap.objs.size f cdv))→sp vs H Q E →
   ∃ t,PSs (eX CX0 P w K mg base N qual (ao st) f cdv A outer s H E).nox (c7 st) t∧t { nx:=fun _ H'=>Q .non H',rt:=Q } (gg N vs) H):aU P w K mg base CX0 (k+1) f fd ps sp:=by
 obtain ⟨oc,od,kV,doc,pm,an,cdv,ct,osl,rfl,lk,hcd⟩:=F.ex;refine Bl lk hcd S len fun A outer s H vs Q E hr hsp=>?_;obtain ⟨t,h,q⟩:=hbody cdv A outer s H vs Q E hr hsp;exact ⟨t,h.nox,q⟩
theorem Fun.binds {x qual:Str} {st:Stmt} {f:Addr} {fd:FuncData} {ps:List Str} (F:Fun K x qual st f fd)
  (h:∀ (kV doc pm:Value) (an:Option Addr) (cdv ct:Value) (us:List Value),us.length=ps.length→bindArgs (W.fnOf x qual (eE st) (c7 st) (ao st) .none kV doc pm an cdv ct) ⟨us,[]⟩=pure (ps.zip us)):aK K fd ps []:=by
 obtain ⟨oc,od,kV,doc,pm,an,cdv,ct,osl,rfl,lk,hcd⟩:=F.ex;exact .all (h kV doc pm an cdv ct)
theorem fun_mk {x qual:Str} {st:Stmt} {f:Addr} {oc:Value} {od an:Option Addr} {osl:Array (Option Value)} {kV doc pm cdv ct:Value} (l:K.lookup f=some ⟨oc,od,.func (W.fnOf x qual (eE st) (c7 st) (ao st) .none kV doc pm an cdv ct),osl⟩)
  (c:W.codeIn K cdv qual=true) (k:W.keepIn K (.ref f)=true):Fun K x qual st f (W.fnOf x qual (eE st) (c7 st) (ao st) .none kV doc pm an cdv ct):=⟨⟨oc,od,kV,doc,pm,an,cdv,ct,osl,rfl,l,c⟩,k⟩
end
theorem cP {A:Around} {k:Nat} (hr:cS k A):A.units+1<cLine:=Nat.lt_of_le_of_lt (Nat.add_le_add_left (by decide:1≤64) _) hr.units
theorem aP {n:Nat} (h:n≤1000):n<sizeLine:=Nat.lt_of_le_of_lt h (by decide)
section
variable {X:Cx}
theorem pv (i:Nat) {x:Str} {pos:Pos} (hN:X.N[i]?=some x:=by rfl) (hv:Vis X.env.scope x:=by first | exact Or.inl rfl | exact Or.inr (Or.inl rfl) | exact Or.inr (Or.inr rfl)) (hd:(x==("__debug__":Str))=false:=by decide)
  (hcd:(x==("__classdict__":Str))=false:=by decide):PE X (.Name x pos) (Df i):=Cs hN hv hd hcd
end
theorem Ek {A B:Prop} (h:B):if false=true then A else B:=by
 rw [if_neg Bool.false_ne_true];exact h
theorem pR {A B:Prop} (h:A):if true=true then A else B:=by
 rw [if_pos rfl];exact h
theorem eY {c A B:Prop} [Decidable c] (h1:c→A) (h2:¬ c→B):if c then A else B:=by
 by_cases h:c
 ·rw [if_pos h];exact h1 h
 ·rw [if_neg h];exact h2 h
def ai (H H':Hp):Prop:=∀ b o,H b=some o→H' b=some o
theorem ai.refl (H:Hp):ai H H:=fun _ _ h=>h
theorem ai.trans {H H1 H2:Hp} (a:ai H H1) (b:ai H1 H2):ai H H2:=fun c o h=>b c o (a c o h)
theorem ai.free {H H':Hp} (e:ai H H') {l:Addr} (h:H' l=Option.none):H l=Option.none:=by
 cases q:H l with
 | none=>rfl
 | some o =>
  rw [e l o q] at h
  cases h
theorem ai.seq {K:W.Frag} {H H':Hp} {a:Addr} {xs:List V} (e:ai H H') (h:SqL K H a xs):SqL K H' a xs:=by
 rcases h with (h | ⟨o,h⟩) | h
 ·exact .inl (.inl (e _ _ h))
 ·exact .inl (.inr ⟨o,e _ _ h⟩)
 ·exact .inr h
def cW (cells:List (Str×Addr)):List (Str×NameKind)→List (Str×Addr)→List (Str×Addr)
 | [],acc=>acc
 | (n,k)::r,acc=>cW cells r (if k==.free then (n,(cells.lookup n).getD 0)::acc else acc)
theorem i7 {scope:Scope} {env:Env} (h:∀ x∈scope.names,x.2=.free→∃ c,env.cells.lookup x.1=some c):closureFor scope env=pure (cW env.cells scope.names []):=by
 unfold closureFor;generalize hn:scope.names=names at h ⊢;clear hn;generalize ([]:List (Str×Addr))=acc
 induction names generalizing acc with
 | nil=>simp [cW]
 | cons x r ih =>
  obtain ⟨n,k⟩:=x;have ih':=fun a=>ih (fun x hx=>h x (List.mem_cons_of_mem _ hx)) a;simp only [List.forIn_cons,bind_pure] at ih' ⊢;by_cases hk:k=.free
  ·obtain ⟨c,hc⟩:=h (n,k) List.mem_cons_self hk;subst hk;have hcl:cellOf env n=pure c:=by simp only [cellOf,hc]
   simp only [beq_self_eq_true,if_true,hcl,hc,pure_bind,cW,Option.getD_some]
   simpa using ih' _
  ·have hb:(k==NameKind.free)=false:=by simpa using hk
   simp only [hb,Bool.false_eq_true,if_false,pure_bind,cW]
   simpa using ih' _
theorem fA {cells:List (Str×Addr)} {y:Str} {c:Addr}:∀ {names:List (Str×NameKind)} {acc:List (Str×Addr)},(∀ x∈names,x.2=.free→∃ c,cells.lookup x.1=some c)→(acc.lookup y=some c→cells.lookup y=some c) →
  (cW cells names acc).lookup y=some c→cells.lookup y=some c
 | [],_,_,ha,e=>ha e
 | (n,k)::r,acc,h,ha,e=>by
  unfold cW at e;refine fA (names:=r) (fun x hx=>h x (List.mem_cons_of_mem _ hx)) (fun e'=>?_) e;by_cases hk:k=.free
  ·obtain ⟨d,hd⟩:=h (n,k) List.mem_cons_self hk;subst hk;simp only [beq_self_eq_true,if_true,hd,Option.getD_some,List.lookup_cons] at e'
   cases q:y==n with
   | true =>
    rw [q] at e';have:y=n:=by simpa using q
    subst this;exact hd.trans e'
   | false=>rw [q] at e'; exact ha e'
  ·have hb:(k==NameKind.free)=false:=by simpa using hk
   simp only [hb,Bool.false_eq_true,if_false] at e';exact ha e'
theorem jf {cells:List (Str×Addr)} {y:Str}:∀ {names:List (Str×NameKind)} {acc:List (Str×Addr)},((y,NameKind.free)∈names∨∃ c,acc.lookup y=some c)→∃ c,(cW cells names acc).lookup y=some c
 | [],_,h=>by simpa [cW] using h
 | (n,k)::r,acc,h=>by
  unfold cW;refine jf (names:=r) ?_;rcases h with h | ⟨c,h⟩
  ·rcases List.mem_cons.mp h with e | e
   ·cases e;right
    simp
   ·exact .inl e
  ·right
   by_cases hk:(k==NameKind.free)=true
   ·rw [if_pos hk,List.lookup_cons]
    cases y==n
    ·exact ⟨c,h⟩
    ·exact ⟨_,rfl⟩
   ·rw [if_neg hk];exact ⟨c,h⟩
def PTs (X:Cx) (ifs:List Expr) (t:TT):Prop :=
 ∀ (pins:List (Addr×Obj)) (s:Shared) (σ:St) (H:Hp) (Q:Bool→Hp→Prop),Inv X pins σ H s→t σ H Q →
  wpAny (model X.prog X.w) X.A (forIn ifs true fun c r=>if r=true then do let ok ← isTrue c X.env (eval c X.env); pure (ForInStep.yield ok) else pure (ForInStep.yield r)) (TP X pins σ Q) X.xe s
def j0:TT:=fun _ H Q=>Q true H
theorem dQ {X:Cx}:PTs X [] j0:=fun _ _ _ H _ I h=>wpAny_tests_nil ⟨H,I,h⟩
theorem Az {X:Cx} {c:Expr} {t:TT} (h:PT X c t):PTs X [c] t:=fun pins s σ H Q I hw=>wpAny_tests_one (h pins s σ H Q I hw)
def Cx.block (X:Cx) (scope:Scope) (N:List Str) (s:Shared) (H:Hp) (fp:List Addr):Cx where
 prog:=X.prog
 w:=X.w
 K:=X.K
 mg:=X.mg
 base:=X.base
 A:=X.A
 N:=N
 s₀:=s
 H₀:=H
 env:=compEnvC scope (cW X.env.cells scope.names []) s.heap.objs.size X.env
 outer:=X.stack
 stack:=X.stack
 ex:=fp
 fn:=fun _=>false
 calm:=X.calm
 pn:=[]
 xe:=fun _ _=>False
def xS:Option NameKind→Bool
 | some .cell=>true
 | some .free=>true
 | _=>false
theorem l0 {k:Option NameKind} (h:xS k=true):k=some .cell∨k=some .free:=by
 unfold xS at h
 split at h
 ·exact .inl rfl
 ·exact .inr rfl
 ·cases h
structure fh (X:Cx) (scope:Scope) (N:List Str) (cap:List (Option Nat)):Prop where
 kind:scope.kind=.function
 nocell:(scope.names.all fun y=>!(y.2==.cell))=true
 loc:(scope.names.all fun y=>!(y.2==.local)||(scope.names.lookup y.1==some .local))=true
 fre:(scope.names.all fun y=>!(y.2==.free)||xS (X.env.kindOf y.1))=true
 len:cap.length=N.length
 cap:((cap.zip N).all fun p=>match p.1 with | none=>true | some j=>(X.N[j]?==some p.2)&&xS (X.env.kindOf p.2)&&xS ((relabel scope X.env).names.lookup p.2))=true
def gm (cap:List (Option Nat)) (σ:St):St:=cap.map fun o=>match o with | none=>none | some j=>(σ[j]?).join
section
variable {X:Cx} {pins:List (Addr×Obj)} {σ:St} {H:Hp} {s:Shared} {fp:List Addr} {scope:Scope} {N:List Str} {cap:List (Option Nat)}
theorem fh.freeH (c:fh X scope N cap) (ok:X.Ok):∀ x∈scope.names,x.2=.free→∃ a,X.env.cells.lookup x.1=some a:=fun x hx hf=>by
 have:=List.all_eq_true.mp c.fre x hx
 rw [hf] at this;simp only [beq_self_eq_true,Bool.not_true,Bool.false_or] at this;exact ok.has x.1 (l0 this)
theorem jP {scope:Scope} {env:Env} {y:Str} (h:(relabel scope env).names.lookup y=some .cell∨(relabel scope env).names.lookup y=some .free) (nc:∀ z∈scope.names,z.2≠.cell):(y,NameKind.free)∈scope.names:=by
 unfold relabel at h;dsimp only at h;generalize scope.names=names at h nc
 induction names with
 | nil=>simp at h
 | cons z r ih =>
  obtain ⟨n,k⟩:=z;have nc':∀ z∈r,z.2≠.cell:=fun z hz=>nc z (List.mem_cons_of_mem _ hz);rw [List.map_cons,List.lookup_cons] at h;have nck:=nc (n,k) List.mem_cons_self;dsimp only at h nck;by_cases hc:(k==NameKind.free&&env.scope.kind==.function&&env.kindOf n==some .cell)=true
  ·rw [if_pos hc] at h;dsimp only at h
   have hk:k=.free:=by
    simp only [Bool.and_eq_true,beq_iff_eq] at hc;exact hc.1.1
   cases q:y==n with
   | true=>rw [show y=n from by simpa using q,hk]; exact List.mem_cons_self
   | false=>rw [q] at h; exact List.mem_cons_of_mem _ (ih h nc')
  ·rw [if_neg hc] at h;dsimp only at h
   cases q:y==n with
   | true =>
    rw [q] at h;rcases h with h | h
    ·cases h; exact absurd rfl nck
    ·cases h; rw [show y=n from by simpa using q]; exact List.mem_cons_self
   | false=>rw [q] at h; exact List.mem_cons_of_mem _ (ih h nc')
theorem fh.nc (c:fh X scope N cap):∀ z∈scope.names,z.2≠.cell:=fun z hz e=>by
 have:=List.all_eq_true.mp c.nocell z hz
 rw [e] at this;exact absurd this (by decide)
theorem fh.lc (c:fh X scope N cap):∀ x∈scope.names,x.2=.local→scope.names.lookup x.1=some .local:=fun x hx e=>by
 have:=List.all_eq_true.mp c.loc x hx
 rw [e] at this
 simpa using this
theorem xq (c:fh X scope N cap) (I:Inv X pins σ H s) (hf:∀ b∈fp,iX X pins H b) (hlt:∀ b∈fp,b<s.heap.objs.size):(X.block scope N s H fp).Ok:=by
 have lk:∀ {y:Str} {a:Addr},(cW X.env.cells scope.names []).lookup y=some a→X.env.cells.lookup y=some a:=fun e=>fA (c.freeH I.ok) (fun z=>by simp at z) e;refine ⟨I.ok.mod,c.kind,I.ok.glob,I.ok.blt,Nat.le_refl _,fun x y a h1 h2=>I.ok.inj x y a (lk h1) (lk h2),fun x hx=>jf (.inl (jP hx c.nc)),fun x a h=>absurd h (by simp [Cx.block]),I.ok.hd,I.ok.frames,.inl rfl,fun b hb=>⟨?_,fun x a h=>(hf b hb).2.2.2.2.1 x a (lk h)⟩,I.bs,Nat.le_trans I.ok.bsz I.sz,fun b o e hb=>?_,fun b hb z=>?_,I.stack,I.stkFree⟩
 ·exact Nat.ne_of_lt (hlt b hb)
 ·rcases (hf b hb).2.2.2.1 with z | z
  ·exact I.ok.noex b o e z
  ·exact absurd (Nat.lt_of_lt_of_le (Heap.lt_size (I.ok.bs b o e).1) z) (Nat.lt_irrefl _)
 ·rcases List.mem_cons.mp (I.stkSub b z) with e | e
  ·exact (hf b hb).2.1 e
  ·exact (hf b hb).2.2.1 e
theorem xw {i:Nat} {v:V} (h:(gm cap σ)[i]?=some (some v)):∃ j,cap[i]?=some (some j)∧σ[j]?=some (some v):=by
 unfold gm at h;rw [List.getElem?_map] at h
 cases q:cap[i]? with
 | none=>rw [q] at h; cases h
 | some o =>
  rw [q] at h
  cases o with
  | none => cases h
  | some j =>
   refine ⟨j,rfl,?_⟩;have h':(σ[j]?).join=some v:=Option.some.inj h
   cases q2:σ[j]? with
   | none=>rw [q2] at h'; cases h'
   | some o =>
    rw [q2] at h';have:o=some v:=h'
    rw [this]
theorem vF (c:fh X scope N cap) (I:Inv X pins σ H s) (hf:∀ b∈fp,iX X pins H b) (hlt:∀ b∈fp,b<s.heap.objs.size) {h1:Heap} {t1:Nat} (hns:h1.Ns s.heap.objs.size (fun x=>([]:List (Str×Value)).reverse.lookup x))
  (hsb:Heap.SameBut s.heap.objs.size (s.heap.push { cls:=.type (if (some X.env:Option Env).isSome then "dict" else "frame"),data:=.dict #[] }) h1):Inv (X.block scope N s H fp) [] (gm cap σ) H { s with heap:=h1,toks:=t1 }:=by
 have lk:∀ {y:Str} {a:Addr},(cW X.env.cells scope.names []).lookup y=some a→X.env.cells.lookup y=some a:=fun e=>fA (c.freeH I.ok) (fun z=>by simp at z) e;have keep:∀ b o,s.heap.get? b=some o→h1.get? b=some o:=fun b o e=>(hsb.2 b (Nat.ne_of_lt (Heap.lt_size e))).trans (Heap.get?_push_of_some _ e);have cellK:∀ {a:Addr} {v:Option Value},s.heap.IsCell a v→h1.IsCell a v:=fun ⟨o,e,d⟩=>⟨o,keep _ _ e,d⟩
 refine ⟨xq c I hf hlt,rfl,I.bare,Un.kept keep,⟨_,hns,fun i x v h1 h2 h3=>?_⟩,fun x a e=>?_,I.hok.fresh (Nat.le_refl _),fun x a e=>I.freeC x a (lk e),fun p hp=>absurd (show p∈([]:List (Addr×Obj)) from hp) (by simp),I.hok.kept keep,?_⟩
 ·obtain ⟨j,hc,hs⟩:=xw h2;have hN:N[i]?=some x:=h1;have hz:(cap.zip N)[i]?=some (some j,x):=by rw [List.getElem?_zip_eq_some]; exact ⟨hc,hN⟩
  have:=List.all_eq_true.mp c.cap _ (List.mem_of_getElem? hz)
  simp only [Bool.and_eq_true,beq_iff_eq] at this;obtain ⟨⟨e1,e2⟩,e3⟩:=this;obtain ⟨m,hn,hl⟩:=I.loc;have hk:=l0 e2;obtain ⟨u,r,l⟩:=hl j x v e1 hs (by rcases hk with z | z; exact .inr (.inl z); exact .inr (.inr z));refine ⟨u,r,?_⟩;rcases l with ⟨l,_⟩ | ⟨_,a,ea,ca⟩
  ·rw [l] at hk; rcases hk with z | z<;>cases z
  ·have hk':=l0 e3;obtain ⟨a',ha'⟩:=jf (cells:=X.env.cells) (acc:=[]) (.inl (jP hk' c.nc));have:a'=a:=Option.some.inj ((lk ha').symm.trans ea)
   subst this;exact .inr ⟨hk',a',ha',cellK ca⟩
 ·obtain ⟨v,hv⟩:=I.cell x a (lk e);exact ⟨v,cellK hv⟩
 ·unfold gm;rw [List.length_map];exact c.len
end
theorem rP {prog:Program} {w:World} {A:Around} {R:Result→Shared→Prop} {s:Shared} {elt target iter:Expr} {ifs:List Expr} {scope:Scope} {pos:Pos} {it acc:Value} {env:Env} (J:Nat→Shared→Prop)
    (turn:∀ n s,J n s→wpAny (model prog w) A (pyNext it) (fun r s₁=>match r with
      | none=>R (.ok .next) s₁
      | some v=>wpAny (model prog w) A (letOwnedTupleGo target it v) (fun _ s₀=>wpAny (model prog w) A (assign target env v) (fun _ s₂ =>
          wpAny (model prog w) A (forIn ifs true fun c r=>if r=true then do let ok ← isTrue c env (eval c env); pure (ForInStep.yield ok) else pure (ForInStep.yield r)) (fun ok s₃ =>
            if ok=true then wpAny (model prog w) A (eval elt env) (fun x s₄ =>
              wpAny (model prog w) A (call (.builtin "list.append") [acc,x]) (fun _ s₅=>∃ m,m<n∧J m s₅) (fun _ _=>False) s₄) (fun _ _=>False) s₃
            else ∃ m,m<n∧J m s₃) (fun _ _=>False) s₂) (fun _ _=>False) s₀) (fun _ _=>False) s₁) (fun _ _=>False) s)
    (n:Nat) (h:J n s) :
    codeAny (model prog w) A (.compLoop (.ListComp elt [⟨target,iter,ifs,0⟩] scope pos) 0 it acc env) R s:=by
  refine codeAny_loop rfl J (fun n s hI=>?_) n h
  show wpAny _ A ((compTurn (.ListComp elt [⟨target,iter,ifs,0⟩] scope pos) 0 it acc env).onRaise (fun x=>do noteFrame x env; theTreesLotGoes x)) _ _ s
  refine wpAny_noted ?_;rw [compTurn_list];refine wpAny_bind (wpAny_standAt (wpAny_bind (wpAny_mono (turn n s hI) (fun r s₁ h₁=>?_) fun _ _ h'=>h'.elim)))
  cases r with
  | none => exact wpAny_pure h₁
  | some v =>
    refine wpAny_bind (wpAny_mono h₁ (fun _ s₀ h₀=>?_) fun _ _ h'=>h'.elim);refine wpAny_bind (wpAny_mono h₀ (fun _ s₂ h₂=>wpAny_bind (wpAny_mono h₂ (fun ok s₃ h₃=>?_) fun _ _ h'=>h'.elim)) fun _ _ h'=>h'.elim)
    cases ok with
    | false=>exact wpAny_pure ⟨rfl,h₃⟩
    | true =>
      exact wpAny_bind (wpAny_bind (wpAny_mono h₃ (fun x s₄ h₄=>wpAny_bind (wpAny_mono h₄ (fun _ s₅ h₅=>wpAny_pure (wpAny_pure ⟨rfl,h₅⟩)) fun _ _ h'=>h'.elim)) fun _ _ h'=>h'.elim))
def vp (wi:TI) (g:TG) (tt:TT) (te:TE) (cap:List (Option Nat)):TE:=fun σ H Q=>wi σ H fun J H1=>∀ l,H1 l=none →
 ∃ (n:Nat) (Pv:Nat→List V→St→Hp→Prop),Pv 0 [] (gm cap σ) (upd H1 l (.lst [])) ∧
  (∀ i ys σ' H',i<n→Pv i ys σ' H'→J.go i H'∧∀ x H2,J.yld i H' x H2→g x σ' H2 fun σ3 H3=>tt σ3 H3 fun b H4 =>
   if b=true then te σ3 H4 fun y H5=>H5 l=some (.lst ys)∧ys.length<sizeLine∧Pv (i+1) (ys++[y]) σ3 (upd H5 l (.lst (ys++[y]))) else Pv (i+1) ys σ3 H4) ∧
  ∀ ys σ' H',Pv n ys σ' H'→J.stop n H'∧Q (.ref l) H'
section
variable {X:Cx} {elt tg iter:Expr} {ifs:List Expr} {scope:Scope} {pos:Pos} {N:List Str} {cap:List (Option Nat)} {wi:TI} {g:TG} {tt:TT} {te:TE}
theorem rR {U:Value→Addr→Shared→Prop} (hc:X.calm=true) (c:fh X scope N cap) (hi:PI X tg iter wi) (hg:∀ s H fp,PG (X.block scope N s H fp) tg g) (ht:∀ s H fp,PTs (X.block scope N s H fp) ifs tt)
    (he:∀ s H fp,PE (X.block scope N s H fp) elt te)
    {pins:List (Addr×Obj)} {s:Shared} {σ:St} {H:Hp} {Q:VK} (I:Inv X pins σ H s) (h:vp wi g tt te cap σ H Q)
    (hU:∀ (l C:Addr) (H':Hp) (s':Shared),Inv X pins σ H' s'→(∃ m,s'.heap.Ns C m)→iX X pins H' C→Q (.ref l) H'→U (.ref l) C s')
    {RR:Value→Addr→Result→Shared→Prop} (hRR:∀ a C s',U a C s'→RR a C (.ok .next) s') :
    wpAny (model X.prog X.w) X.A (eval iter X.env) (fun x s₁=>wpAny (model X.prog X.w) X.A (pyIter x) (fun it s₂=>wpAny (model X.prog X.w) X.A (newList []) (fun acc s₃ =>
      wpAny (model X.prog X.w) X.A (newFunctionEnv scope X.env.globals (cW X.env.cells scope.names []) [] X.env.qual none .none (some X.env)) (fun cenv s₄ =>
        codeAny (model X.prog X.w) X.A (.compStart (.ListComp elt [⟨tg,iter,ifs,0⟩] scope pos) 0 it acc { cenv with scope:=relabel scope X.env }) (RR acc cenv.locals) s₄) X.xe s₃) X.xe s₂) X.xe s₁) X.xe s:=by
  refine thn (hi pins s σ H _ I h) fun v s1 h1=>thn h1 fun itv s2 h2=>?_;obtain ⟨it,fp,tn,J,H2,e,I2,T,st2,f2,hq⟩:=h2;subst e;have hl:H2 s2.heap.objs.size=none:=I2.hok.fresh (Nat.le_refl _);obtain ⟨n,Pv,p0,step,fin⟩:=hq _ hl;refine wpAny_newObj_type ?_ (by show 0≤sizeLine; exact Nat.zero_le _)
  have I3:Inv X pins σ (upd H2 s2.heap.objs.size (.lst [])) { s2 with heap:=s2.heap.push { cls:=.type "list",data:=.seq ([]:List Value).toArray } } :=
    I2.laid (t':=s2.toks) (fun b u e=>Heap.get?_push_of_some _ e) (Nat.le_refl _) ⟨Nat.zero_le _,[],_,.nil,Heap.get?_push_size _ rfl⟩
  generalize hs3:({ s2 with heap:=s2.heap.push { cls:=.type "list",data:=.seq ([]:List Value).toArray } }:Shared)=s3 at I3 ⊢;have k23:∀ b o,s2.heap.get? b=some o→s3.heap.get? b=some o:=fun b o e=>by rw [← hs3]; exact Heap.get?_push_of_some _ e
  have fplt2:∀ b∈fp,b<s2.heap.objs.size:=fun b hb=>let ⟨o,e,_⟩:=T.obj _ _ st2 b hb; Heap.lt_size e;have sz23:s2.heap.objs.size≤s3.heap.objs.size:=by rw [← hs3]; show _≤(s2.heap.push _).objs.size; rw [Heap.size_push]; exact Nat.le_succ _
  have fplt:∀ b∈fp,b<s3.heap.objs.size:=fun b hb=>Nat.lt_of_lt_of_le (fplt2 b hb) sz23;have f3:∀ b∈fp,iX X pins (upd H2 s2.heap.objs.size (.lst [])) b:=fun b hb=>⟨by rw [au (Nat.ne_of_lt (fplt2 b hb))]; exact (f2 b hb).1,(f2 b hb).2⟩
  have st3:tn 0 s3.heap:=T.keep _ _ _ st2 fun b hb o e=>k23 b o e;refine wpAny_newFunctionEnv c.nc (by intro y hy; simp at hy) (fun h4 hns hsb=>?_) c.kind;have I4:=vF (t1:=s3.toks+([]:List (Str×Value)).length) c I3 f3 fplt hns hsb;have st4:tn 0 h4:=T.keep _ _ _ st3 fun b hb o e=>(hsb.2 b (Nat.ne_of_lt (fplt b hb))).trans (Heap.get?_push_of_some _ e);generalize hY:X.block scope N s3 (upd H2 s2.heap.objs.size (.lst [])) fp=Y at I4;have yP:Y.prog=X.prog:=by rw [← hY]; rfl
  have yw:Y.w=X.w:=by rw [← hY]; rfl
  have yK:Y.K=X.K:=by rw [← hY]; rfl
  have yA:Y.A=X.A:=by rw [← hY]; rfl
  have yx:Y.xe=fun _ _=>False:=by rw [← hY]; rfl
  have yc:Y.calm=true:=by rw [← hY]; exact hc
  have yex:Y.ex=fp:=by rw [← hY]; rfl
  have yfs:Y.fs=frs X.stack:=by rw [← hY]; rfl
  have yH:Y.H₀=upd H2 s2.heap.objs.size (.lst []):=by rw [← hY]; rfl
  have ys:Y.s₀=s3:=by rw [← hY]; rfl
  have yC:Y.env.locals=s3.heap.objs.size:=by rw [← hY]; rfl
  have yenv:compEnvC scope (cW X.env.cells scope.names []) s3.heap.objs.size X.env=Y.env:=by rw [← hY]; rfl
  have yg:=hg s3 (upd H2 s2.heap.objs.size (.lst [])) fp;have yt:=ht s3 (upd H2 s2.heap.objs.size (.lst [])) fp;have ye:=he s3 (upd H2 s2.heap.objs.size (.lst [])) fp;have ypn:Y.pn=[]:=by rw [← hY]; rfl
  have ycl:Y.env.cells=cW X.env.cells scope.names []:=by rw [← hY]; rfl
  rw [hY] at yg yt ye;have lk:∀ {y:Str} {a:Addr},Y.env.cells.lookup y=some a→X.env.cells.lookup y=some a:=fun e=>by rw [ycl] at e; exact fA (c.freeH I.ok) (fun z=>by simp at z) e
  have stat:∀ {H':Hp},(∀ b∈fp,H' b=none)→∀ b∈fp,iX Y [] H' b:=fun hn b hb=>by
    refine ⟨hn b hb,by rw [yC]; exact Nat.ne_of_lt (fplt b hb),?_,.inl (by rw [yex]; exact hb),fun x a e=>(f2 b hb).2.2.2.2.1 x a (lk e),fun p hp=>?_⟩
    · rw [yfs]
      intro z;rcases List.mem_cons.mp (I2.stkSub b z) with e | e
      · exact (f2 b hb).2.1 e
      · exact (f2 b hb).2.2.1 e
    · rw [ypn] at hp
      exact absurd hp (by simp)
  -- the end
  have done:∀ {σ':St} {H':Hp} {s':Shared},Inv Y [] σ' H' s'→Q (.ref s2.heap.objs.size) H'→U (.ref s2.heap.objs.size) s3.heap.objs.size s':=fun {σ' H' s'} J' q=>by
    have un:=J'.base;rw [yfs,yex,yH,ys] at un;have J3:=I3.call' (s':=s') (ch:=fp) (by rw [J'.os,ys]) un (by have:=J'.hok; rw [yP,yw] at this; exact this) J'.bare fun b hb=>⟨(f3 b hb).2.2.2.1,(f3 b hb).2.1,(f3 b hb).2.2.2.2.1,(f3 b hb).2.2.2.2.2⟩
    have hCn:H' s3.heap.objs.size=none:=by have:=J'.free; rw [yC] at this; exact this
    have hne:s3.heap.objs.size≠X.env.locals:=Nat.ne_of_gt I3.lt;have hcl:∀ x a,X.env.cells.lookup x=some a→a≠s3.heap.objs.size:=fun x a e=>let ⟨_,o,ho,_⟩:=I3.cell x a e; Nat.ne_of_lt (Heap.lt_size ho);have hpn:∀ p∈X.pn++pins,p.1≠s3.heap.objs.size:=fun p hp=>Nat.ne_of_lt (Heap.lt_size (I3.pin p hp).1);obtain ⟨m,hn,_⟩:=J'.loc;rw [yC] at hn;exact hU _ _ H' s' J3 ⟨m,hn⟩ ⟨hCn,hne,I3.nofs (Nat.le_refl _),.inr I3.sz,hcl,hpn⟩ q
  have loop:∀ s5:Shared,s5={ s3 with heap:=h4,toks:=s3.toks+([]:List (Str×Value)).length } →
      codeAny (model X.prog X.w) X.A (.compLoop (.ListComp elt [⟨tg,iter,ifs,0⟩] scope pos) 0 (.ref it) (.ref s2.heap.objs.size) Y.env) (RR (.ref s2.heap.objs.size) s3.heap.objs.size) s5:=by
    rintro s5 rfl;refine rP (fun k s'=>∃ i ys σ' H',Inv Y [] σ' H' s'∧tn i s'.heap∧(∀ b∈fp,H' b=none)∧i≤n∧k=n - i∧Pv i ys σ' H') ?_ n ⟨0,[],_,_,I4,st4,fun b hb=>(f3 b hb).1,Nat.zero_le _,rfl,p0⟩;rintro k s6 ⟨i,zs,σ6,H6,I6,st6,fr6,hin,rfl,pv6⟩;by_cases hlt:i<n
    · obtain ⟨go,stp⟩:=step i zs σ6 H6 hlt pv6
      have q:=T.item Y yP yw yK yc i [] s6 σ6 H6 (fun _ _=>False) I6 (stat fr6) st6 go;rw [yA] at q;refine thn q fun r s7 ⟨u,hr,h7⟩=>?_;subst hr;refine thn h7 fun _ s8 ⟨x,H8,I8,r8,y8,st8,fr8⟩=>?_;have I8':=I8.pinned (stat fr8) (T.obj _ _ st8);have q:=yg _ s8 σ6 H8 x u _ I8' r8 (stp x H8 y8);rw [yP,yw,yA,yx] at q;refine thn q fun _ s9 ⟨σ9,H9,I9,q9⟩=>?_;have q:=yt _ s9 σ9 H9 _ I9 q9;rw [yP,yw,yA,yx] at q;refine thn q fun b s10 ⟨H10,I10,q10⟩=>?_;have again:∀ {ws:List V} {σ':St} {H':Hp} {s':Shared},Inv Y ([]++mJ fp s8.heap) σ' H' s'→Pv (i+1) ws σ' H'→∃ m,m<n - i∧∃ i ys σ' H',Inv Y [] σ' H' s'∧tn i s'.heap∧(∀ b∈fp,H' b=none)∧i≤n∧m=n - i∧Pv i ys σ' H':=fun {ws σ' H' s'} J' p'=>by
        refine ⟨n - (i+1),by omega,i+1,ws,σ',H',J'.unpinned,T.keep _ _ _ st8 fun b hb o e=>(J'.pin (b,o) (List.mem_append_right _ (List.mem_append_right _ (gz hb e)))).1,fun b hb=>?_,hlt,rfl,p'⟩;obtain ⟨o,e,d⟩:=T.obj _ _ st8 b hb;exact (J'.pin (b,o) (List.mem_append_right _ (List.mem_append_right _ (gz hb e)))).2.1
      cases b with
      | false=>exact again I10 q10
      | true =>
        have q10:=(if_pos (α:=Prop) rfl).mp q10;have q:=ye _ s10 σ9 H10 _ I10 q10;rw [yP,yw,yA,yx] at q;refine pR ?_;refine thn q fun xv s11 ⟨y,H11,I11,r11,hl11,hz,p11⟩=>?_;have q:=bT (X:=Y) _ s11 σ9 H11 (.ref s2.heap.objs.size) [y] _ [xv] (fun _ H'=>Pv (i+1) (zs++[y]) σ9 H') I11 rfl (.cons r11 .nil) ⟨_,_,_,rfl,rfl,hl11,hz,p11⟩;rw [yP,yw,yA,yx] at q;exact thn q fun _ s12 ⟨_,H12,I12,_,p12⟩=>again I12 p12
    · have e:i=n:=by omega
      subst e;obtain ⟨stop,q⟩:=fin zs σ6 H6 pv6;have qd:=T.done Y yP yw yK yc i [] s6 σ6 H6 (fun _ _=>False) I6 (stat fr6) st6 stop;rw [yA] at qd;refine thn qd fun r s7 ⟨hr,I7⟩=>?_;subst hr;exact hRR _ _ _ (done I7 q)
  show codeAny _ _ (.compStart _ 0 (.ref it) _ (compEnvC scope (cW X.env.cells scope.names []) s3.heap.objs.size X.env)) (RR (.ref s2.heap.objs.size) s3.heap.objs.size) _
  rw [yenv];exact codeAny_compStart_list (loop _ rfl) (T.self X.A 0 _ _ _ st4 (loop _ rfl))
theorem iX.turned {pins:List (Addr×Obj)} {σ:St} {H:Hp} {s:Shared} {C:Addr} {h':Heap} (f:iX X pins H C) (I:Inv X pins σ H s) (sb:Heap.SameBut C s.heap h'):Inv X pins σ H { s with heap:=h' } :=
 I.turned (t':=s.toks) (fun b o hb e=>(sb.2 b hb).trans e) f.1 f.2.1 f.2.2.2.1 f.2.2.2.2.1 f.2.2.2.2.2
theorem fE (hc:X.calm=true) (c:fh X scope N cap) (hi:PI X tg iter wi) (hg:∀ s H fp,PG (X.block scope N s H fp) tg g) (ht:∀ s H fp,PTs (X.block scope N s H fp) ifs tt)
  (he:∀ s H fp,PE (X.block scope N s H fp) elt te) (hs:∀ x,foldedSetIterable iter X.env x=pure x:=by intro _; rfl):PE X (.ListComp elt [⟨tg,iter,ifs,0⟩] scope pos) (vp wi g tt te cap):=by
 intro pins s σ H Q I h;rw [eval_ListComp];refine wpAny_comprehension_free rfl hs (i7 (c.freeH I.ok)) c.kind c.lc ?_;exact rR (U:=fun a C s'=>∃ m,s'.heap.Ns C m∧∀ h',Heap.SameBut C s'.heap h'→EP X pins σ Q a { s' with heap:=h' }) hc c hi hg ht he I h
  (fun l C H' s' I' ⟨m,hn⟩ f q=>⟨m,hn,fun h' sb=>⟨.ref l,H',f.turned I' sb,rfl,q⟩⟩) fun a C s' u=>u
theorem lH {i:Nat} {x:Str} {pos' pos2:Pos} (hN:X.N.Nodup) (hi':X.N[i]?=some x) (hx:Loc X.env.scope x) (hc:X.calm=true) (c:fh X scope N cap) (hi:PI X tg iter wi) (hg:∀ s H fp,PG (X.block scope N s H fp) tg g) (ht:∀ s H fp,PTs (X.block scope N s H fp) ifs tt)
  (he:∀ s H fp,PE (X.block scope N s H fp) elt te) (hsw:swapsWith (.ListComp elt [⟨tg,iter,ifs,0⟩] scope pos) (some (.Name x pos')) pos2.line X.env=pure true) (hs:∀ x,foldedSetIterable iter X.env x=pure x:=by intro _; rfl)
  (hf:X.fn x=true∨X.env.scope.names.lookup x=some .local:=by first | exact .inl rfl | exact .inr rfl | assumption):PS X (.Assign [.Name x pos'] (.ListComp elt [⟨tg,iter,ifs,0⟩] scope pos) pos2) (wU (vp wi g tt te cap) (eW i)):=by
 intro pins s σ H D I h;rw [exec_Assign_Name_used _ _ _ _ hsw];refine wpAny_bind (wpAny_standAt (wpAny_bind ?_))
 show wpAny _ X.A (do let _ ← comprehension (.ListComp elt [⟨tg,iter,ifs,0⟩] scope pos) scope X.env _ (newList []) false (eval iter X.env) (some (assign (.Name x pos') X.env))) _ _ s
 refine wpAny_bind (wpAny_mono (wpAny_comprehension_free (Q:=fun _ s'=>SP X pins D .next s') rfl hs (i7 (c.freeH I.ok)) c.kind c.lc ?_) (fun _ s' hq=>wpAny_pure (wpAny_pure hq)) fun _ _ e=>e);refine rR (U:=fun a C s'=>wpAny (model X.prog X.w) X.A (assign (.Name x pos') X.env a) (fun _ s''=>∃ m,s''.heap.Ns C m∧∀ h',Heap.SameBut C s''.heap h'→SP X pins D .next { s'' with heap:=h' }) X.xe s') hc c hi hg ht he I h ?_ fun a C s' u=>u;intro l C H' s' I' hn f q;obtain ⟨m,o,es,ep,ho,hd,r⟩:=hn;have I2:Inv X (pins++[(C,o)]) σ H' s':=I'.pins_of fun p hp=>by
  rcases List.mem_append.mp hp with z | z
  ·exact I'.pin p (List.mem_append_right _ z)
  ·have e:p=(C,o):=by simpa using z
   subst e;exact ⟨ho,f.1,f.2.1,f.2.2.1,fun v z=>by rw [hd] at z; cases z⟩
 refine wpAny_assign_Name (gh I2 hN hi' hx (v:=.ref l) rfl (fun s2 I3=>?_) hf);have pc:=(I3.pin (C,o) (List.mem_append_right _ (List.mem_append_right _ List.mem_cons_self))).1;exact ⟨m,⟨o,es,ep,pc,hd,r⟩,fun h' sb=>⟨_,H',f.turned I3.unpinned sb,q⟩⟩
end
section
variable {X:Cx}
theorem rM:cn X (.builtin "isinstance") (fun xs H Q=>∃ x n t b,xs=[x,.ty n]∧i0 X.K H x t∧W.kitOne X.K t (.type n)=some b∧Q (.bl b) H):=by
 intro pins s σ H xs us Q I r h;obtain ⟨x,n,t,b,rfl,ty,e,q⟩:=h;obtain ⟨u,v,rfl,ru,rv⟩:=r.two
 cases (show v=Value.type n from rv)
 exact vU I ru ty e fun tk=>⟨.bl b,H,I.tok tk,rfl,q⟩
theorem xQ {A:Around} (h:A.handled=none):A.in1.handled=none:=h
theorem w4 {its:List Value} {bs:List Bool} (r:aV (bs.map V.bl) its) {i:Nat} {v:Value} (e:its[i]?=some v):v=.bool (bs.getD i false):=by
 have hl:=r.length;rw [List.length_map] at hl;have hi:i<its.length:=(List.getElem?_eq_some_iff.mp e).1
 have hb:(bs.map V.bl)[i]?=some (V.bl (bs.getD i false)):=by
  rw [List.getElem?_map,List.getD_eq_getElem?_getD,List.getElem?_eq_getElem (by omega)];rfl
 obtain ⟨u,hu,ru⟩:=r.get hb;rw [e] at hu
 cases hu;exact ru
theorem wu (bs:List Bool):(List.range bs.length).all (fun i=>bs.getD i false)=bs.all id:=by
 rw [Bool.eq_iff_iff];simp only [List.all_eq_true,List.mem_range,id];constructor
 ·intro h b hb;obtain ⟨i,hi,rfl⟩:=List.mem_iff_getElem.mp hb;have:=h i hi
  rwa [List.getD_eq_getElem?_getD,List.getElem?_eq_getElem hi] at this
 ·intro h i hi;rw [List.getD_eq_getElem?_getD,List.getElem?_eq_getElem hi];exact h _ (List.getElem_mem hi)
theorem rL (hc:X.calm=true):cn X (.builtin "all") (fun xs H Q=>∃ (p:Addr) (bs:List Bool),xs=[.ref p]∧SqL X.K H p (bs.map V.bl)∧Q (.bl (bs.all id)) H):=by
 intro pins s σ H xs us Q I r h;obtain ⟨p,bs,rfl,hp,q⟩:=h;obtain ⟨u,rfl,ru⟩:=r.one
 cases (show u=Value.ref p from ru)
 obtain ⟨its,rv,pl,hz⟩:=I.list hp;have hh:=xQ (I.ok.hd hc);have hlt:p<s.heap.objs.size:=let ⟨o,ho,_⟩:=pl.isList; Heap.lt_size ho;refine call_all_walk (wpAny_pyIter_list pl.isList ?_);refine ⟨s.heap.objs.size,_,_,_,_,_,fun i=>bs.getD i false,rfl,Walks.list hh s.heap.objs.size p (Nat.ne_of_lt hlt) its.toArray,⟨⟨_,Heap.get?_push_size _ rfl,rfl,rfl⟩,pl.isList.push _⟩,fun i v s' Q' E' hP hQ=>?_,fun h' tk hk=>?_⟩
 ·have:=w4 rv (i:=i) (v:=v) (by simpa using hP)
  subst this;exact wpAny_truthy_bool hQ
 ·have hl:=rv.length;rw [List.length_map] at hl;refine ⟨.bl (bs.all id),H,I.kept (h':=h') (t':=tk) fun b o e=>hk b o (by simpa using Nat.ne_of_lt (Heap.lt_size e)) (Heap.get?_push_of_some _ e),?_,q⟩
  show _=_
  rw [List.size_toArray,← hl,wu]
theorem pA {its:List Value} {ns:List Int} (r:aV (ns.map V.int) its) {i:Nat} {v:Value} (e:its[i]?=some v):∃ t,v=.int (ns.getD i 0) t:=by
 have hl:=r.length;rw [List.length_map] at hl;have hi:i<its.length:=(List.getElem?_eq_some_iff.mp e).1
 have hb:(ns.map V.int)[i]?=some (V.int (ns.getD i 0)):=by
  rw [List.getElem?_map,List.getD_eq_getElem?_getD,List.getElem?_eq_getElem (by omega)];rfl
 obtain ⟨u,hu,ru⟩:=r.get hb;rw [e] at hu
 cases hu;exact ru
theorem ia (ns:List Int):∀ k,k≤ns.length→preSum (fun i=>ns.getD i 0) k=(ns.take k).sum
 | 0,_=>rfl
 | k+1,h=>by
  have ih:=ia ns k (by omega);rw [List.take_add_one,List.sum_append,← ih,List.getElem?_eq_getElem (by omega)]
  show preSum _ k+ns.getD k 0=_
  rw [List.getD_eq_getElem?_getD,List.getElem?_eq_getElem (by omega)];simp
def fS (ns:List Int):Prop:=∀ k,k≤ns.length→InLong ((ns.take k).sum)∧∀ n∈ns,InLong n
theorem pM (hc:X.calm=true):cn X (.builtin "sum") (fun xs H Q=>∃ (p:Addr) (ns:List Int),xs=[.ref p]∧(SqL X.K H p (ns.map V.int)∨SqT X.K H p (ns.map V.int))∧fS ns∧Q (.int ns.sum) H):=by
  intro pins s σ H xs us Q I r h;obtain ⟨p,ns,rfl,hp,sm,q⟩:=h;obtain ⟨u,rfl,ru⟩:=r.one
  cases (show u=Value.ref p from ru)
  have hh:=xQ (I.ok.hd hc);have fin:∀ {its:List Value} {h':Heap} {tk:Nat} {t':Tok},aV (ns.map V.int) its→(∀ b o,b∉[s.heap.objs.size]→s.heap.get? b=some o→h'.get? b=some o) →
      EP X pins σ Q (.int (preSum (fun i=>ns.getD i 0) its.length) t') { s with heap:=h',toks:=tk }:=fun {its h' tk t'} rv hk=>by
    have hl:=rv.length;rw [List.length_map] at hl;refine ⟨.int ns.sum,H,I.kept (h':=h') (t':=tk) fun b o e=>hk b o (by simpa using Nat.ne_of_lt (Heap.lt_size e)) e,⟨t',?_⟩,q⟩;rw [← hl,ia _ _ (Nat.le_refl _),List.take_of_length_le (Nat.le_refl _)]
  have fit:∀ {its:List Value},aV (ns.map V.int) its→∀ j,j<its.length→InLong (ns.getD j 0)∧InLong (preSum (fun i=>ns.getD i 0) (j+1)):=fun {its} rv j hj=>by
    have hl:=rv.length;rw [List.length_map] at hl;refine ⟨(sm 0 (Nat.zero_le _)).2 _ ?_,?_⟩
    · rw [List.getD_eq_getElem?_getD,List.getElem?_eq_getElem (by omega)]
      exact List.getElem_mem _
    · rw [ia _ _ (by omega)]
      exact (sm _ (by omega)).1
  rcases hp with hp | hp
  · obtain ⟨its,rv,pl,hz⟩:=I.list hp
    have hlt:p<s.heap.objs.size:=let ⟨o,ho,_⟩:=pl.isList; Heap.lt_size ho;refine call_sum_walk (wpAny_pyIter_list pl.isList ?_);refine ⟨s.heap.objs.size,_,_,_,_,_,fun i=>ns.getD i 0,rfl,Walks.list hh s.heap.objs.size p (Nat.ne_of_lt hlt) its.toArray,⟨⟨_,Heap.get?_push_size _ rfl,rfl,rfl⟩,pl.isList.push _⟩,fun b hb=>?_,fun i v hP=>pA rv (by simpa using hP),fun j hj=>fit rv j (by simpa using hj),fun h' tk t' hk=>fin rv fun b o hb e=>hk b o hb (Heap.get?_push_of_some _ e)⟩;rw [Heap.size_push];rcases List.mem_cons.mp hb with e | e
    · rw [e]; exact Nat.lt_succ_self _
    · have:b=p:=by simpa using e
      rw [this]; exact Nat.lt_succ_of_lt hlt
  · obtain ⟨its,rv,pl,hz⟩:=I.tuple hp
    have hlt:p<s.heap.objs.size:=let ⟨o,ho,_⟩:=pl; Heap.lt_size ho;refine call_sum_walk (wpAny_pyIter_tuple pl ?_);refine ⟨s.heap.objs.size,_,_,_,_,_,fun i=>ns.getD i 0,rfl,Walks.tuple hh s.heap.objs.size p (Nat.ne_of_lt hlt) its.toArray,⟨⟨_,Heap.get?_push_size _ rfl,rfl,rfl⟩,pl.push _⟩,fun b hb=>?_,fun i v hP=>pA rv (by simpa using hP),fun j hj=>fit rv j (by simpa using hj),fun h' tk t' hk=>fin rv fun b o hb e=>hk b o hb (Heap.get?_push_of_some _ e)⟩;rw [Heap.size_push];rcases List.mem_cons.mp hb with e | e
    · rw [e]; exact Nat.lt_succ_self _
    · have:b=p:=by simpa using e
      rw [this]; exact Nat.lt_succ_of_lt hlt
end
mutual
def Rep (H:Hp):PyData→V→Prop
 | .none,v=>v=.non
 | .bool b,v=>v=.bl b
 | .int i,v=>v=.int i
 | .str x,v=>v=.str x
 | .list ds,v=>∃ a xs,v=.ref a∧H a=some (.lst xs)∧RepL H ds xs
 | .tuple ds,v=>∃ a xs,v=.ref a∧H a=some (.tup xs)∧RepL H ds xs
 | .dict _,_=>False
def RepL (H:Hp):List PyData→List V→Prop
 | [],xs=>xs=[]
 | d::ds,xs=>∃ x r,xs=x::r∧Rep H d x∧RepL H ds r
end
mutual
theorem Rep.mono {H H':Hp} (s:ai H H'):∀ {d:PyData} {v:V},Rep H d v→Rep H' d v
 | .none,_,h=>by simpa [Rep] using h
 | .bool _,_,h=>by simpa [Rep] using h
 | .int _,_,h=>by simpa [Rep] using h
 | .str _,_,h=>by simpa [Rep] using h
 | .list ds,_,h=>by
  simp only [Rep] at h ⊢;obtain ⟨a,xs,e,h1,h2⟩:=h;exact ⟨a,xs,e,s _ _ h1,RepL.mono s h2⟩
 | .tuple ds,_,h=>by
  simp only [Rep] at h ⊢;obtain ⟨a,xs,e,h1,h2⟩:=h;exact ⟨a,xs,e,s _ _ h1,RepL.mono s h2⟩
 | .dict _,_,h=>by simp only [Rep] at h
theorem RepL.mono {H H':Hp} (s:ai H H'):∀ {ds:List PyData} {xs:List V},RepL H ds xs→RepL H' ds xs
 | [],_,h=>by simpa [RepL] using h
 | d::ds,_,h=>by
  simp only [RepL] at h ⊢;obtain ⟨x,r,e,h1,h2⟩:=h;exact ⟨x,r,e,Rep.mono s h1,RepL.mono s h2⟩
end
section
variable {X:Cx} {pins:List (Addr×Obj)} {σ:St} {H:Hp} {s:Shared}
mutual
theorem Rep.reads (I:Inv X pins σ H s):∀ {d:PyData} {v:V} {u:Value},Rep H d v→bG v u→∃ as,Reads s.heap u d as
 | .none,_,_,h,r=>by simp only [Rep] at h; subst h; cases r; exact ⟨_,.none⟩
 | .bool _,_,_,h,r=>by simp only [Rep] at h; subst h; cases r; exact ⟨_,.bool _⟩
 | .int _,_,_,h,r=>by simp only [Rep] at h; subst h; obtain ⟨t,rfl⟩:=r; exact ⟨_,.int _ _⟩
 | .str _,_,_,h,r=>by simp only [Rep] at h; subst h; obtain ⟨t,rfl⟩:=r; exact ⟨_,.str _ _⟩
 | .list ds,_,_,h,r=>by
  simp only [Rep] at h;obtain ⟨a,xs,rfl,h1,h2⟩:=h
  cases (show _=Value.ref a from r)
  obtain ⟨its,rv,pl,_⟩:=I.list (SqL.of h1);obtain ⟨as,ra⟩:=RepL.reads I h2 rv;obtain ⟨o,n,e,c,_,d⟩:=pl;exact ⟨_,.list e c d (by simpa using ra)⟩
 | .tuple ds,_,_,h,r=>by
  simp only [Rep] at h;obtain ⟨a,xs,rfl,h1,h2⟩:=h
  cases (show _=Value.ref a from r)
  obtain ⟨its,rv,pl,_⟩:=I.tuple (SqT.of h1);obtain ⟨as,ra⟩:=RepL.reads I h2 rv;obtain ⟨o,e,c,n,d⟩:=pl;exact ⟨_,.tuple e c d (by simpa using ra)⟩
 | .dict _,_,_,h,_=>by simp only [Rep] at h
theorem RepL.reads (I:Inv X pins σ H s):∀ {ds:List PyData} {xs:List V} {us:List Value},RepL H ds xs→aV xs us→∃ as,ReadsAll s.heap us ds as
 | [],_,_,h,r=>by simp only [RepL] at h; subst h; cases r; exact ⟨_,.nil⟩
 | d::ds,_,_,h,r=>by
  simp only [RepL] at h;obtain ⟨x,t,rfl,h1,h2⟩:=h
  cases r with
  | cons r1 r2 =>
   obtain ⟨as,a1⟩:=Rep.reads I h1 r1;obtain ⟨bs,a2⟩:=RepL.reads I h2 r2;exact ⟨_,.cons a1 a2⟩
end
end
def wq (neg:Bool):R2:=fun x y H Q=>∃ d e,Rep H d x∧Rep H e y∧SeqAt.shaped d=true∧SeqAt.shaped e=true∧Q (.bl (if neg then !PyData.eqv d e else PyData.eqv d e)) H
section
variable {X:Cx}
theorem Cj (hu:X.A.units+64<cLine):OpR X (compareOp .Eq) (wq false):=by
 intro pins s σ H x y v u Q I rx ry h;obtain ⟨d,e,h1,h2,s1,s2,q⟩:=h;obtain ⟨as,r1⟩:=h1.reads I rx;obtain ⟨bs,r2⟩:=h2.reads I ry;exact eq_dataH r1 r2 s1 s2 hu ⟨.bl _,H,I,rfl,q⟩
theorem qm (hu:X.A.units+64<cLine):OpR X (compareOp .NotEq) (wq true):=by
 intro pins s σ H x y v u Q I rx ry h;obtain ⟨d,e,h1,h2,s1,s2,q⟩:=h;obtain ⟨as,r1⟩:=h1.reads I rx;obtain ⟨bs,r2⟩:=h2.reads I ry;exact ne_dataH r1 r2 s1 s2 hu ⟨.bl _,H,I,rfl,q⟩
end
def tyD:PyData→String
 | .none=>"NoneType"
 | .bool _=>"bool"
 | .int _=>"int"
 | .str _=>"str"
 | .list _=>"list"
 | .tuple _=>"tuple"
 | .dict _=>"dict"
theorem Rep.ty {K:W.Frag} {H:Hp} {d:PyData} {v:V} (h:Rep H d v):i0 K H v (.type (tyD d)):=by
 cases d with
 | none=>simp only [Rep] at h; subst h; exact .non
 | bool b=>simp only [Rep] at h; subst h; exact .bl b
 | int b=>simp only [Rep] at h; subst h; exact .int b
 | str b=>simp only [Rep] at h; subst h; exact .str b
 | list ds=>simp only [Rep] at h; obtain ⟨a,xs,rfl,e,_⟩:=h; exact .lst e
 | tuple ds=>simp only [Rep] at h; obtain ⟨a,xs,rfl,e,_⟩:=h; exact .tup e
 | dict _=>simp only [Rep] at h
def isD (T:String):PyData→Bool
 | .none=>T=="NoneType"
 | .bool _=>T=="bool"||T=="int"
 | .int _=>T=="int"
 | .str _=>T=="str"
 | .list _=>T=="list"
 | .tuple _=>T=="tuple"
 | .dict _=>T=="dict"
theorem r6 {K:W.Frag} (d:PyData):W.kitOne K (.type (tyD d)) (.type "bool")=some (isD "bool" d):=by cases d<;>kernel_rfl
theorem uY {K:W.Frag} (d:PyData):W.kitOne K (.type (tyD d)) (.type "int")=some (isD "int" d):=by cases d<;>kernel_rfl
theorem uZ {K:W.Frag} (d:PyData):W.kitOne K (.type (tyD d)) (.type "str")=some (isD "str" d):=by cases d<;>kernel_rfl
theorem mh {K:W.Frag} (d:PyData):W.kitOne K (.type (tyD d)) (.type "list")=some (isD "list" d):=by cases d<;>kernel_rfl
theorem iR {K:W.Frag} (d:PyData):W.kitOne K (.type (tyD d)) (.type "tuple")=some (isD "tuple" d):=by cases d<;>kernel_rfl
theorem Inv.turnedL {X:Cx} {pins:List (Addr×Obj)} {σ:St} {H:Hp} {s:Shared} {h':Heap} {t':Nat} {ch:List Addr} {T:Addr} {o:HO} (I:Inv X pins σ H s) (k:∀ b o,b∉ch→s.heap.get? b=some o→h'.get? b=some o)
  (f:∀ b∈ch,iX X pins H b) (there:∀ b∈ch,∃ o,h'.get? b=some o) (hT:s.heap.objs.size≤T) (new:bM X.prog X.w (upd H T o) h' T o):Inv X pins σ (upd H T o) { s with heap:=h',toks:=t' }:=by
 have nit:∀ b u,H b=some u→b∉ch:=fun b u e z=>by rw [(f b z).1] at e; cases e
 have ltT:∀ b ob,s.heap.get? b=some ob→b≠T:=fun b ob e=>Nat.ne_of_lt (Nat.lt_of_lt_of_le (Heap.lt_size e) hT);have hTn:H T=none:=I.hok.fresh hT;have neT:∀ b u,H b=some u→b≠T:=fun b u e=>cy e hTn;refine I.step (g':=s.gens) (d':=s.drawn) (ch:=ch) (fun b hb=>⟨(f b hb).2.2.2.1,(f b hb).2.1,(f b hb).2.2.2.2.1,(f b hb).2.2.2.2.2⟩) (fun b o _ _ hc e _=>k b o hc e) (fun b o _ _ hc e _=>⟨o.slots,k b o hc e⟩) (fun b o _ e n=>by rw [au (ltT b o e)]; exact n)
  (fun b o hc e=>⟨o,k b o hc e⟩) (fun b _ e=>by rw [au (neT b _ e)]; exact e) (fun b _ _ e=>by rw [au (neT b _ e)]; exact e) (fun b ps e=>⟨#[],by rw [au (neT b _ e),e]; simp⟩) (fun m hm=>?_) (fun b u e=>?_) I.bare
 ·obtain ⟨ob,es,ep,ho,r⟩:=hm;exact ⟨ob,es,ep,k _ ob (fun z=>(f _ z).2.1 rfl) ho,r⟩
 ·by_cases hb:b=T
  ·subst hb;rw [ae] at e
   cases e;exact new
  ·rw [au hb] at e;refine (I.hok b u e).stay (fun c v hc q=>k c v ?_ q) (fun q e'=>?_) fun a q e'=>?_
   ·rcases hc with z | z
    ·rw [z]; exact nit b u e
    ·exact nit c _ z
   ·rw [au (neT _ _ e')]; exact e'
   ·rw [au (neT _ _ e')]; exact e'
def Itz (K:W.Frag) (a b:Addr):It :=
  ⟨fun i H=>∃ xs ys x y,SqL K H a xs∧SqL K H b ys∧xs[i]?=some x∧ys[i]?=some y,
   fun i H v H'=>∃ T,v=.ref T∧H T=none∧∀ xs ys,SqL K H a xs→SqL K H b ys→∃ x y,xs[i]?=some x∧ys[i]?=some y∧H'=upd H T (.tup [x,y]),
   fun i H=>∃ xs ys,SqL K H a xs∧SqL K H b ys∧(xs.length≤i∨ys.length≤i)⟩
theorem zI {P:Program} {w:World} {K:W.Frag} {elts:List Expr} {kt:Nat} {pt:Pos} {a b n:Addr} (ha:a<n) (hb:b<n) :
    pF P w K (.Tuple elts kt pt) (Itz K a b) [n+4,n+2,n+3,n,n+1] (n+4) (fun i h=>IsZip h (n+4) (n+2) (n+3) .none∧IsPair h (n+2) (.ref n) (.ref (n+1))∧(∃ x y,IsPair h (n+3) x y)∧h.IsListIter n a i∧h.IsListIter (n+1) b i) where
  mem:=by simp
  obj:=fun i h st c hc=>by
    obtain ⟨z1,z2,⟨x,y,z3⟩,⟨o4,e4,c4,d4⟩,⟨o5,e5,c5,d5⟩⟩:=st;simp only [List.mem_cons,List.not_mem_nil,or_false] at hc;rcases hc with rfl | rfl | rfl | rfl | rfl
    · exact ⟨_,z1,fun v z=>by cases z⟩
    · exact ⟨_,z2,fun v z=>by cases z⟩
    · exact ⟨_,z3,fun v z=>by cases z⟩
    · exact ⟨_,e4,fun v z=>by rw [d4] at z; cases z⟩
    · exact ⟨_,e5,fun v z=>by rw [d5] at z; cases z⟩
  keep:=fun i h h' st k=>by
    obtain ⟨z1,z2,⟨x,y,z3⟩,z4,z5⟩:=st;exact ⟨k _ (by simp) _ z1,k _ (by simp) _ z2,⟨x,y,k _ (by simp) _ z3⟩,z4.at fun o e=>k _ (by simp) o e,z5.at fun o e=>k _ (by simp) o e⟩
  item:=by
    intro X hP hw hK hc i pins s σ H E I hf st hg;subst hP hw hK;obtain ⟨xs,ys,x,y,hqa,hqb,hx,hy⟩:=hg;obtain ⟨its,rv,p,hz⟩:=I.list hqa;obtain ⟨jts,rw',p',hz'⟩:=I.list hqb;obtain ⟨u,hu,ru⟩:=rv.get hx;obtain ⟨u',hu',ru'⟩:=rw'.get hy;obtain ⟨z1,z2,⟨x0,y0,z3⟩,z4,z5⟩:=st;have D:ZipApart (n+4) (n+2) (n+3) n (n+1) a b:=PyProof.Rows.zipApart_new ha hb;have ltz:n+4<s.heap.objs.size:=Heap.lt_size z1;refine wpAny_pyNext_zip_item D z1 z2 z3 z4 z5 p.isList p'.isList (x:=u) (y:=u') (by simpa using hu) (by simpa using hu') fun h' a1 a2 a3 a4 a5 a6 hk=>?_;refine ⟨_,rfl,wpAny_letOwnedTupleGo_zip (s:={ s with heap:=h' }) a1 fun h2 b1 hs=>?_⟩;have neT:∀ {c:Addr},c≤n+4→c≠s.heap.objs.size:=fun h=>Nat.ne_of_lt (Nat.lt_of_le_of_lt h ltz);have kk:∀ c o,c∉[n+4,n+3,n,n+1]→s.heap.get? c=some o→h2.get? c=some o:=fun c o hc e=>by
      simp only [List.mem_cons,List.not_mem_nil,or_false,not_or] at hc;exact (hs.2 c hc.1).trans (hk c o hc.1 hc.2.1 hc.2.2.1 hc.2.2.2 e)
    have q2:h2.get? (n+2)=_:=kk _ _ (by simp only [List.mem_cons,List.not_mem_nil,or_false,not_or]; exact ⟨D.TIz,D.TITO,D.TIi1,D.TIi2⟩) z2;have q3:h2.get? (n+3)=_:=(hs.2 _ D.TOz).trans a2;obtain ⟨o4,e4,c4⟩:=a3;obtain ⟨o5,e5,c5⟩:=a4;have q4:h2.get? n=_:=(hs.2 _ D.i1z).trans e4;have q5:h2.get? (n+1)=_:=(hs.2 _ D.i2z).trans e5;have qT:h2.get? s.heap.objs.size=_:=(hs.2 _ (Ne.symm (neT (Nat.le_refl _)))).trans a5;have sub:∀ c∈[n+4,n+3,n,n+1],c∈[n+4,n+2,n+3,n,n+1]:=fun c hc=>by
      simp only [List.mem_cons,List.not_mem_nil,or_false] at hc ⊢;rcases hc with e | e | e | e
      · exact .inl e
      · exact .inr (.inr (.inl e))
      · exact .inr (.inr (.inr (.inl e)))
      · exact .inr (.inr (.inr (.inr e)))
    have I1:Inv X pins σ (upd H s.heap.objs.size (.tup [x,y])) { s with heap:=h2,toks:=s.toks }:=I.turnedL (ch:=[n+4,n+3,n,n+1]) kk (fun c hc=>hf c (sub c hc)) (fun c hc=>by
        simp only [List.mem_cons,List.not_mem_nil,or_false] at hc;rcases hc with rfl | rfl | rfl | rfl
        · exact ⟨_,b1⟩
        · exact ⟨_,q3⟩
        · exact ⟨_,q4⟩
        · exact ⟨_,q5⟩) (Nat.le_refl _) ⟨by show 2≤sizeLine; decide,[u,u'],.cons ru (.cons ru' .nil),_,qT,rfl,_,rfl⟩
    refine ⟨.ref s.heap.objs.size,_,I1,rfl,⟨_,rfl,I.hok.fresh (Nat.le_refl _),fun vs ws hv hw=>?_⟩,⟨b1,q2,⟨_,_,q3⟩,⟨_,q4,c4⟩,⟨_,q5,c5⟩⟩,fun c hc=>?_⟩
    · rw [I.list_inj hv hqa,I.list_inj hw hqb]
      exact ⟨x,y,hx,hy,rfl⟩
    · have hle:c≤n+4:=by
        simp only [List.mem_cons,List.not_mem_nil,or_false] at hc;rcases hc with rfl | rfl | rfl | rfl | rfl
        · exact Nat.le_refl _
        · exact Nat.le_add_right (n+2) 2
        · exact Nat.le_add_right (n+3) 1
        · exact Nat.le_add_right _ 4
        · exact Nat.le_add_right (n+1) 3
      rw [au (neT hle)];exact (hf c hc).1
  done:=by
    intro X hP hw hK hc i pins s σ H E I hf st hg;subst hP hw hK;obtain ⟨xs,ys,hqa,hqb,hl⟩:=hg;obtain ⟨its,rv,p,hz⟩:=I.list hqa;obtain ⟨jts,rw',p',hz'⟩:=I.list hqb;obtain ⟨z1,z2,⟨x0,y0,z3⟩,z4,z5⟩:=st;have D:ZipApart (n+4) (n+2) (n+3) n (n+1) a b:=PyProof.Rows.zipApart_new ha hb;have l1:=rv.length;have l2:=rw'.length;refine wpAny_pyNext_zip_end (I.ok.hd hc) D z1 z2 z3 z4 z5 p.isList p'.isList ?_ fun h' hk=>⟨rfl,?_⟩
    · rcases hl with h | h
      · exact .inl (by simp; omega)
      · exact .inr (by simp; omega)
    · have fp:∀ c∈[n+4,n+3,n,n+1],iX X pins H c:=fun c hc=>hf c (by
        simp only [List.mem_cons,List.not_mem_nil,or_false] at hc ⊢;rcases hc with e | e | e | e
        · exact .inl e
        · exact .inr (.inr (.inl e))
        · exact .inr (.inr (.inr (.inl e)))
        · exact .inr (.inr (.inr (.inr e))))
      have kk:∀ c o,c∉[n+4,n+3,n,n+1]→s.heap.get? c=some o→h'.get? c=some o:=fun c o hc e=>by
        simp only [List.mem_cons,List.not_mem_nil,or_false,not_or] at hc;exact hk c o hc.1 hc.2.1 hc.2.2.1 hc.2.2.2 e
      have nit:∀ c u,H c=some u→c∉[n+4,n+3,n,n+1]:=fun c u e z=>by rw [(fp c z).1] at e; cases e
      refine I.step (g':=s.gens) (d':=s.drawn) (t':=s.toks) (ch:=[n+4,n+3,n,n+1]) (fun c hc=>⟨(fp c hc).2.2.2.1,(fp c hc).2.1,(fp c hc).2.2.2.2.1,(fp c hc).2.2.2.2.2⟩) (fun c o _ _ hc e _=>kk c o hc e) (fun c o _ _ hc e _=>⟨o.slots,kk c o hc e⟩) (fun _ _ _ _ n=>n)
        (fun c o hc e=>⟨o,kk c o hc e⟩) (fun _ _ e=>e) (fun _ _ _ e=>e) (fun _ ps e=>⟨#[],by rw [e]; simp⟩) (fun m hm=>?_) (fun c u e=>?_) I.bare
      · obtain ⟨ob,es,ep,ho,r⟩:=hm
        exact ⟨ob,es,ep,kk _ ob (fun z=>(fp _ z).2.1 rfl) ho,r⟩
      · refine (I.hok c u e).stay (fun d v hd q=>kk d v ?_ q) (fun _ e'=>e') fun _ _ e'=>e'
        rcases hd with z | z
        · rw [z]; exact nit c u e
        · exact nit d _ z
  self:=fun _ _ _ _ _ st h=>wpAny_pyIter_zip st.1 h
section
variable {σ:St} {H:Hp} {Q:VK} {D:cZ} {QB:Bool→Hp→Prop} {QA:List V→Hp→Prop}
theorem AX (h:D.nx σ H):BI D σ H:=h
theorem CK {te:TE} {g:TG} (h:te σ H fun x H1=>g x σ H1 D.nx):wU te g D σ H:=h
theorem dR {i:Nat} {v:V} {Q:St→Hp→Prop} (h:Q (σ.set i (some v)) H):eW i v σ H Q:=h
theorem C5 {te:TE} (h:te σ H D.rt):D7 te D σ H:=h
theorem AM {te:TE} (h:te σ H fun _ H1=>D.nx σ H1):BF te D σ H:=h
theorem CW {c:TT} {t u:TS} (h:c σ H fun b H1=>if b=true then t D σ H1 else u D σ H1):D4 c t u D σ H:=h
theorem DT {t:TE} (h:t σ H fun x H1=>∃ c,x=.bl c∧QB c H1):tB t σ H QB:=h
theorem yS {t:TE} (h:t σ H fun x H1=>∃ c,x=.bl c∧QB c H1):BL t σ H QB:=h
theorem AN {b:Bool} {P:Bool→Prop} (h:P b):∃ c,V.bl b=V.bl c∧P c:=⟨b,rfl,h⟩
theorem yy {a:Addr} {P:Addr→Prop} (h:P a):∃ c,V.ref a=V.ref c∧P c:=⟨a,rfl,h⟩
theorem yv {i:Int} {P:Int→Prop} (h:P i):∃ c,V.int i=V.int c∧P c:=⟨i,rfl,h⟩
theorem C7 {i:Nat} {v:V} (e:σ[i]?=some (some v)) (h:Q v H):Df i σ H Q:=⟨v,e,h⟩
theorem EA {v:V} (h:Q v H):tC v σ H Q:=h
theorem DP {r:R2} {ta tb:TE} (h:ta σ H fun x H1=>tb σ H1 fun y H2=>r x y H2 Q):tOp r ta tb σ H Q:=h
theorem DU {r:V→Hp→VK→Prop} {ta:TE} (h:ta σ H fun x H1=>r x H1 Q):tUn r ta σ H Q:=h
theorem AG {ta tb:TE} (h:ta σ H fun x H1=>∃ c,x=.bl c∧if c=true then tb σ H1 Q else Q (.bl false) H1):BC ta tb σ H Q:=h
theorem AY {ta:TE} (h:ta σ H fun x H1=>∃ c,x=.bl c∧Q (.bl (!c)) H1):BJ ta σ H Q:=h
theorem CJ {t u:TT} (h:t σ H fun c H1=>if c=true then u σ H1 QB else QB false H1):DZ t u σ H QB:=h
theorem DQ {t u:TT} (h:t σ H fun c H1=>if c=true then QB true H1 else u σ H1 QB):tOr t u σ H QB:=h
theorem C3 {t:TT} (h:t σ H fun c H1=>QB (!c) H1):D5 t σ H QB:=h
theorem fH (h:QB true H):j0 σ H QB:=h
theorem DN {g:Int→Int→V} {i j:Int} (h:Q (g i j) H):rI0 g (.int i) (.int j) H Q:=⟨i,j,rfl,rfl,h⟩
theorem bR {C:Int→Int→Prop} {g:Int→Int→V} {i j:Int} (c:C i j) (h:Q (g i j) H):rI C g (.int i) (.int j) H Q:=⟨i,j,rfl,rfl,c,h⟩
theorem Ez {g:Int→V} {i:Int} (h:Q (g i) H):rU g (.int i) H Q:=⟨i,rfl,h⟩
theorem CQ {i j:Int} (h:Q (.bl (decide (i=j))) H):rEq (.int i) (.int j) H Q:=⟨rfl,by
 rw [lC,Int.instDecidableEq.eq_def]<;>first | exact h | (simpa [lC] using h)⟩
theorem C1 {i j:Int} (h:Q (.bl (!decide (i=j))) H):rNe (.int i) (.int j) H Q:=⟨rfl,by
 have e:decide (V.int i=V.int j)=decide (i=j):=by by_cases z:i=j<;>simp [z]
 rw [e]; exact h⟩
theorem CS {i j:Str} (h:Q (.bl (decide (i=j))) H):rEq (.str i) (.str j) H Q:=⟨rfl,by
 have e:decide (V.str i=V.str j)=decide (i=j):=by by_cases z:i=j<;>simp [z]
 rw [e]; exact h⟩
theorem CP {i j:Bool} (h:Q (.bl (decide (i=j))) H):rEq (.bl i) (.bl j) H Q:=⟨rfl,by
 have e:decide (V.bl i=V.bl j)=decide (i=j):=by by_cases z:i=j<;>simp [z]
 rw [e]; exact h⟩
theorem C0 {i j:Bool} (h:Q (.bl (!decide (i=j))) H):rNe (.bl i) (.bl j) H Q:=⟨rfl,by
 have e:decide (V.bl i=V.bl j)=decide (i=j):=by by_cases z:i=j<;>simp [z]
 rw [e]; exact h⟩
theorem aQ {K:W.Frag} {p:Addr} {xs:List V} {i:Int} {v:V} (h:SqL K H p xs) (e:atI xs i=some v) (q:Q v H):AA K (.ref p) (.int i) H Q:=⟨p,xs,i,v,rfl,rfl,h,e,q⟩
theorem ak {K:W.Frag} {p:Addr} {xs:List V} {i:Int} {v:V} (h:SqT K H p xs) (e:atI xs i=some v) (q:Q v H):CF K (.ref p) (.int i) H Q:=⟨p,xs,i,v,rfl,rfl,h,e,q⟩
theorem yp {r r':R2} {ta tb tc:TE} (h:ta σ H fun x H1=>tb σ H1 fun y H2=>r x y H2 fun z H3=>∃ k,z=.bl k∧if k=true then tc σ H3 fun y' H4=>r' y y' H4 Q else Q (.bl false) H3):zw r r' ta tb tc σ H Q:=h
theorem AH {sp:Sp} {dvs:List V} {E:XK} {t:TA} (h:t σ H fun vs H1=>sp (vs++dvs) H1 Q E):vo sp dvs E t σ H Q:=h
theorem C2 (h:QA [] H):zF σ H QA:=h
theorem AJ {ta:TE} {tr:TA} (h:ta σ H fun x H1=>tr σ H1 fun xs H2=>QA (x::xs) H2):BD ta tr σ H QA:=h
theorem DM {r:List V→Hp→VK→Prop} {t:TA} (h:t σ H fun vs H1=>r vs H1 Q):tCB r t σ H Q:=h
theorem C6 {t:TA} (h:t σ H fun xs H1=>xs.length≤sizeLine∧∀ p,H1 p=none→Q (.ref p) (upd H1 p (.tup xs))):D9 t σ H Q:=h
theorem CZ {t:TA} (h:t σ H fun xs H1=>xs.length≤sizeLine∧∀ p,H1 p=none→Q (.ref p) (upd H1 p (.lst xs))):Bd t σ H Q:=h
end
theorem Cg {K:W.Frag}:W.kitOne K (.type "int") (.type "int")=some true:=by kernel_rfl
theorem Cf {K:W.Frag}:W.kitOne K (.type "int") (.type "bool")=some false:=by kernel_rfl
section
variable {X:Cx} {K:W.Frag} {H:Hp} {Q:VK} {σ:St}
def CD (K:W.Frag):List V→Hp→VK→Prop:=fun xs H Q=>∃ x n t b,xs=[x,.ty n]∧i0 K H x t∧W.kitOne K t (.type n)=some b∧Q (.bl b) H
theorem vG:cn X (.builtin "isinstance") (CD X.K):=rM
theorem dD {x:V} {n:String} {t:Value} {b:Bool} (ty:i0 K H x t) (e:W.kitOne K t (.type n)=some b) (h:Q (.bl b) H):CD K [x,.ty n] H Q:=⟨x,n,t,b,rfl,ty,e,h⟩
def AB (K:W.Frag):List V→Hp→VK→Prop:=fun xs H Q=>∃ p ys,xs=[.ref p]∧(SqL K H p ys∨SqT K H p ys)∧Q (.int ys.length) H
theorem BY:cn X (.builtin "len") (AB X.K):=pJ
theorem bI {p:Addr} {ys:List V} (h:H p=some (.lst ys)) (q:Q (.int ys.length) H):AB K [.ref p] H Q:=⟨p,ys,rfl,.inl (SqL.of h),q⟩
theorem lI {p:Addr} {ys:List V} (h:H p=some (.tup ys)) (q:Q (.int ys.length) H):AB K [.ref p] H Q:=⟨p,ys,rfl,.inr (SqT.of h),q⟩
def Cz (K:W.Frag):List V→Hp→VK→Prop:=fun xs H Q=>∃ (p:Addr) (bs:List Bool),xs=[.ref p]∧SqL K H p (bs.map V.bl)∧Q (.bl (bs.all id)) H
theorem BX (hc:X.calm=true):cn X (.builtin "all") (Cz X.K):=rL hc
theorem mK {p:Addr} {bs:List Bool} (h:H p=some (.lst (bs.map V.bl))) (q:Q (.bl (bs.all id)) H):Cz K [.ref p] H Q:=⟨p,bs,rfl,SqL.of h,q⟩
def AE (K:W.Frag):List V→Hp→VK→Prop:=fun xs H Q=>∃ (p:Addr) (ns:List Int),xs=[.ref p]∧(SqL K H p (ns.map V.int)∨SqT K H p (ns.map V.int))∧fS ns∧Q (.int ns.sum) H
theorem BZ (hc:X.calm=true):cn X (.builtin "sum") (AE X.K):=pM hc
theorem ve {p:Addr} {ns:List Int} (h:H p=some (.tup (ns.map V.int))) (s:fS ns) (q:Q (.int ns.sum) H):AE K [.ref p] H Q:=⟨p,ns,rfl,.inr (SqT.of h),s,q⟩
theorem vc {p:Addr} {ns:List Int} (h:H p=some (.lst (ns.map V.int))) (s:fS ns) (q:Q (.int ns.sum) H):AE K [.ref p] H Q:=⟨p,ns,rfl,.inl (SqL.of h),s,q⟩
def DE:List V→Hp→VK→Prop:=fun xs H Q=>∃ i,xs=[.int i]∧Q (.int (if i<0 then -i else i)) H
theorem xr:cn X (.builtin "abs") DE:=xu
theorem CI {i:Int} (q:Q (.int (if i<0 then -i else i)) H):DE [.int i] H Q:=⟨i,rfl,q⟩
def u9 (K:W.Frag):List V→Hp→VK→Prop:=fun xs H Q=>∃ p ys,xs=[.ref p]∧(SqL K H p ys∨SqT K H p ys)∧∀ l,H l=none→Q (.ref l) (upd H l (.lst ys))
theorem zW:cn X (.type "list") (u9 X.K):=pL
theorem ig {p:Addr} {ys:List V} (h:H p=some (.lst ys)) (q:∀ l,H l=none→Q (.ref l) (upd H l (.lst ys))):u9 K [.ref p] H Q:=⟨p,ys,rfl,.inl (SqL.of h),q⟩
theorem ij {p:Addr} {ys:List V} (h:H p=some (.tup ys)) (q:∀ l,H l=none→Q (.ref l) (upd H l (.lst ys))):u9 K [.ref p] H Q:=⟨p,ys,rfl,.inr (SqT.of h),q⟩
def uq (K:W.Frag):List V→Hp→VK→Prop:=fun xs H Q=>∃ p ys,xs=[.ref p]∧((SqL K H p ys∧∀ l,H l=none→Q (.ref l) (upd H l (.tup ys)))∨(SqT K H p ys∧Q (.ref p) H))
theorem xt:cn X (.type "tuple") (uq X.K):=nI
theorem pf {p:Addr} {ys:List V} (h:H p=some (.lst ys)) (q:∀ l,H l=none→Q (.ref l) (upd H l (.tup ys))):uq K [.ref p] H Q:=⟨p,ys,rfl,.inl ⟨SqL.of h,q⟩⟩
def Bt:List V→Hp→VK→Prop:=fun xs H Q=>(∃ i,xs=[.int i]∧Q (.int i) H)∨∃ k,xs=[.bl k]∧Q (.int (if k then 1 else 0)) H
theorem j8:cn X (.type "int") Bt:=vH
theorem AR {b:Bool} (q:Q (.int (if b then 1 else 0)) H):Bt [.bl b] H Q:=.inr ⟨b,rfl,q⟩
def DG (K:W.Frag) (f:Str):V→Hp→VK→Prop:=fun x H1 Q=>∃ a C dx fs v,x=.ref a∧H1 a=some (.ins C dx fs)∧Cls K C∧cR K C f∧fs.lookup f=some v∧Q v H1
theorem CT {ta:TE} {f:Str} (h:ta σ H fun x H1=>DG K f x H1 Q):De K ta f σ H Q:=h
theorem bD {f:Str} {a C dx:Addr} {fs:List (Str×V)} {v:V} (h:H a=some (.ins C dx fs)) (c:Cls K C) (n:cR K C f) (l:fs.lookup f=some v) (q:Q v H):DG K f (.ref a) H Q:=⟨a,C,dx,fs,v,rfl,h,c,n,l,q⟩
def va (C:Addr) (m:Str):V→Hp→Prop→Prop:=fun x H1 q=>∃ a dx fs,x=.ref a∧H1 a=some (.ins C dx fs)∧fs.lookup m=none∧q
theorem AW {C:Addr} {m:Str} {sp:Sp} {dvs:List V} {E:XK} {ta:TE} {t:TA} (h:ta σ H fun x H1=>va C m x H1 (t σ H1 fun vs H2=>sp (x::(vs++dvs)) H2 Q E)):zE C m sp dvs E ta t σ H Q:=h
theorem aw {C a dx:Addr} {m:Str} {fs:List (Str×V)} {q:Prop} (h:H a=some (.ins C dx fs)) (l:fs.lookup m=none) (hq:q):va C m (.ref a) H q:=⟨a,dx,fs,rfl,h,l,hq⟩
theorem AU {C:Addr} {sp:Sp} {dvs:List V} {E:XK} {t:TA} (h:t σ H fun vs H1=>∀ x dx,H1 x=none→H1 dx=none→dx≠x →
 sp (.ref x::(vs++dvs)) (upd (upd H1 dx (.own x)) x (.ins C dx [])) (fun v H2=>v=.non∧Q (.ref x) H2) E):zC C sp dvs E t σ H Q:=h
def rBM (K:W.Frag) (T:String):V→Hp→Prop→Prop:=fun x H1 q=>tyV K T x H1∧q
theorem DO {T:String} {r:V→List V→Hp→VK→Prop} {to:TE} {t:TA} (h:to σ H fun x H1=>rBM K T x H1 (t σ H1 fun xs H2=>r x xs H2 Q)):tBM K T r to t σ H Q:=h
theorem CM {T:String} {r:V→List V→Hp→VK→Prop} {to:TE} (h:to σ H fun x H1=>rBM K T x H1 (r x [] H1 Q)):D0 K T r to σ H Q:=h
theorem cF {l:Addr} {xs:List V} {q:Prop} (h:H l=some (.lst xs)) (hq:q):rBM K "list" (.ref l) H q:=⟨.inl ⟨rfl,_,SqL.of h⟩,hq⟩
theorem bU {l:Addr} {xs:List V} {y:V} (h:H l=some (.lst xs)) (z:xs.length<sizeLine) (q:Q .non (upd H l (.lst (xs++[y])))):u6 (.ref l) [y] H Q:=⟨l,xs,y,rfl,rfl,h,z,q⟩
theorem DR {r:V→Option Int→Option Int→Hp→VK→Prop} {te:TE} {tl th:TO} (h:te σ H fun x H1=>tl σ H1 fun l H2=>th σ H2 fun u H3=>r x l u H3 Q):tSl r te tl th σ H Q:=h
theorem wB {Q:Option Int→Hp→Prop} (h:Q none H):vt σ H Q:=h
theorem AZ {t:TE} {Q:Option Int→Hp→Prop} (h:t σ H fun x H1=>∃ i,x=.int i∧Q (some i) H1):BK t σ H Q:=h
theorem uv {a:Addr} {xs:List V} {lo hi:Option Int} (h:H a=some (.lst xs)) (q:∀ p,H p=none→Q (.ref p) (upd H p (.lst (gp xs lo hi)))):AD K (.ref a) lo hi H Q:=⟨a,xs,rfl,SqL.of h,q⟩
def vA (J:It) (g:TG) (tb:TS) (D:cZ) (σ:St) (H1:Hp):Prop:=∃ W:Nat→Nat→St→Hp→Prop,(∃ m,W 0 m σ H1)∧∀ i m σ H,W i m σ H →
 (J.stop i H∧D.nx σ H)∨(J.go i H∧∃ N:St→Hp→Prop,(∀ σ' H',N σ' H'→∃ m',m'<m∧W (i+1) m' σ' H')∧∀ x H',J.yld i H x H'→g x σ H' fun σ2 H2=>tb { D with nx:=N,ct:=N,bk:=D.nx } σ2 H2)
theorem CV {wi:TI} {g:TG} {tb:TS} {D:cZ} (h:wi σ H fun J H1=>vA J g tb D σ H1):D3 wi g tb D σ H:=h
theorem ki {a:Addr} {xs:List V} {g:TG} {tb:TS} {D:cZ} (Pv:Nat→St→Hp→Prop) (h0:Pv 0 σ H) (hl:∀ i σ H,i≤xs.length→Pv i σ H→SqL K H a xs)
  (hs:∀ i x σ H,xs[i]?=some x→Pv i σ H→g x σ H fun σ2 H2=>tb { D with nx:=Pv (i+1),ct:=Pv (i+1),bk:=D.nx } σ2 H2) (hd:∀ σ H,Pv xs.length σ H→D.nx σ H):vA (Itl K a) g tb D σ H:=xM Pv h0 hl hs hd
theorem xK {a:Addr} {xs:List V} {g:TG} {tb:TS} {D:cZ} (Pv:Nat→St→Hp→Prop) (h0:Pv 0 σ H) (hl:∀ i σ H,i≤xs.length→Pv i σ H→SqT K H a xs)
  (hs:∀ i x σ H,xs[i]?=some x→Pv i σ H→g x σ H fun σ2 H2=>tb { D with nx:=Pv (i+1),ct:=Pv (i+1),bk:=D.nx } σ2 H2) (hd:∀ σ H,Pv xs.length σ H→D.nx σ H):vA (Itt K a) g tb D σ H:=Ab Pv h0 hl hs hd
theorem d9 {lo:Int} {n:Nat} {g:TG} {tb:TS} {D:cZ} (Pv:Nat→St→Hp→Prop) (h0:Pv 0 σ H)
  (hs:∀ i σ H,i<n→Pv i σ H→g (.int (lo+i)) σ H fun σ2 H2=>tb { D with nx:=Pv (i+1),ct:=Pv (i+1),bk:=D.nx } σ2 H2) (hd:∀ σ H,Pv n σ H→D.nx σ H):vA (Itr lo n) g tb D σ H:=vR Pv h0 hs hd
theorem A0 {ta:TA} {R:It→Hp→Prop} (h:ta σ H fun vs H1=>∃ j:Int,vs=[.int j]∧-(2 ^ 62)≤j∧j<2 ^ 62∧R (Itr 0 j.toNat) H1):Bp ta σ H R:=h
theorem yD {tl:TE} {R:It→Hp→Prop} (h:tl σ H fun x H1=>∃ a,x=.ref a∧(∃ xs,SqL K H1 a xs)∧R (Itl K a) H1):Bo K tl σ H R:=h
theorem AS {tl:TE} {R:It→Hp→Prop} (h:tl σ H fun x H1=>∃ a,x=.ref a∧(∃ xs,SqT K H1 a xs)∧R (Itt K a) H1):Dx K tl σ H R:=h
end
theorem cw {zs:List Int} {i:Int} (h0:0≤i) (h1:i<zs.length):atI (zs.map V.int) i=some (.int (zs.getD i.toNat 0)):=by
 obtain ⟨k,rfl⟩:∃ k:Nat,i=(k:Int):=⟨i.toNat,by omega⟩
 refine bY ?_;have hk:k<zs.length:=by omega
 simp [hk]
theorem ai.new {H:Hp} {p:Addr} {o:HO} (h:H p=none):ai H (upd H p o):=fun b u e=>by rw [au (cy e h)]; exact e
theorem ai.later {H0 H:Hp} {p:Addr} {o:HO} (s:ai H0 H) (h:H0 p=none):ai H0 (upd H p o):=fun b u e=>by rw [au (cy e h)]; exact s b u e
theorem Dz {b:Bool} {A B:Prop} (h:if b=true then A else B):if (true&&b)=true then A else B:=by rw [Bool.true_and]; exact h
theorem Dy {b:Bool} {A B:Prop} (h:if b=true then B else A):if (!b)=true then A else B:=by cases b<;>exact h
section
variable {prog:Program} {w:World} {A:Around} {E:Value→Shared→Prop} {s:Shared}
theorem i6 {t sl:Addr} {items:Array Value} {vl vu:Value} {lo hi:Option Int} {Q:Value→Shared→Prop} (ht:IsTup s.heap t items) (hs:s.heap.IsSliceOf sl vl vu .none) (pl:IsPart vl lo) (pu:IsPart vu hi)
  (hw:HT.sIx items.size 0 lo=0∧HT.sIx items.size items.size hi=items.size) (h:Q (.ref t) s):wpAny (model prog w) A (getItem (.ref t) (.ref sl)) Q E s:=by
 obtain ⟨os,hos,hcs,hds⟩:=id hs;have hTs:s.TypeIs (.ref sl) "slice":=⟨os,hos,hcs⟩
 unfold getItem
 try with_reducible refine wpAny_holding ?_
 first | refine wpAny_bind (wpAny_pure ?_) | skip
 refine wpAny_bind (wpAny_sequenceKey ht.typeIs (by decide) ?_);refine wpAny_bind (wpAny_callSpecial?_slot (name:=Str.ofString "__getitem__") ht.typeIs PyProof.Rows.slot_tuple_getitem
  (wpAny_call_entry PyProof.Rows.slot_tuple_getitem ht.typeIs entry_tuple_getitem ?_ (args_tuple_getitem _ _)))
 show wpAny _ _ (Builtin.Tuple.tupleItemsOf (.ref t) >>= _) _ _ s
 refine wpAny_bind (tupleItemsOf_ ht ?_);refine wpAny_bind (wpAny_typeOf hTs ?_);rw [if_pos (by decide)];refine wpAny_bind (HT.gf hs pl pu ?_)
 have hyes:(((HT.sIx items.size 0 lo:Nat):Int)==0&&(1:Int)==1&&(HT.sIx items.size items.size hi - HT.sIx items.size 0 lo)==items.size)=true:=by
  rw [hw.1,hw.2]; simp
 show wpAny _ _ (if (((HT.sIx items.size 0 lo:Nat):Int)==0&&(1:Int)==1&&(HT.sIx items.size items.size hi - HT.sIx items.size 0 lo)==items.size)=true then _ else _) _ _ s
 rw [if_pos hyes];unfold Builtin.Tuple.tupleIsExact;refine wpAny_bind (wpAny_bind (wpAny_typeOf ht.typeIs (wpAny_pure ?_)));rw [if_pos (by decide)]
 first
  | exact wpAny_bind (wpAny_rule (wpAny_pure ⟨_, rfl, wpAny_pure h⟩))
  | exact wpAny_bind (wpAny_rule (wpAny_bind (wpAny_pure (wpAny_pure ⟨_, rfl, wpAny_pure h⟩))))
  | exact wpAny_bind (wpAny_bind (wpAny_rule (wpAny_pure ⟨_, rfl, wpAny_pure h⟩)))
end
def ym (K:W.Frag):V→Option Int→Option Int→Hp→VK→Prop:=fun x lo hi H Q=>∃ a xs,x=.ref a∧H a=some (.tup xs)∧∀ H1 p,ai H H1→H1 p=some (.tup (gp xs lo hi))→Q (.ref p) H1
theorem A9 {X:Cx}:SlR X (ym X.K):=by
 intro pins s σ H x v vl vu lo hi sl Q I rx hs pl pu h;obtain ⟨a,xs,rfl,hx,q⟩:=h;by_cases hw:HT.sIx xs.length 0 lo=0∧HT.sIx xs.length xs.length hi=xs.length
 ·cases rx;obtain ⟨its,r,ht,hz⟩:=I.tuple (SqT.of hx);have hlen:its.toArray.size=xs.length:=by rw [List.size_toArray]; exact r.length.symm
  refine ⟨"tuple",_,PyProof.Rows.slot_tuple_getitem.lookup,ht.typeIs,i6 ht hs pl pu (by rw [hlen]; exact hw) ⟨.ref a,H,I,rfl,q H a (ai.refl _) ?_⟩⟩;rw [hx];unfold gp;rw [hw.1,hw.2,List.drop_zero,Nat.sub_zero,List.take_of_length_le (Nat.le_refl _)]
 ·exact C9 pins s σ H _ v vl vu lo hi sl Q I rx hs pl pu ⟨a,xs,rfl,SqT.of hx,hw,fun p hp=>q _ p (ai.new hp) ae⟩
theorem yR {K:W.Frag} {H:Hp} {Q:VK} {a:Addr} {xs:List V} {lo hi:Option Int} (h:H a=some (.tup xs)) (q:∀ H1 p,ai H H1→H1 p=some (.tup (gp xs lo hi))→Q (.ref p) H1):ym K (.ref a) lo hi H Q:=⟨a,xs,rfl,h,q⟩
def jC (J:It) (g:TG) (tt:TT) (te:TE) (cap:List (Option Nat)) (l:Addr) (σ:St) (H1:Hp) (Q:VK):Prop :=
 ∃ (n:Nat) (Pv:Nat→List V→St→Hp→Prop),Pv 0 [] (gm cap σ) (upd H1 l (.lst [])) ∧
  (∀ i ys σ' H',i<n→Pv i ys σ' H'→J.go i H'∧∀ x H2,J.yld i H' x H2→g x σ' H2 fun σ3 H3=>tt σ3 H3 fun b H4 =>
   if b=true then te σ3 H4 fun y H5=>H5 l=some (.lst ys)∧ys.length<sizeLine∧Pv (i+1) (ys++[y]) σ3 (upd H5 l (.lst (ys++[y]))) else Pv (i+1) ys σ3 H4) ∧
  ∀ ys σ' H',Pv n ys σ' H'→J.stop n H'∧Q (.ref l) H'
section
variable {K:W.Frag} {σ:St} {H:Hp} {Q:VK} {te:TE} {cap:List (Option Nat)} {l:Addr}
theorem AI {wi:TI} {g:TG} {tt:TT} (h:wi σ H fun J H1=>∀ l,H1 l=none→jC J g tt te cap l σ H1 Q):vp wi g tt te cap σ H Q:=h
theorem oF {α β:Type} (F:α→β) (xs:List α) (i:Nat) {x:α} (h:xs[i]?=some x):(xs.take (i+1)).map F=(xs.take i).map F++[F x]:=by
 rw [List.take_add_one,h,List.map_append];rfl
theorem lW {a:Addr} {xs:List V} (F:V→V) (hs:SqL K H a xs) (hz:xs.length≤1000) (hl:H l=none)
  (step:∀ x o H' (Q':VK),x∈xs→ai H H'→(∀ H5,ai H' H5→Q' (F x) H5)→te (((gm (none::cap) σ).set 0 o).set 0 (some x)) H' Q')
  (fin:∀ H',ai H H'→H' l=some (.lst (xs.map F))→Q (.ref l) H'):jC (Itl K a) (eW 0) j0 te (none::cap) l σ H Q:=by
 refine ⟨xs.length,fun i ys σ' H'=>ys=(xs.take i).map F∧(∃ o,σ'=(gm (none::cap) σ).set 0 o)∧ai H H'∧H' l=some (.lst ys),⟨rfl,⟨none,rfl⟩,ai.new hl,ae⟩,?_,?_⟩
 ·rintro i ys σ' H' hi ⟨rfl,⟨o,rfl⟩,s,e⟩;refine ⟨⟨xs,xs[i],s.seq hs,by simp [hi]⟩,fun x H2 y=>?_⟩;obtain ⟨e2,y⟩:=y;subst e2;have hx:=y xs (s.seq hs);refine dR (fH (pR ?_));refine step x o H2 _ (List.mem_of_getElem? hx) s fun H5 s5=>⟨s5 _ _ e,?_,?_⟩
  ·rw [List.length_map,List.length_take];exact aP (by omega)
  ·exact ⟨(oF F xs i hx).symm,⟨_,List.set_set ..⟩,(s.trans s5).later hl,ae⟩
 ·rintro ys σ' H' ⟨rfl,_,s,e⟩;rw [List.take_of_length_le (Nat.le_refl _)] at e;exact ⟨⟨xs,s.seq hs,Nat.le_refl _⟩,fin H' s e⟩
theorem rQ {n:Nat} (F:Nat→V) (hz:n≤1000) (hl:H l=none)
  (step:∀ i o H' (Q':VK),i<n→ai H H'→(∀ H5,ai H' H5→Q' (F i) H5)→te (((gm (none::cap) σ).set 0 o).set 0 (some (.int ((0:Int)+(i:Nat))))) H' Q')
  (fin:∀ H',ai H H'→H' l=some (.lst ((List.range n).map F))→Q (.ref l) H'):jC (Itr 0 n) (eW 0) j0 te (none::cap) l σ H Q:=by
 refine ⟨n,fun i ys σ' H'=>ys=(List.range i).map F∧(∃ o,σ'=(gm (none::cap) σ).set 0 o)∧ai H H'∧H' l=some (.lst ys),⟨rfl,⟨none,rfl⟩,ai.new hl,ae⟩,?_,?_⟩
 ·rintro i ys σ' H' hi ⟨rfl,⟨o,rfl⟩,s,e⟩;refine ⟨hi,fun x H2 y=>?_⟩;obtain ⟨e2,rfl⟩:=y;subst e2;refine dR (fH (pR ?_));refine step i o H2 _ hi s fun H5 s5=>⟨s5 _ _ e,?_,?_⟩
  ·rw [List.length_map,List.length_range];exact aP (by omega)
  ·refine ⟨?_,⟨_,List.set_set ..⟩,(s.trans s5).later hl,ae⟩;rw [List.range_succ,List.map_append];rfl
 ·rintro ys σ' H' ⟨rfl,_,s,e⟩;exact ⟨Nat.le_refl _,fin H' s e⟩
def Bw (K:W.Frag) (f:Str) (y x:V) (H2:Hp) (k:Hp→Prop):Prop:=∃ a C dx fs,x=.ref a∧H2 a=some (.ins C dx fs)∧Cls K C∧cR K C f∧fs.length<1000∧k (upd H2 a (.ins C dx (cG f y fs)))
theorem A1 {D:cZ} {ta tv:TE} {f:Str} (h:tv σ H fun y H1=>ta σ H1 fun x H2=>Bw K f y x H2 fun H3=>D.nx σ H3):DV K ta tv f D σ H:=h
theorem cA {f:Str} {y:V} {k:Hp→Prop} {a C dx:Addr} {fs:List (Str×V)} (h:H a=some (.ins C dx fs)) (c:Cls K C) (n:cR K C f) (z:fs.length<1000) (q:k (upd H a (.ins C dx (cG f y fs)))):Bw K f y (.ref a) H k:=⟨a,C,dx,fs,rfl,h,c,n,z,q⟩
def BU (c:TT) (tb:TS) (D:cZ) (σ:St) (H:Hp):Prop:=∃ W:Nat→St→Hp→Prop,(∃ m,W m σ H)∧∀ m σ H,W m σ H →
 c σ H fun b H1=>if b=true then ∃ N:St→Hp→Prop,(∀ σ' H',N σ' H'→∃ m',m'<m∧W m' σ' H')∧tb { D with nx:=N,ct:=N,bk:=D.nx } σ H1 else D.nx σ H1
theorem yU {D:cZ} {c:TT} {tb:TS} (h:BU c tb D σ H):zH c tb D σ H:=h
theorem iU {n:Nat} {tt:TGs} {a:Addr} {xs:List V} {QS:St→Hp→Prop} (h:H a=some (.tup xs)) (hl:xs.length=n) (q:tt xs σ H QS):xN K n tt (.ref a) σ H QS:=⟨a,xs,rfl,SqT.of h,hl,q⟩
theorem ic {tg:TG} {u:TGs} {v:V} {r:List V} {QS:St→Hp→Prop} (h:tg v σ H fun σ' H'=>u r σ' H' QS):oU tg u (v::r) σ H QS:=⟨v,r,rfl,h⟩
theorem qu {QS:St→Hp→Prop} (h:QS σ H):Ae [] σ H QS:=⟨rfl,h⟩
theorem lJ {a:Addr} {xs:List V} {k:Int} {j:Nat} {v:V} {QH:Hp→Prop} (h:H a=some (.lst xs)) (e:ixN xs.length k=some j) (q:QH (upd H a (.lst (xs.set j v)))):Bx (.ref a) (.int k) v H QH:=⟨a,xs,k,j,rfl,rfl,h,e,q⟩
theorem AQ {to ti:TE} {ts:xm} {v:V} {QS:St→Hp→Prop} (h:to σ H fun o H1=>ti σ H1 fun i H2=>ts o i v H2 fun H3=>QS σ H3):Dw to ti ts v σ H QS:=h
end
section
variable {X:Cx} (K:W.Frag) (h:X.K=K)
include h
theorem aH:IxR X (AA K):=h ▸ Aj
theorem aq:IxR X (CF K):=h ▸ Ca
theorem bX:cn X (.builtin "isinstance") (CD K):=h ▸ vG
theorem bH:cn X (.builtin "len") (AB K):=h ▸ BY
theorem lA (hc:X.calm=true):cn X (.builtin "all") (Cz K):=h ▸ BX hc
theorem lB (hc:X.calm=true):cn X (.builtin "sum") (AE K):=h ▸ BZ hc
theorem dj:cn X (.type "list") (u9 K):=h ▸ zW
theorem oO:cn X (.type "tuple") (uq K):=h ▸ xt
theorem cf:SlR X (AD K):=h ▸ A7
theorem vm:SlR X (ym K):=h ▸ A9
theorem bB {e:Expr} {ta:TE} {f:Str} {pos:Pos} (he:PE X e ta) (hb:attributeBase e f X.env (eval e X.env)=eval e X.env):PE X (.Attribute e f pos) (De K ta f):=h ▸ Cp he hb
end
theorem c6 {zs:List Int} {k:Nat}:gp (zs.map V.int) (some (k:Int)) none=(zs.drop k).map V.int:=by
 unfold gp;rw [HT.mM,HT.lK,List.length_map];rcases Nat.le_total k zs.length with h | h
 ·rw [Nat.min_eq_left h,← List.map_drop,List.take_of_length_le (by rw [List.length_map,List.length_drop]; omega)]
 ·rw [Nat.min_eq_right h,List.drop_eq_nil_of_le h,Nat.sub_self,List.take_zero]; rfl
theorem getD_mem {α:Type} {zs:List α} {k:Nat} {d:α} (h:k<zs.length):zs.getD k d∈zs:=by
 rw [List.getD_eq_getElem?_getD,List.getElem?_eq_getElem h];exact List.getElem_mem h
theorem jL {X:Cx} (K:W.Frag) (hK:X.K=K) {es:List Expr} {k:Nat} {t:TGs} {n:Nat} {pos:Pos} (hc:X.calm=true) (h:PGs X es t)
  (hn:(assignEach es X.env).length=n:=by rfl) (hst:(assignEach es X.env).findIdx? (·.1)=none:=by rfl):PG X (.Tuple es k pos) (xN K n t):=hK ▸ Ct hc h hn hst
theorem ph {H:Hp}:∀ (ns:List Int),RepL H (ns.map PyData.int) (ns.map V.int)
 | []=>by simp only [List.map_nil,RepL]
 | n::r=>by
  simp only [List.map_cons,RepL,Rep];exact ⟨_,_,rfl,rfl,ph r⟩
theorem fY {H:Hp} {a:Addr} {ns:List Int} (h:H a=some (.lst (ns.map V.int))):Rep H (.list (ns.map PyData.int)) (.ref a):=by
 simp only [Rep];exact ⟨a,_,rfl,h,ph ns⟩
theorem rX:∀ ns ms:List Int,PyData.eqvAll (ns.map PyData.int) (ms.map PyData.int)=decide (ns=ms)
 | [],[]=>by simp [PyData.eqvAll]
 | [],_::_=>by simp [PyData.eqvAll]
 | _::_,[]=>by simp [PyData.eqvAll]
 | a::r,b::u=>by
  simp only [List.map_cons,PyData.eqvAll,PyData.eqv,rX r u];by_cases h:a=b<;>by_cases h':r=u<;>simp [h,h']
theorem o9 {H:Hp} {Q:VK} {a b:Addr} {ns ms:List Int} (ha:H a=some (.lst (ns.map V.int))) (hb:H b=some (.lst (ms.map V.int))) (q:Q (.bl (!decide (ns=ms))) H):wq true (.ref a) (.ref b) H Q :=
 ⟨_,_,fY ha,fY hb,W.ke_shaped_ints _,W.ke_shaped_ints _,by
  have e:PyData.eqv (.list (ns.map PyData.int)) (.list (ms.map PyData.int))=decide (ns=ms):=by simp only [PyData.eqv]; exact rX ns ms
  rw [e]; exact q⟩
theorem il {H:Hp}:∀ {ds:List PyData} {xs:List V},RepL H ds xs→ds.length=xs.length∧∀ (i:Nat) x,xs[i]?=some x→∃ d,ds[i]?=some d∧Rep H d x
 | [],xs,h=>by simp only [RepL] at h; subst h; exact ⟨rfl,fun i x e=>by simp at e⟩
 | d::ds,xs,h=>by
  simp only [RepL] at h;obtain ⟨x,r,rfl,h1,h2⟩:=h;obtain ⟨l,g⟩:=il h2;refine ⟨by simp [l],fun i y e=>?_⟩
  cases i with
  | zero => simp at e; subst e; exact ⟨d, rfl, h1⟩
  | succ i => exact g i y (by simpa using e)
theorem vJ {K:W.Frag} {σ:St} {H:Hp} {Q:VK} {te:TE} {l a b:Addr} {xs ys:List V} (F:Nat→V) (hx:H a=some (.lst xs)) (hy:H b=some (.lst ys)) (he:xs.length=ys.length) (hz:xs.length≤1000) (hl:H l=none)
  (step:∀ (i:Nat) x y H' (Q':VK),xs[i]?=some x→ys[i]?=some y→ai H H'→(∀ H5,ai H' H5→Q' (F i) H5)→te [some x,some y] H' Q')
  (fin:∀ H',ai H H'→H' l=some (.lst ((List.range xs.length).map F))→Q (.ref l) H'):jC (Itz K a b) (xN K 2 (oU (eW 0) (oU (eW 1) Ae))) j0 te [none,none] l σ H Q:=by
 refine ⟨xs.length,fun i zs σ' H'=>zs=(List.range i).map F∧(∃ o o',σ'=[o,o'])∧ai H H'∧H' l=some (.lst zs),⟨rfl,⟨none,none,rfl⟩,ai.new hl,ae⟩,?_,?_⟩
 ·rintro i zs σ' H' hi ⟨rfl,⟨o,o',rfl⟩,s,e⟩;refine ⟨⟨xs,ys,xs[i],ys[i]'(by omega),SqL.of (s _ _ hx),SqL.of (s _ _ hy),by simp [hi],by simp⟩,fun v H2 z=>?_⟩;obtain ⟨T,rfl,hT,z⟩:=z;obtain ⟨x,y,ex,ey,rfl⟩:=z xs ys (SqL.of (s _ _ hx)) (SqL.of (s _ _ hy));have sT:=ai.new (o:=HO.tup [x,y]) hT;refine iU ae rfl (ic (dR (ic (dR (qu (fH (pR ?_)))))));refine step i x y _ _ ex ey (s.trans sT) fun H5 s5=>⟨s5 _ _ (sT _ _ e),?_,?_⟩
  ·rw [List.length_map,List.length_range];exact aP (by omega)
  ·refine ⟨?_,⟨_,_,rfl⟩,((s.trans sT).trans s5).later hl,ae⟩;rw [List.range_succ,List.map_append];rfl
 ·rintro zs σ' H' ⟨rfl,_,s,e⟩;exact ⟨⟨xs,ys,SqL.of (s _ _ hx),SqL.of (s _ _ hy),.inl (Nat.le_refl _)⟩,fin H' s e⟩
end L2
set_option maxHeartbeats 4000000
namespace L2
open PySem
inductive DS {α:Type}:Sem α→Prop
 | pure (a:α):DS (.pure a)
 | raise (e:Value):DS (.raise e)
 | unsup (w:String):DS (.unsupported w)
 | fin (e:Ending):DS (.finish e)
 | rule {t:String} {k:Unit→Sem α}:DS (k ())→DS (.rule t k)
 | here {p:Pos} {k:Unit→Sem α}:DS (k ())→DS (.at p k)
 | load {a:Addr} {p:Option Value} {k:Obj→Sem α}:(∀ o,DS (k o))→DS (.load a p k)
 | upd {a:Addr} {p:Option Value} {f:Obj→Obj} {k:Unit→Sem α}:(∀ o,(f o).dict=o.dict∧(f o).isFreed=o.isFreed)→DS (k ())→DS (.update a p f k)
 | alloc {o:Obj} {k:Addr→Sem α}:(∀ n,DS (k n))→DS (.alloc o k)
 | point {l:List Value} {k:Unit→Sem α}:DS (k ())→DS (.point l k)
 | fresh {k:Tok→Sem α}:(∀ n,DS (k n))→DS (.fresh k)
 | ask {k:Setting→Sem α}:(∀ n,DS (k n))→DS (.ask k)
 | stack {k:List (Code×Pos)→Sem α}:(∀ n,DS (k n))→DS (.stack k)
theorem DS.andThen {α β:Type} {m:Sem α} {f:α→Sem β} (h:DS m) (g:∀ a,DS (f a)):DS (m >>= f):=by
 show DS (Sem.bind m f)
 induction h with
 | pure a=>rw [Sem.bind]; exact g a
 | raise e=>rw [Sem.bind]; exact .raise e
 | unsup w=>rw [Sem.bind]; exact .unsup w
 | fin e=>rw [Sem.bind]; exact .fin e
 | rule _ ih=>rw [Sem.bind]; exact .rule ih
 | here _ ih=>rw [Sem.bind]; exact .here ih
 | load _ ih=>rw [Sem.bind]; exact .load ih
 | upd z _ ih=>rw [Sem.bind]; exact .upd z ih
 | alloc _ ih=>rw [Sem.bind]; exact .alloc ih
 | point _ ih=>rw [Sem.bind]; exact .point ih
 | fresh _ ih=>rw [Sem.bind]; exact .fresh ih
 | ask _ ih=>rw [Sem.bind]; exact .ask ih
 | stack _ ih=>rw [Sem.bind]; exact .stack ih
def pE (e:Addr) (dx:Option Addr) (h:Heap):Prop:=∃ o,h.get? e=some o∧o.dict=dx
theorem pE.upd {e a:Addr} {dx:Option Addr} {h:Heap} {f:Obj→Obj} (x:pE e dx h) (z:∀ o,(f o).dict=o.dict∧(f o).isFreed=o.isFreed):pE e dx (h.update a f):=by
 obtain ⟨o,h1,h2⟩:=x;by_cases q:a=e
 ·subst q;have fr:o.isFreed=false:=(Heap.get?_some_iff.mp h1).2;exact ⟨_,Heap.get?_update_self f h1 (by rw [(z o).2]; exact fr),by rw [(z o).1]; exact h2⟩
 ·exact ⟨o,by rw [Heap.get?_update_other h f q]; exact h1,h2⟩
theorem DS.run {α:Type} {M:Model} {Γ:Ctx} {m:Sem α} {Q:α→Pos→Shared→Prop} {E:Value→Pos→Shared→Prop} {p:Pos} {s:Shared} {e:Addr} {dx:Option Addr} (h:DS m) (w:Sem.wp M Γ m Q E p s) (x:pE e dx s.heap) :
  Sem.wp M Γ m (fun a p s'=>Q a p s'∧pE e dx s'.heap) (fun v p s'=>E v p s'∧pE e dx s'.heap) p s:=by
 induction h generalizing p s with
 | pure a=>rw [Sem.wp] at w ⊢; exact ⟨w,x⟩
 | raise v=>rw [Sem.wp] at w ⊢; exact ⟨w,x⟩
 | unsup q=>rw [Sem.wp] at w; exact w.elim
 | fin q=>rw [Sem.wp] at w; exact w.elim
 | rule _ ih=>rw [Sem.wp] at w ⊢; exact ih w x
 | here _ ih=>rw [Sem.wp] at w ⊢; exact ih w x
 | load _ ih=>rw [Sem.wp] at w ⊢; obtain ⟨o,h1,h2⟩:=w; exact ⟨o,h1,ih o h2 x⟩
 | upd z _ ih=>rw [Sem.wp] at w ⊢; exact ⟨w.1,ih w.2 (x.upd z)⟩
 | alloc _ ih=>rw [Sem.wp] at w ⊢; exact ih _ w (let ⟨o,h1,h2⟩:=x; ⟨o,Heap.get?_push_of_some _ h1,h2⟩)
 | point _ ih=>rw [Sem.wp] at w ⊢; exact ih w x
 | fresh _ ih=>rw [Sem.wp] at w ⊢; exact ih _ w x
 | ask _ ih=>rw [Sem.wp] at w ⊢; exact ih _ w x
 | stack _ ih=>rw [Sem.wp] at w ⊢; exact ih _ w x
theorem DS.any {α:Type} {M:Model} {A:Around} {m:Sem α} {Q:α→Shared→Prop} {E:Value→Shared→Prop} {s:Shared} {e:Addr} {dx:Option Addr} (h:DS m) (w:wpAny M A m Q E s) (x:pE e dx s.heap) :
  wpAny M A m (fun a s'=>Q a s'∧pE e dx s'.heap) E s:=fun Γ p hΓ =>
 Sem.wp_mono M Γ m (fun _ _ _ z=>z) (fun _ _ _ z=>z.1) p s (h.run (w Γ p hΓ) x)
theorem gV {α:Type} {c:Prop} [Decidable c] {a b:Sem α} (h1:DS a) (h2:DS b):DS (if c then a else b):=by split<;>assumption
theorem jF (v:Value) (i:Nat):DS (field v i):=by
 unfold field fieldsOf;refine DS.andThen ?_ fun vs=>?_
 ·cases v with
  | ref a =>
   refine DS.andThen (.load fun o=>.pure o) fun o=>?_
   cases o.data<;>first | exact .pure _ | exact .unsup _
  | _ => exact .unsup _
 ·cases vs[i]?<;>first | exact .pure _ | exact .unsup _
theorem pO (f:Array Value→Array Value) (o:Obj):(Obj.mapFields f o).dict=o.dict∧(Obj.mapFields f o).isFreed=o.isFreed:=by
 obtain ⟨c,d,dt,sl⟩:=o
 cases dt<;>exact ⟨rfl,rfl⟩
theorem gW (v:Value) (i:Nat) (x:Value):DS (setField v i x):=by
 unfold setField
 cases v with
 | ref a =>
  unfold updateField;refine DS.andThen (.load fun o=>.pure o) fun o=>?_
  cases o.data with
  | fields vs => exact gV (.upd (pO _) (.pure ())) (.unsup _)
  | _ => exact .unsup _
 | _=>exact .unsup _
theorem gq (e:Value) (f:Option Addr):DS (setFlight e f):=by
 unfold setFlight;exact DS.andThen (jF _ _) fun tb=>gV (gW _ _ _) (.pure _)
theorem zZ (env:Env) (b:Bool) (l:List Env):DS (keptBack env b l):=by
 cases l with
 | nil =>
  unfold keptBack underTheClaimsCaller;refine gV (.pure _) (DS.andThen (DS.andThen (.stack fun n=>.pure n) fun _=>.pure _) fun q=>.pure _)
 | cons c r=>unfold keptBack; exact .pure _
theorem vN (env:Env) (l:List Env):DS (behindIsImport env l):=by
 unfold behindIsImport;exact gV (.pure _) (gV (.pure _) (DS.andThen (jF _ _) fun _=>.pure _))
theorem rW:∀ l:List Env,DS (readyFrames l)
 | []=>by unfold readyFrames; exact .pure _
 | env::r=>by
  unfold readyFrames
  cases env.frame with
  | none => exact .unsup _
  | some f =>
   refine DS.andThen (.load fun o=>.pure o) fun o=>gV (.pure _) ?_;refine DS.andThen (vN _ _) fun b=>DS.andThen (zZ _ _ _) fun v=>DS.andThen (.upd (fun o=>⟨rfl,by obtain ⟨c,d,dt,sl⟩:=o; cases dt<;>rfl⟩) (.pure ())) fun _=>rW r
theorem tV (env:Env):DS (frameOf env):=by
 unfold frameOf frameEnvs;refine DS.andThen (DS.andThen (.stack fun n=>.pure n) fun _=>.pure _) fun l=>DS.andThen ?_ fun o=>?_
 ·generalize l.dropWhile _=l'
  cases l' with
  | nil => unfold frameObject; exact .pure _
  | cons c r => unfold frameObject; exact DS.andThen (rW _) fun _ => .pure _
 ·cases o with
  | none => exact .unsup _
  | some f => exact .pure _
theorem xJ (f:Addr) (b:Bool):DS (entryPlaceOf f b):=by
 unfold entryPlaceOf;refine DS.andThen (.stack fun n=>.pure n) fun l=>?_
 cases l.find? _ with
 | none=>exact .pure _
 | some q=>exact .pure _
theorem rV (a b c d e:Value) (l:List Value):DS (EntryCells.newEntry a b c d e l):=by
 unfold EntryCells.newEntry newFields newObj newObjAsIs;generalize ([a,b,c,d,e]++if l.isEmpty then List.replicate 6 Value.none else l)=vs;dsimp only
 split
 ·exact DS.andThen (.unsup _) fun _=>DS.andThen (.alloc fun n=>.pure n) fun _=>.pure _
 ·exact DS.andThen (.alloc fun n=>.pure n) fun _=>.pure _
theorem jG (e:Value) (env:Env):DS (noteFrame e env):=by
  unfold noteFrame
  cases env.frame with
  | none => exact .unsup _
  | some f =>
    refine DS.andThen (jF _ _) fun hd=>?_;have tail:DS (do
        let a ← frameOf env
        let pl ← entryPlaceOf f (hd != .none)
        let b ← EntryCells.newEntry hd a .none (rawInt f) .none pl
        setField e 1 b):=DS.andThen (tV _) fun _=>DS.andThen (xJ _ _) fun _=>DS.andThen (rV _ _ _ _ _ _) fun _=>gW _ _ _
    refine gV ?_ tail;refine DS.andThen (jF _ _) fun x=>gV (.pure _) (DS.andThen (gW _ _ _) fun _=>tail)
theorem lY (env:Env) (e:Value):DS (leaving env e):=by
 unfold leaving;exact DS.andThen (jG _ _) fun _=>gq _ _
end L2
namespace L2
open PySem PySem.Spec PyProof.Rows
structure Exc (g h:Heap) (H:Hp) (e C:Addr) (xo:Option Addr):Prop where
 tr:h.Traced g e (.ref C)
 ne:g.get? e=none
 he:H e=none
 hT:∀ oe vs T,h.get? e=some oe→oe.data=.fields vs→vs[1]?=some (.ref T)→H T=none
 dc:∀ dx,xo=some dx→pE e (some dx) h
def CX1 (P:Program) (w:World):CXT:=fun outer H s E x s'=>∃ (e C:Addr) (xo:Option Addr) (H':Hp),x=.ref e∧s'.os=s.os∧AllBare s'.gens∧Un (frs outer) [] H H' s.heap s'.heap∧HOk P w H' s'.heap∧Exc s.heap s'.heap H' e C xo∧E (.ref C) xo H'
section
variable {X:Cx} {pins:List (Addr×Obj)} {σ:St} {H:Hp} {s:Shared}
theorem Inv.left {h':Heap} {es:List Addr} (I:Inv X pins σ H s) (hs:X.stack=X.env::X.outer) (he:∀ b∈es,H b=none∧X.s₀.heap.get? b=none)
  (keep:∀ b o,s.heap.get? b=some o→b∉frs X.stack→b∉es→h'.get? b=some o) (slot:∀ b o,s.heap.get? b=some o→b∈frs X.stack→∃ sl,h'.get? b=some { o with slots:=sl }):Un X.fs X.ex X.H₀ H X.s₀.heap h'∧HOk X.prog X.w H h':=by
 have sub:∀ b∈X.fs,b∈frs X.stack:=fun b hb=>by
  rw [hs]; unfold frs; rw [List.filterMap_cons]
  cases X.env.frame with
  | none => exact hb
  | some f => exact List.mem_cons_of_mem _ hb
 have nfr:∀ b u,H b=some u→b∉frs X.stack:=fun b u e z=>by rw [I.stkFree b z] at e; cases e
 have nes:∀ b u,H b=some u→b∉es:=fun b u e z=>by rw [(he b z).1] at e; cases e
 have neL:∀ b o,X.s₀.heap.get? b=some o→b∉X.fs→b∉frs X.stack:=fun b o e hb z=>by
  rcases List.mem_cons.mp (I.stkSub b z) with q | q
  ·exact absurd (Nat.lt_of_lt_of_le (Heap.lt_size e) (q ▸ I.ok.above)) (Nat.lt_irrefl _)
  ·exact hb q
 have ne0:∀ b o,X.s₀.heap.get? b=some o→b∉es:=fun b o e z=>by rw [(he b z).2] at e; cases e
 refine ⟨⟨fun b o e n hb hx=>keep b o (I.base.keep b o e n hb hx) (neL b o e hb) (ne0 b o e),fun b o e n hb hx=>?_,I.base.free,fun b o e hx=>?_,I.base.tups,I.base.frzs,I.base.tbls⟩,fun b u e=>?_⟩
 ·obtain ⟨sl,e1⟩:=I.base.slot b o e n hb hx;obtain ⟨sl',e2⟩:=slot b _ e1 (sub b hb);exact ⟨sl',e2⟩
 ·obtain ⟨o',e1⟩:=I.base.there b o e hx;by_cases hf:b∈frs X.stack
  ·obtain ⟨sl,e2⟩:=slot b o' e1 hf;exact ⟨_,e2⟩
  ·exact ⟨o',keep b o' e1 hf (ne0 b o e)⟩
 ·refine (I.hok b u e).stay (fun c v hc q=>?_) (fun _ q=>q) fun _ _ q=>q;rcases hc with z | z
  ·rw [z] at q ⊢; exact keep b v q (nfr b u e) (nes b u e)
  ·exact keep c v q (nfr c _ z) (nes c _ z)
end
theorem bM.get {P:Program} {w:World} {H:Hp} {h:Heap} {a:Addr} {o:HO} (x:bM P w H h a o):∃ ob,h.get? a=some ob:=by
 cases o with
 | lst xs=>obtain ⟨_,_,_,_,e⟩:=x; exact ⟨_,e⟩
 | tup xs=>obtain ⟨_,_,_,p⟩:=x; obtain ⟨o,e,_⟩:=p; exact ⟨_,e⟩
 | dK kvs=>obtain ⟨_,_,_,_,o,_,_,e,_⟩:=x; exact ⟨_,e⟩
 | dT kvs=>obtain ⟨_,_,_,_,o,_,_,e,_⟩:=x; exact ⟨_,e⟩
 | set S n=>obtain ⟨o,_,_,_,e,_⟩:=x; exact ⟨_,e⟩
 | ins C dx fs=>obtain ⟨_,_,_,e,_⟩:=x; exact ⟨_,e⟩
 | own y=>obtain ⟨_,e⟩:=x; exact ⟨_,e⟩
 | xd fs=>obtain ⟨_,⟨_,_,_,e,_⟩,_⟩:=x; exact ⟨_,e⟩
 | rng lo hi=>obtain ⟨_,_,_,e⟩:=x; exact ⟨_,e⟩
 | frz ob u=>obtain ⟨e,_⟩:=x; exact ⟨_,e⟩
 | tbl ps=>exact ⟨_,(show h.get? a=some _ from x)⟩
 | met f y=>exact ⟨_,(show h.get? a=some _ from x)⟩
 | ext φ=>obtain ⟨_,⟨_,e⟩,_⟩:=x; exact ⟨_,e⟩
theorem HOk.none_of {P:Program} {w:World} {H:Hp} {h:Heap} {a:Addr} (k:HOk P w H h) (e:h.get? a=none):H a=none:=by
 cases q:H a with
 | none=>rfl
 | some o=>obtain ⟨_,z⟩:=(k a o q).get; rw [e] at z; cases z
section
variable {P:Program} {w:World} {K:W.Frag} {mg:Str→Option Value} {base:Heap} {N:List Str} {qual:Str} {scope:Scope} {f:Addr} {cd:Value} {A:Around} {outer:List Env} {s₀:Shared} {H₀:Hp} {E:XK} {pins:List (Addr×Obj)} {σ:St} {H:Hp} {s:Shared}
theorem nq {l:List Env} {as:List Addr} (h:∀ b∈frs l,b∈as):∀ env∈l,∀ a,env.frame=some a→a∈as:=fun env he a ha=>h a (List.mem_filterMap.mpr ⟨env,he,ha⟩)
theorem vz {e C:Addr} {xo:Option Addr} {oe:Obj} {vs:Array Value} (I1:Inv (eX (CX1 P w) P w K mg base N qual scope f cd A outer s₀ H₀ E) pins σ H s) (he:s.heap.get? e=some oe) (hcl:oe.cls=.ref C) (hda:oe.data=.fields vs) (h1:vs[1]?=some .none)
  (hs0:s₀.heap.get? e=none) (hHe:H e=none) (dc:∀ dx,xo=some dx→oe.dict=some dx) (q:E (.ref C) xo H):(eX (CX1 P w) P w K mg base N qual scope f cd A outer s₀ H₀ E).xe (.ref e) s:=by
 have ff:=I1.stack;have hl:=W.funFrames_hide (as:=e::frs (eX (CX1 P w) P w K mg base N qual scope f cd A outer s₀ H₀ E).stack) ff (nq fun b hb=>List.mem_cons_of_mem _ hb);have fin:=wpAny_leaving_first (M:=model P w) (E:=fun v s'=>CX1 P w outer H₀ s₀ E v s') (base:=W.hideAll s.heap (e::frs (eX (CX1 P w) P w K mg base N qual scope f cd A outer s₀ H₀ E).stack)) (L:=s₀.heap.objs.size) (e:=e) (s:=s) (Q:=fun _ s'=>∃ h2,s'={ s with heap:=h2 }∧Heap.Left (W.hideAll s.heap (e::frs (eX (CX1 P w) P w K mg base N qual scope f cd A outer s₀ H₀ E).stack)) (envOfC qual scope s₀.heap.objs.size f cd::outer) e oe.cls s.heap h2) I1.ok.frames hl rfl he (fun b o z=>W.of_hideAll _ z) (W.hideAll_none _ List.mem_cons_self) hda h1 fun h2 lf=>⟨h2,rfl,lf⟩
 refine wpAny_mono (DS.any (lY _ _) fin ⟨oe,he,rfl⟩) (fun _ s' ⟨⟨h2,e2,lf⟩,hd2⟩=>?_) fun _ _ z=>z;subst e2;obtain ⟨st,ff2,tr,up⟩:=lf;have lf:=I1.left (h':=h2) (es:=[e]) rfl (fun b hb=>by rw [List.mem_singleton.mp hb]; exact ⟨hHe,hs0⟩) (fun b o z nf ne=>st b o (W.hideAll_get _ z (by intro m; rcases List.mem_cons.mp m with r | r; exact ne (by simp [r]); exact nf r)))
  (fun b o z hb=>by
   obtain ⟨_,o',z',hd⟩:=ff.mem hb;rw [z] at z'; cases z';exact up b o z hd)
 obtain ⟨oe',ws,T,oT,ts,g1,g2,g3,g4,g5,g6,g7,g8,g9⟩:=tr;have nT:T∉frs (eX (CX1 P w) P w K mg base N qual scope f cd A outer s₀ H₀ E).stack:=fun z=>by
  obtain ⟨_,o,zo,hd⟩:=ff2.mem z;rw [g7] at zo; cases zo;exact hd ts g8
 have key:∀ o,s.heap.get? T=some o→False:=fun o z=>by
  rw [W.hideAll_get _ z (by intro m; rcases List.mem_cons.mp m with r | r; exact g6 r; exact nT r)] at g5
  cases g5
 have hT0:s₀.heap.get? T=none:=by
  cases z:s₀.heap.get? T with
  | none => rfl
  | some o => obtain ⟨o', z'⟩ := I1.base.there T o z (by intro q; cases q); exact (key o' z').elim
 have hHT:H T=none:=by
  cases z:H T with
  | none => rfl
  | some o => obtain ⟨o', z'⟩ := (I1.hok T o z).get; exact (key o' z').elim
 refine ⟨e,C,xo,H,rfl,I1.os,I1.bare,lf.1,lf.2,⟨⟨oe',ws,T,oT,ts,g1,g2.trans hcl,g3,g4,hT0,g6,g7,g8,g9⟩,hs0,hHe,fun oe2 vs' T' z1 z2 z3=>?_,fun dx z=>by rw [dc dx z] at hd2; exact hd2⟩,q⟩;rw [g1] at z1; cases z1;rw [g3] at z2; cases z2;rw [g4] at z3; cases z3;exact hHT
theorem dE {h':Heap} {t':Nat} {e C:Addr} {vs:List Value} (I:Inv (eX (CX1 P w) P w K mg base N qual scope f cd A outer s₀ H₀ E) pins σ H s) (hx:Heap.MadeExcOf s.heap h' e (.ref C) vs) (q:E (.ref C) none H) :
  (eX (CX1 P w) P w K mg base N qual scope f cd A outer s₀ H₀ E).xe (.ref e) { s with heap:=h',toks:=t' }:=by
 have I1:=I.kept (t':=t') hx.keeps;obtain ⟨t,he,ht,_⟩:=hx.there
 have hs0:s₀.heap.get? e=none:=by
  cases z:s₀.heap.get? e with
  | none => rfl
  | some o => obtain ⟨o', z'⟩ := I.base.there e o z (by intro q; cases q); rw [hx.new] at z'; cases z'
 exact vz I1 he rfl rfl rfl hs0 (I.hok.none_of hx.new) (fun _ z=>by cases z) q
theorem aN:fL (CX1 P w) (eX (CX1 P w) P w K mg base N qual scope f cd A outer s₀ H₀ E) E:=by
  intro pins σ H s x s' I h;obtain ⟨e,C,xo,H',rfl,os,bare,un,hok,ex,q⟩:=h;have J:=I.call' (s':=s') (ch:=[]) os un hok bare (fun b hb=>by cases hb);obtain ⟨⟨oe,ws,T,oT,ts,g1,g2,g3,g4,g5,g6,g7,g8,g9⟩,ne,hHe,hHT,dc⟩:=ex;have hHT:=hHT oe ws T g1 g3 g4;have s0:∀ {b:Addr},s.heap.get? b=none→s₀.heap.get? b=none:=fun {b} hb=>by
    cases z:s₀.heap.get? b with
    | none=>rfl
    | some o=>obtain ⟨o',z'⟩:=I.base.there b o z (by intro q; cases q); rw [hb] at z'; cases z'
  have ff:=J.stack;have hl:=W.funFrames_hide (as:=e::T::frs (eX (CX1 P w) P w K mg base N qual scope f cd A outer s₀ H₀ E).stack) ff (nq fun b hb=>List.mem_cons_of_mem _ (List.mem_cons_of_mem _ hb));have fin:=wpAny_leaving_next (M:=model P w) (E:=fun v s'=>CX1 P w outer H₀ s₀ E v s') (base:=W.hideAll s'.heap (e::T::frs (eX (CX1 P w) P w K mg base N qual scope f cd A outer s₀ H₀ E).stack)) (L:=s₀.heap.objs.size) (e:=e) (s:=s') (Q:=fun _ s2=>∃ h2,s2={ s' with heap:=h2 }∧Heap.Left (W.hideAll s'.heap (e::T::frs (eX (CX1 P w) P w K mg base N qual scope f cd A outer s₀ H₀ E).stack)) (envOfC qual scope s₀.heap.objs.size f cd::outer) e (.ref C) s'.heap h2) J.ok.frames hl rfl
    ⟨oe,ws,T,oT,ts,g1,g2,g3,g4,W.hideAll_none _ (List.mem_cons_of_mem _ List.mem_cons_self),g6,g7,g8,g9⟩ (fun b o z=>W.of_hideAll _ z) (W.hideAll_none _ List.mem_cons_self) fun h2 lf=>⟨h2,rfl,lf⟩
  refine wpAny_mono (DS.any (lY _ _) fin ⟨oe,g1,rfl⟩) (fun _ s2 ⟨⟨h2,e2,lf⟩,hd2⟩=>?_) fun _ _ z=>z;subst e2;obtain ⟨st,ff2,tr,up⟩:=lf;have lf:=J.left (h':=h2) (es:=[e,T]) rfl (fun b hb=>by
      simp only [List.mem_cons,List.not_mem_nil,or_false] at hb;rcases hb with rfl | rfl
      · exact ⟨hHe,s0 ne⟩
      · exact ⟨hHT,s0 g5⟩) (fun b o z nf ne=>st b o (W.hideAll_get _ z (by
        intro m;rcases List.mem_cons.mp m with r | m
        · exact ne (by simp [r])
        · rcases List.mem_cons.mp m with r | r
          · exact ne (by simp [r])
          · exact nf r)))
      (fun b o z hb=>by
        obtain ⟨_,o',z',hd⟩:=ff.mem hb;rw [z] at z'; cases z';exact up b o z hd)
  obtain ⟨oe2,ws2,T2,oT2,ts2,k1,k2,k3,k4,k5,k6,k7,k8,k9⟩:=tr;have nT:T2∉frs (eX (CX1 P w) P w K mg base N qual scope f cd A outer s₀ H₀ E).stack:=fun z=>by
    obtain ⟨_,o,zo,hd⟩:=ff2.mem z;rw [k7] at zo; cases zo;exact hd ts2 k8
  have hT0:s₀.heap.get? T2=none∧H' T2=none:=by
    by_cases r:T2=T
    · subst r; exact ⟨s0 g5,hHT⟩
    · have key:∀ o,s'.heap.get? T2=some o→False:=fun o z=>by
        rw [W.hideAll_get _ z (by
          intro m;rcases List.mem_cons.mp m with q | m
          · exact k6 q
          · rcases List.mem_cons.mp m with q | q
            · exact r q
            · exact nT q)] at k5
        cases k5
      constructor
      · cases z:s₀.heap.get? T2 with
        | none=>rfl
        | some o=>obtain ⟨o',z'⟩:=J.base.there T2 o z (by intro q; cases q); exact (key o' z').elim
      · cases z:H' T2 with
        | none=>rfl
        | some o=>obtain ⟨o',z'⟩:=(J.hok T2 o z).get; exact (key o' z').elim
  refine ⟨e,C,xo,H',rfl,J.os,J.bare,lf.1,lf.2,⟨⟨oe2,ws2,T2,oT2,ts2,k1,k2,k3,k4,hT0.1,k6,k7,k8,k9⟩,s0 ne,hHe,fun oe' vs' T' z1 z2 z3=>?_,fun dx z=>by
      obtain ⟨o,y1,y2⟩:=dc dx z;rw [g1] at y1; cases y1;rw [y2] at hd2; exact hd2⟩,q⟩
  rw [k1] at z1; cases z1;rw [k3] at z2; cases z2;rw [k4] at z3; cases z3;exact hT0.2
end
def uI (C:Addr) (E:XK) (t:TA):TS:=fun _ σ H=>t σ H fun vs H1=>vs.length≤sizeLine∧E (.ref C) none H1
theorem yi {X:Cx} {E:XK} {x:Str} {C:Addr} {B newId initId:String} {bm:List Value} {np cpos pos:Pos} {e:Expr} {es:List Expr} {t:TA} (O:OwnCls x C bm newId X.mg X.base) (FB:ExcBaseFacts B newId initId bm) (hc:X.calm=true) (hg:Gl X x)
  (hx:∀ (pins:List (Addr×Obj)) (σ:St) (H:Hp) (s:Shared) (h':Heap) (t':Nat) (e:Addr) (vs:List Value),Inv X pins σ H s→Heap.MadeExcOf s.heap h' e (.ref C) vs→E (.ref C) none H→X.xe (.ref e) { s with heap:=h',toks:=t' })
  (ha:PA X (e::es) t) (hd:(x==("__debug__":Str))=false:=by decide) (he:starEach (e::es) X.env=(false,eval e X.env)::starEach es X.env:=by rfl) (hpl:(backTo cpos (starEach es X.env)).any (·.1)=false:=by rfl) :
  PS X (.Raise (some (.Call (.Name x np) (e::es) [] cpos)) none pos) (uI C E t):=by
 intro pins s σ H D I h;obtain ⟨tl,N,nm,q,bs,hdct,sn,sub,ab,col,dd,k0,k1,k2,k3,k5,mN,hC,hN,hni,T⟩:=O.obj;refine wpAny_Raise_call_subT (C:=C) (nm:=nm) (q:=q) (N:=N) (bs:=bs) (bm:=tl) (hdct:=hdct) (sn:=sn) (sub:=sub) (ab:=ab) (col:=col) (dd:=dd) (k0:=k0) (k1:=k1) (k2:=k2) (k3:=k3) (k5:=k5)
  FB (mN:=mN) (T.hasType FB.hasBase) (I.ok.hd hc) (by rw [he]; show (false||(backTo cpos (starEach es X.env)).any (·.1))=false; rw [hpl]; rfl) hni (fc I hg O.bound ⟨rfl,?_⟩ hd)
 have h1:=ha cpos pins s σ H _ I h;rw [he] at h1 ⊢;refine Calls.evalArgs_plain (wpAny_mono h1 (fun us s2 ⟨vs,H2,I2,r2,hl,hE⟩=>⟨rfl,by show us.length≤sizeLine; rw [← r2.length]; exact hl,I2.bk _ _ hC,hN.keeps I2.bk,T.keeps I2.bk,fun h' a mk=>?_⟩) fun _ _ y=>y);exact hx pins σ H2 s2 h' s2.toks a us I2 mk hE
section
variable {P:Program} {w:World} {K:W.Frag} {mg:Str→Option Value} {base:Heap}
theorem Fun.ok1 {x qual:Str} {st:Stmt} {f:Addr} {fd:FuncData} {N ps:List Str} {k:Nat} {sp:Sp} (F:Fun K x qual st f fd) (S:aE N ps (ao st)) (len:∀ vs H Q E,sp vs H Q E→vs.length=ps.length)
  (hbody:∀ (cdv:Value) (A:Around) (outer:List Env) (s:Shared) (H:Hp) (vs:List V) (Q:VK) (E:XK),cS k (A.deeper (envOfC qual (ao st) s.heap.objs.size f cdv))→sp vs H Q E →
   ∃ t,PSs (eX (CX1 P w) P w K mg base N qual (ao st) f cdv A outer s H E) (c7 st) t∧t { nx:=fun _ H'=>Q .non H',rt:=Q } (gg N vs) H):aU P w K mg base (CX1 P w) (k+1) f fd ps sp:=by
 obtain ⟨oc,od,kV,doc,pm,an,cdv,ct,osl,rfl,lk,hcd⟩:=F.ex;exact Bl lk hcd S len fun A outer s H vs Q E hr hsp=>hbody cdv A outer s H vs Q E hr hsp
theorem aU.up {k:Nat} {f:Addr} {fd:FuncData} {ps:List Str} {sp:Sp} (F:aU P w K mg base CX0 k f fd ps sp):aU P w K mg base (CX1 P w) k f fd ps sp :=
 ⟨F.len,fun A outer s H args us vs Q E hr e0 hb hv hs=>codeAny_mono (F.run A outer s H args us vs Q E hr e0 hb hv hs) fun r s' h=>by
  cases r with
  | error e => exact False.elim h
  | ok fl => cases fl <;> exact h⟩
end
end L2
namespace L2
open PySem PySem.Spec PyProof.Rows PySem.W Builtin Builtin.ObjectAttr Builtin.Getset_descriptor
section
variable {prog:Program} {w:World} {A:Around} {E:Value→Shared→Prop} {s:Shared} {K:W.Frag} {x C:Addr} {R:Result→Shared→Prop}
theorem zX {tp:Value} (X:K.In s.heap) (LT:Looks (model prog w) s.heap (typeOf (.ref x)) (.ref C)) (hm:mroIn K C (.type "object")=some true)
  (h:R (.ok (.ret (.ref C))) s):codeAny (model prog w) A (.call (.builtin "getset_descriptor.__get__") ⟨[.builtin "object.__class__",.ref x,tp],[]⟩) R s:=by
 have L1:=looks_mroIn (M:=model prog w) X hm; obtain ⟨hh,g,dr,t,os⟩:=s;refine codeAny_call_builtin KF.slot_gs.plain KF.entry_gs (KF.slot_gs.check _ _ _ _ _ _ _ _ KF.type_class (KF.args_gs _ _ _) ?_); unfold Builtin.«getset_descriptor.__get__» descrGet; rw [dga_obj];refine wpAny_bind (wpAny_pure ?_); unfold descrGetter descrCheckInstance descrNameAndClass isInstance; simp only [KF.owner_class]
 repeat lk
 refine ⟨Code.quiet_builtin _ (by decide +kernel),codeAny_builtin KF.entry_class ?_⟩; unfold Builtin.«object.__class__» shownTypeOf
 repeat lk
 exact h
theorem vO {Q:Option Value→Shared→Prop} (X:K.In s.heap) (LT:Looks (model prog w) s.heap (typeOf (.ref x)) (.ref C))
  (hga:findIn K (.ref C) "__getattribute__"=some (some (.builtin "BaseException.__getattribute__"))) (hgt:findIn K (.ref C) "__getattr__"=some none)
  (ha:findIn K (.ref C) "__class__"=some (some (.builtin "object.__class__"))) (hn:specialIn K (.builtin "object.__class__") "__get__"=some (some (.builtin "getset_descriptor.__get__"))) (htk:takesIn K (.builtin "object.__class__")=some true)
  (hm:mroIn K C (.type "object")=some true) (hb:mroIn K C (.type "BaseException")=some true)
  (h:Q (some (.ref C)) { s with toks:=s.toks+1 }):wpAny (model prog w) A (getAttr? (.ref x) "__class__") Q E s:=by
 obtain ⟨hh,g,d,t,os⟩:=s;have L1:=looks_findIn (M:=model prog w) X hga;have L2:=looks_findIn (M:=model prog w) X hgt;have L3:=looks_mroIn (M:=model prog w) X hb
 have L4:Looks (model prog w) hh (find (.ref x) (.ref C) "__class__") (.bind (.builtin "getset_descriptor.__get__") (.builtin "object.__class__")):=by
  have a1:=looks_findIn (M:=model prog w) X ha;have a2:Looks (model prog w) hh (getOf (some (.builtin "object.__class__"))) (some (.builtin "getset_descriptor.__get__")):=looks_specialIn X hn;have a3:=looks_takesIn (M:=model prog w) X htk;refine a1.andThen (a2.andThen ?_);have a4:Looks (model prog w) hh (dataDescriptor? (some (.builtin "object.__class__")) (some (.builtin "getset_descriptor.__get__"))) (some (.builtin "getset_descriptor.__get__",.builtin "object.__class__")):=a3.andThen .now;exact a4.andThen (Looks.tag .now)
 have f3:=(F.attrBase_ValueError).ga.bind (.ref x);unfold getAttr? getAttrBy? getAttrBy;refine wpAny_bind (wpAny_mkText (wpAny_bind (wpAny_attempt (wpAny_holding (wpAny_bind (LT.at (wpAny_bind (L1.at ?_))))))))
 show wpAny _ _ (getAttrByItsOwn _ _ _ _ _ _) _ _ _
 unfold getAttrByItsOwn hookBefore;refine wpAny_bind (L2.at ?_);refine wpAny_bind (wpAny_attempt (wpAny_holding ?_))
 show wpAny _ _ (boundAndCalled _ _ _) _ _ _
 unfold boundAndCalled;rw [f3];refine wpAny_bind (wpAny_pure (wpAny_call ?_));have hk:builtinKind "BaseException.__getattribute__"=some .slot:=(by decide +kernel); have hsplit:splitId "BaseException.__getattribute__"=some ("BaseException","__getattribute__"):=by decide +kernel
 refine codeAny_call_builtin (F.attrBase_ValueError).ga.plain F.entry_bexc_ga ?_;have ha:=F.args_bexc_ga (.ref x) (.str "__class__" t);simp only [checkBuiltinCall,hk,hsplit]; refine wpAny_bind ?_;unfold isInstance;refine wpAny_bind (LT.at (L3.at ?_));simp only [Bool.not_true,Bool.false_eq_true,if_false]; refine wpAny_of_eq (a:=()) ha ?_;unfold Builtin.«object.__getattribute__»
 repeat (first | with_reducible refine wpAny_call (zX X LT hm ?_) | lk)
 exact h
end
end L2
namespace L2
open PySem PySem.Spec PyProof.Rows
structure fi (K:W.Frag) (C:Addr):Prop where
 ga:W.findIn K (.ref C) "__getattribute__"=some (some (.builtin "BaseException.__getattribute__"))
 gt:W.findIn K (.ref C) "__getattr__"=some none
 cl:W.findIn K (.ref C) "__class__"=some (some (.builtin "object.__class__"))
 gs:W.specialIn K (.builtin "object.__class__") "__get__"=some (some (.builtin "getset_descriptor.__get__"))
 tk:W.takesIn K (.builtin "object.__class__")=some true
 mo:W.mroIn K C (.type "object")=some true
 mb:W.mroIn K C (.type "BaseException")=some true
theorem fi.cls {K:W.Frag} {C:Addr} (e:fi K C):∃ cd,W.clsIn K C=some cd:=by
 obtain ⟨cd,hc,_⟩:=Option.bind_eq_some_iff.mp e.mo;exact ⟨cd,hc⟩
def gS (e C:Addr) (h:Heap):Prop:=∃ o,h.get? e=some o∧o.cls=.ref C
theorem gS.looks {e C:Addr} {h:Heap} {M:Model} (p:gS e C h):PySem.W.Looks M h (typeOf (.ref e)) (.ref C):=by
 obtain ⟨o,h1,h2⟩:=p;rw [← h2]; exact (PySem.W.Looks.ld h1).andThen .now
def lP (e C:Addr) (xo:Option Addr) (h:Heap):Prop:=∃ o vs,h.get? e=some o∧o.cls=.ref C∧o.data=.fields vs∧∀ dx,xo=some dx→o.dict=some dx
theorem lP.at {e C:Addr} {xo:Option Addr} {h:Heap} (p:lP e C xo h):gS e C h:=let ⟨o,_,h1,h2,_⟩:=p; ⟨o,h1,h2⟩
def xh (e C:Addr) (xo:Option Addr):HO:=.ext (lP e C xo)
theorem xU {K:W.Frag} {e C:Addr} (x:fi K C):PySem.W.KitX K (.ref e) (.ref C) (gS e C) where
 ty:=fun _ _ _ p=>gS.looks p
 it:=fun _ _ X _=>by
  obtain ⟨cdD,hcD⟩:=x.cls;unfold W.clsIn at hcD
  split at hcD
  ·rename_i ho;intro A' Q' E' s' k q;unfold isType loadHead;exact wpAny_bind (wpAny_loadPart (k _ _ (X _ _ ho)) (wpAny_pure q))
  ·cases hcD
 ne:=fun h tp dd its n sl X htp=>by
  obtain ⟨cdD,hcD⟩:=x.cls;refine Bool.eq_false_iff.mpr fun q=>?_;have z:=Value.ref.inj (beq_iff_eq.mp q);subst z;unfold W.clsIn at hcD
  split at hcD
  ·rename_i ho;have z:=(X _ _ ho).symm.trans htp
   cases z
  ·cases hcD
 ca:=fun X p k=>vO X (gS.looks p) x.ga x.gt x.cl x.gs x.tk x.mo x.mb k
def yj (K:W.Frag):List V→Hp→VK→Prop:=fun xs H Q=>∃ e C xo y c b,xs=[.ref e,y]∧H e=some (xh e C xo)∧fi K C∧bG y c∧W.kitOne K (.ref C) c=some b∧Q (.bl b) H
theorem tS {X:Cx}:cn X (.builtin "isinstance") (yj X.K):=by
 intro pins s σ H xs us Q I r h;obtain ⟨e,C,xo,y,c,b,rfl,he,ex,ry,k,q⟩:=h;obtain ⟨u,v,rfl,ru,rv⟩:=r.two
 cases (show u=Value.ref e from ru)
 have hv:v=c:=by
  cases y with
  | ref a => exact (show v = Value.ref a from rv).trans (show c = Value.ref a from ry).symm
  | ty n => exact (show v = Value.type n from rv).trans (show c = Value.type n from ry).symm
  | non => exact (show v = Value.none from rv).trans (show c = Value.none from ry).symm
  | bl z => exact (show v = Value.bool z from rv).trans (show c = Value.bool z from ry).symm
  | int i => obtain ⟨t, rfl⟩ := ry; simp [W.kitOne, W.kitCls] at k
  | str i => obtain ⟨t, rfl⟩ := ry; simp [W.kitOne, W.kitCls] at k
  | byt i => obtain ⟨t, rfl⟩ := ry; simp [W.kitOne, W.kitCls] at k
  | flt i => obtain ⟨t, rfl⟩ := ry; simp [W.kitOne, W.kitCls] at k
 subst hv;have p:gS e C s.heap:=lP.at (show bM X.prog X.w H s.heap e (.ext (lP e C xo)) from I.hok e _ he).1;exact W.kia_one (xU ex) I.kIn p k (fun z=>nomatch z) fun tk=>⟨.bl b,H,I.tok tk,rfl,q⟩
theorem cL {X:Cx} (K:W.Frag) (h:X.K=K):cn X (.builtin "isinstance") (yj K):=h ▸ tS
theorem fG {K:W.Frag} {H:Hp} {Q:VK} {e C D:Addr} {xo:Option Addr} {b:Bool} (he:H e=some (xh e C xo)) (x:fi K C) (k:W.kitOne K (.ref C) (.ref D)=some b) (q:Q (.bl b) H):yj K [.ref e,.ref D] H Q :=
 ⟨e,C,xo,.ref D,.ref D,b,rfl,he,x,rfl,k,q⟩
section
variable {X:Cx} {pins:List (Addr×Obj)} {σ:St} {H:Hp} {s:Shared}
theorem Inv.held {h':Heap} {es:List Addr} (I:Inv X pins σ H s) (hs:X.stack=X.env::X.outer) (hf:X.env.frame=some X.env.locals)
  (he:∀ b∈es,H b=none∧X.s₀.heap.get? b=none∧(∀ p∈X.pn++pins,p.1≠b)∧∃ o vs,s.heap.get? b=some o∧o.data=.fields vs)
  (keep:∀ b o,s.heap.get? b=some o→b∉frs X.stack→b∉es→h'.get? b=some o) (slot:∀ b o,s.heap.get? b=some o→b∈frs X.stack→∃ sl,h'.get? b=some { o with slots:=sl }):Inv X pins σ H { s with heap:=h' }:=by
 have lf:=I.left hs (fun b hb=>⟨(he b hb).1,(he b hb).2.1⟩) keep slot;have inL:X.env.locals∈frs X.stack:=by rw [hs]; unfold frs; rw [List.filterMap_cons,hf]; exact List.mem_cons_self
 have cellK:∀ c v,s.heap.IsCell c v→h'.IsCell c v:=fun c v ⟨o,ho,hd⟩=>by
  by_cases hb:c∈frs X.stack
  ·obtain ⟨sl,q⟩:=slot c o ho hb;exact ⟨_,q,hd⟩
  ·refine ⟨o,keep c o ho hb fun hm=>?_,hd⟩;obtain ⟨_,_,_,o',vs,ho',hd'⟩:=he c hm;rw [ho] at ho'; cases ho'; rw [hd] at hd'; cases hd'
 refine ⟨I.ok,I.os,I.bare,lf.1,?_,fun x c e=>?_,I.free,I.freeC,fun p hp=>?_,lf.2,I.len⟩
 ·obtain ⟨m,⟨o,es',ep,ho,r⟩,hl⟩:=I.loc;obtain ⟨sl,hL⟩:=slot _ o ho inL;refine ⟨m,⟨_,es',ep,hL,r⟩,fun i x v e1 e2 e3=>?_⟩;obtain ⟨u,ru,l⟩:=hl i x v e1 e2 e3;refine ⟨u,ru,?_⟩;rcases l with l | ⟨k,c,e,z⟩
  ·exact .inl l
  ·exact .inr ⟨k,c,e,cellK c _ z⟩
 ·obtain ⟨v,z⟩:=I.cell x c e;exact ⟨v,cellK c v z⟩
 ·obtain ⟨e,n,ne,nf,d⟩:=I.pin p hp;refine ⟨keep p.1 p.2 e (fun z=>?_) fun z=>(he p.1 z).2.2.1 p hp rfl,n,ne,nf,d⟩;rcases List.mem_cons.mp (I.stkSub p.1 z) with q | q
  ·exact ne q
  ·exact nf q
theorem Inv.track {e:Addr} {φ:Heap→Prop} (I:Inv X pins σ H s) (hH:H e=none) (h0:X.s₀.heap.get? e=none) (hp:∀ p∈X.pn++pins,p.1≠e) (hd:∃ o vs,s.heap.get? e=some o∧o.data=.fields vs)
    (hφ:φ s.heap) (st:∀ h1 h2:Heap,φ h1→(∀ o,h1.get? e=some o→h2.get? e=some o)→φ h2):Inv X pins σ (upd H e (.ext φ)) s:=by
  obtain ⟨oe,vs,ho,hdd⟩:=hd;have ne:∀ b u,H b=some u→b≠e:=fun b u z=>cy z hH;have n0:∀ b o,X.s₀.heap.get? b=some o→b≠e:=fun b o z q=>by rw [q,h0] at z; cases z
  have nH0:∀ b u,X.H₀ b=some u→H b≠none→b≠e:=fun b u _ z q=>z (q ▸ hH);refine ⟨I.ok,I.os,I.bare,⟨I.base.keep,I.base.slot,fun b o z n hx=>?_,I.base.there,fun b xs z=>?_,fun b o u z=>?_,fun b ps z=>?_⟩,I.loc,I.cell,?_,fun x c z=>?_,fun p hp'=>?_,fun b u z=>?_,I.len⟩
  · rw [au (n0 b o z)]; exact I.base.free b o z n hx
  · have q:=I.base.tups b xs z
    rw [au (ne _ _ q)]; exact q
  · have q:=I.base.frzs b o u z
    rw [au (ne _ _ q)]; exact q
  · obtain ⟨m,q⟩:=I.base.tbls b ps z
    exact ⟨m,by rw [au (ne _ _ q)]; exact q⟩
  · have q:X.env.locals≠e:=fun q=>by
      obtain ⟨m,⟨o',es,ep,ho',hd',_⟩,_⟩:=I.loc;rw [q,ho] at ho'; cases ho'; rw [hdd] at hd'; cases hd'
    rw [au q]; exact I.free
  · have q:c≠e:=fun q=>by
      obtain ⟨v,o',ho',hd'⟩:=I.cell x c z;rw [q,ho] at ho'; cases ho'; rw [hdd] at hd'; cases hd'
    rw [au q]; exact I.freeC x c z
  · obtain ⟨a,n,r⟩:=I.pin p hp'
    exact ⟨a,by rw [au (hp p hp')]; exact n,r⟩
  · by_cases q:b=e
    · subst q
      rw [ae] at z
      cases z;exact ⟨hφ,⟨oe,ho⟩,st⟩
    · rw [au q] at z
      refine (I.hok b u z).stay (fun _ _ _ w=>w) (fun c w=>?_) fun c xs w=>?_
      · rw [au (ne _ _ w)]; exact w
      · rw [au (ne _ _ w)]; exact w
end
abbrev Cx.tryIn (X:Cx) (pins:List (Addr×Obj)) (E:Value→Shared→Prop):Cx:={ X with pn:=X.pn++pins,xe:=E }
section
variable {X:Cx} {pins pins':List (Addr×Obj)} {σ:St} {H:Hp} {s:Shared} {E:Value→Shared→Prop}
theorem Cx.Ok.tryIn (ok:X.Ok):(X.tryIn pins E).Ok :=
 ⟨ok.mod,ok.kind,ok.glob,ok.blt,ok.above,ok.inj,ok.has,ok.cab,ok.hd,ok.frames,ok.stk,ok.exf,ok.bs,ok.bsz,ok.noex,ok.exfs,ok.funs,ok.frf⟩
theorem Cx.Ok.tryOut (ok:(X.tryIn pins E).Ok):X.Ok :=
 ⟨ok.mod,ok.kind,ok.glob,ok.blt,ok.above,ok.inj,ok.has,ok.cab,ok.hd,ok.frames,ok.stk,ok.exf,ok.bs,ok.bsz,ok.noex,ok.exfs,ok.funs,ok.frf⟩
theorem Inv.tryIn (I:Inv X pins σ H s) (E:Value→Shared→Prop):Inv (X.tryIn pins E) [] σ H s :=
 ⟨I.ok.tryIn,I.os,I.bare,I.base,I.loc,I.cell,I.free,I.freeC,fun p hp=>I.pin p (by simpa using hp),I.hok,I.len⟩
theorem Inv.tryOut (I:Inv (X.tryIn pins E) pins' σ H s):Inv X pins σ H s :=
 ⟨I.ok.tryOut,I.os,I.bare,I.base,I.loc,I.cell,I.free,I.freeC,fun p hp=>I.pin p (List.mem_append_left _ hp),I.hok,I.len⟩
theorem SP.tryOut {D:cZ} {f:Flow} {s':Shared} (h:SP (X.tryIn pins E) pins' D f s'):SP X pins D f s':=by
 cases f with
 | next=>obtain ⟨σ',H',I,q⟩:=h; exact ⟨σ',H',I.tryOut,q⟩
 | brk=>obtain ⟨σ',H',I,q⟩:=h; exact ⟨σ',H',I.tryOut,q⟩
 | cont=>obtain ⟨σ',H',I,q⟩:=h; exact ⟨σ',H',I.tryOut,q⟩
 | ret u=>obtain ⟨v,σ',H',I,r,q⟩:=h; exact ⟨v,σ',H',I.tryOut,r,q⟩
end
def XT (X:Cx) (pins:List (Addr×Obj)) (ET:St→XK):Value→Shared→Prop:=fun x s'=>∃ (σ:St) (e C:Addr) (xo:Option Addr) (H':Hp),x=.ref e∧Inv X pins σ H' s'∧Exc X.s₀.heap s'.heap H' e C xo ∧
 (∀ p∈X.pn++pins,p.1≠e∧∀ oe vs T,s'.heap.get? e=some oe→oe.data=.fields vs→vs[1]?=some (.ref T)→p.1≠T)∧ET σ (.ref C) xo H'
def iO (CX:CXT) (X:Cx) (ET:St→XK):Prop:=∀ (pins:List (Addr×Obj)) (σ:St) (H:Hp) (s:Shared) (e:Value) (s':Shared),Inv X pins σ H s→CX X.stack H s (ET σ) e s'→X.xe e s'
theorem ja {X:Cx} {pins:List (Addr×Obj)} {ET:St→XK} (hx:X.ex=[]:=by rfl):iO (CX1 X.prog X.w) (X.tryIn pins (XT X pins ET)) ET:=by
 intro pins' σ H s x s' I h;obtain ⟨e,C,xo,H',rfl,os,bare,un,hok,ex,q⟩:=h;have J:=I.call' (s':=s') (ch:=[]) os un hok bare (fun b hb=>by cases hb);obtain ⟨⟨oe,ws,T,oT,ts,g1,g2,g3,g4,g5,g6,g7,g8,g9⟩,ne,hHe,hHT,dc⟩:=ex;have s0:∀ {b:Addr},s.heap.get? b=none→X.s₀.heap.get? b=none:=fun {b} hb=>by
  cases z:X.s₀.heap.get? b with
  | none => rfl
  | some o => obtain ⟨o', z'⟩ := I.base.there b o z (by show b ∉ X.ex; rw [hx]; simp); rw [hb] at z'; cases z'
 refine ⟨σ,e,C,xo,H',rfl,J.tryOut,⟨⟨oe,ws,T,oT,ts,g1,g2,g3,g4,s0 g5,g6,g7,g8,g9⟩,s0 ne,hHe,hHT,dc⟩,fun p hp=>?_,q⟩;have hp':=(I.pin p (List.mem_append_left _ hp)).1;refine ⟨fun z=>(by rw [z,ne] at hp'; cases hp'),fun oe' vs' T' z1 z2 z3 z=>?_⟩;rw [g1] at z1; cases z1;rw [g3] at z2; cases z2;rw [g4] at z3; cases z3;rw [z,g5] at hp'
 cases hp'
def uH (C:Addr) (m:Str) (sp:Sp) (dvs:List V) (ET:St→XK) (ta:TE) (t:TA):TE:=fun σ H Q=>ta σ H fun x H1=>va C m x H1 (t σ H1 fun vs H2=>sp (x::(vs++dvs)) H2 Q (ET σ))
def zD (C:Addr) (sp:Sp) (dvs:List V) (ET:St→XK) (t:TA):TE:=fun σ H Q=>t σ H fun vs H1=>∀ x dx,H1 x=none→H1 dx=none→dx≠x →
 sp (.ref x::(vs++dvs)) (upd (upd H1 dx (.own x)) x (.ins C dx [])) (fun v H2=>v=.non∧Q (.ref x) H2) (ET σ)
section
variable {X:Cx} {CX:CXT} {k:Nat} {f C:Addr} {fd:FuncData} {ps:List Str} {sp:Sp} {dvs:List V} {ds:List Value} {ET:St→XK} {x m:Str} {p pos apos:Pos} {e o:Expr} {es:List Expr} {ta:TE} {t:TA}
theorem vh {pins:List (Addr×Obj)} {σ:St} {H:Hp} {s:Shared} {Q:VK} {us:List Value} {vs:List V} (F:aU X.prog X.w X.K X.mg X.base CX k f fd ps sp) (hr:cS k X.A) (hb:aK X.K fd ps ds) (hd:aV dvs ds) (hx:iO CX X ET)
  (I:Inv X pins σ H s) (r:aV vs us) (h:sp (vs++dvs) H Q (ET σ)):wpAny (model X.prog X.w) X.A (call (.ref f) us) (EP X pins σ Q) X.xe s:=by
 have r2:aV (vs++dvs) (us++ds):=r.append hd;have hl:(us++ds).length=ps.length:=by rw [← r2.length]; exact F.len _ _ _ _ h
 refine wpAny_call (codeAny_mono (F.run X.A X.stack s H ⟨us,[]⟩ (us++ds) (vs++dvs) Q (ET σ) hr I.env0 (hb s us I.kIn hl) r2 h) fun r s' hq=>?_)
 cases r with
 | error e=>exact hx pins σ H s e s' I hq
 | ok fl =>
  cases fl with
  | ret u => exact I.after hq
  | next => exact False.elim hq
  | brk => exact False.elim hq
  | cont => exact False.elim hq
theorem ft {pl:Sem Bool} (he:PE X o ta) (c:Cls X.K C) (hm:dG X.K C m f) (F:aU X.prog X.w X.K X.mg X.base CX k f fd ps sp) (hr:cS k X.A) (hb:aK X.K fd ps ds) (hd:aV dvs ds) (hx:iO CX X ET) (ha:PA X (e::es) t)
  (hst:starEach (e::es) X.env=(false,eval e X.env)::starEach es X.env:=by rfl) (hpl:(backTo pos (starEach es X.env)).any (·.1)=false:=by rfl)
  (ht:eval (.Call (.Attribute o m apos) (e::es) [] pos) X.env=(do
   let ov ← eval o X.env
   standAt apos.atName
   let (f,first) ← holding [ov] (getMethod ov m pl)
   callWith pos f first (backTo pos (starEach (e::es) X.env)) (backToKw pos (keywordEach [] X.env))):=by rfl) :
  PE X (.Call (.Attribute o m apos) (e::es) [] pos) (uH C m sp dvs ET ta t):=by
 intro pins s σ H Q I h;refine W.methodCall_KW (pl:=pl) (thn (he pins s σ H _ I h) fun u s1 ⟨x,H1,I1,rx,a,dx,fs,ex,ea,l,q⟩=>?_) ht;subst ex;obtain rfl:u=Value.ref a:=rx
 refine gu I1 ea c hm l ?_;refine W.callWith_K (first:=[.ref a]) (h₀:=X.base) I.ok.mod.kin hm.kp (thn (ha pos pins s1 σ H1 _ I1 q) fun us s2 ⟨vs,H2,I2,r,q2⟩=>⟨I2.kIn,?_⟩) hst hpl;exact vh (us:=.ref a::us) (vs:=.ref a::vs) F hr hb hd hx I2 (.cons rfl r) q2
theorem oZ {pl:Sem Bool} (he:PE X o ta) (c:Cls X.K C) (hm:dG X.K C m f) (F:aU X.prog X.w X.K X.mg X.base CX k f fd ps sp) (hr:cS k X.A) (hb:aK X.K fd ps ds) (hd:aV dvs ds) (hx:iO CX X ET)
  (ht:eval (.Call (.Attribute o m apos) [] [] pos) X.env=(do
   let ov ← eval o X.env
   standAt apos.atName
   let (f,first) ← holding [ov] (getMethod ov m pl)
   callWith pos f first (backTo pos (starEach [] X.env)) (backToKw pos (keywordEach [] X.env))):=by rfl) :
  PE X (.Call (.Attribute o m apos) [] [] pos) (uH C m sp dvs ET ta zF):=by
 intro pins s σ H Q I h;refine W.methodCall_KW (pl:=pl) (thn (he pins s σ H _ I h) fun u s1 ⟨x,H1,I1,rx,a,dx,fs,ex,ea,l,q⟩=>?_) ht;subst ex;obtain rfl:u=Value.ref a:=rx
 refine gu I1 ea c hm l ?_;exact W.callWith_K0 (first:=[.ref a]) I1.kIn hm.kp (vh (us:=[.ref a]) (vs:=[.ref a]) F hr hb hd hx I1 (.cons rfl .nil) q)
theorem wF {pins:List (Addr×Obj)} {σ:St} {H:Hp} {s:Shared} {Q:VK} {us:List Value} {vs:List V} (M:Mk X.K C f) (F:aU X.prog X.w X.K X.mg X.base CX k f fd ps sp) (hr:cS (k+1) X.A) (hb:aK X.K fd ps ds) (hd:aV dvs ds)
  (hx:iO CX X ET) (I:Inv X pins σ H s) (r:aV vs us)
  (h:∀ x dx,H x=none→H dx=none→dx≠x→sp (.ref x::(vs++dvs)) (upd (upd H dx (.own x)) x (.ins C dx [])) (fun v H2=>v=.non∧Q (.ref x) H2) (ET σ)) :
  wpAny (model X.prog X.w) X.A (call (.ref C) us) (EP X pins σ Q) X.xe s:=by
 have hq:=h (s.heap.objs.size+1) s.heap.objs.size (I.hok.fresh (Nat.le_succ _)) (I.hok.fresh (Nat.le_refl _)) (Nat.ne_of_lt (Nat.lt_succ_self _));have I2:=Inv.made (C:=C) I;have r2:aV (V.ref (s.heap.objs.size+1)::(vs++dvs)) (Value.ref (s.heap.objs.size+1)::(us++ds)):=.cons rfl (r.append hd)
 have hl:(Value.ref (s.heap.objs.size+1)::us++ds).length=ps.length:=by
  have e:=r2.length;rw [F.len _ _ _ _ hq] at e;exact e.symm
 refine wpAny_call (se (f:=f) I.kIn M.makes M.init (beq_iff_eq.mp M.fn) (codeAny_mono (F.run _ X.stack _ _ ⟨Value.ref (s.heap.objs.size+1)::us,[]⟩ (Value.ref (s.heap.objs.size+1)::(us++ds)) _ _ (ET σ) (hr.make C us [])
  (I2.env0.make C us []) (hb _ (Value.ref (s.heap.objs.size+1)::us) I2.kIn hl) r2 hq) fun r s' hq'=>?_))
 cases r with
 | error e=>exact hx pins σ _ _ e s' I2 hq'
 | ok fl =>
  cases fl with
  | ret u =>
   obtain ⟨v,H',I3,rv,ev,q3⟩:=I2.after hq';subst ev;exact ⟨rv,⟨V.ref (s.heap.objs.size+1),H',I3,rfl,q3⟩⟩
  | next => exact False.elim hq'
  | brk => exact False.elim hq'
  | cont => exact False.elim hq'
theorem yf (M:Mk X.K C f) (F:aU X.prog X.w X.K X.mg X.base CX k f fd ps sp) (hr:cS (k+1) X.A) (hg:Gl X x) (hm:X.mg x=some (.ref C)) (hb:aK X.K fd ps ds) (hd:aV dvs ds) (hx:iO CX X ET)
  (ha:PA X (e::es) t) (hdb:(x==("__debug__":Str))=false:=by decide) (he:starEach (e::es) X.env=(false,eval e X.env)::starEach es X.env:=by rfl) (hpl:(backTo pos (starEach es X.env)).any (·.1)=false:=by rfl) :
  PE X (.Call (.Name x p) (e::es) [] pos) (zD C sp dvs ET t):=by
 intro pins s σ H Q I h;refine wpAny_Call_Name_kw (fc I hg hm ?_ hdb);refine W.callWith_K (h₀:=X.base) I.ok.mod.kin M.kp (thn (ha pos pins s σ H _ I h) fun us s1 ⟨vs,H1,I1,r,q⟩=>⟨I1.kIn,?_⟩) he hpl;exact wF M F hr hb hd hx I1 r q
end
section
variable {σ:St} {H:Hp} {Q:VK}
theorem yJ {C:Addr} {m:Str} {sp:Sp} {dvs:List V} {ET:St→XK} {ta:TE} {t:TA} (h:ta σ H fun x H1=>va C m x H1 (t σ H1 fun vs H2=>sp (x::(vs++dvs)) H2 Q (ET σ))):uH C m sp dvs ET ta t σ H Q:=h
theorem yI {C:Addr} {sp:Sp} {dvs:List V} {ET:St→XK} {t:TA} (h:t σ H fun vs H1=>∀ x dx,H1 x=none→H1 dx=none→dx≠x →
 sp (.ref x::(vs++dvs)) (upd (upd H1 dx (.own x)) x (.ins C dx [])) (fun v H2=>v=.non∧Q (.ref x) H2) (ET σ)):zD C sp dvs ET t σ H Q:=h
end
abbrev Cx.suite (X:Cx) (e:Addr):Cx:={ X with A:=X.A.mark (some (.ref e)),calm:=false,xe:=fun _ _=>False }
section
variable {X:Cx} {pins:List (Addr×Obj)} {σ:St} {H:Hp} {s:Shared} {e:Addr}
theorem Cx.Ok.suite (ok:X.Ok):(X.suite e).Ok :=
 ⟨ok.mod,ok.kind,ok.glob,ok.blt,ok.above,ok.inj,ok.has,ok.cab,fun z=>Bool.noConfusion z,ok.frames,ok.stk,ok.exf,ok.bs,ok.bsz,ok.noex,ok.exfs,ok.funs,ok.frf⟩
theorem Inv.suite (I:Inv X pins σ H s):Inv (X.suite e) pins σ H s:=⟨I.ok.suite,I.os,I.bare,I.base,I.loc,I.cell,I.free,I.freeC,I.pin,I.hok,I.len⟩
theorem Inv.unsuite (ok:X.Ok) (I:Inv (X.suite e) pins σ H s):Inv X pins σ H s:=⟨ok,I.os,I.bare,I.base,I.loc,I.cell,I.free,I.freeC,I.pin,I.hok,I.len⟩
end
def Dh (i:Nat) (D:cZ):cZ:={ nx:=fun σ H=>D.nx (σ.set i none) H,rt:=D.rt,bk:=fun σ H=>D.bk (σ.set i none) H,ct:=fun σ H=>D.ct (σ.set i none) H }
def BO (K:W.Frag) (S:Addr) (i:Nat) (ts:TS) (D:cZ):St→XK:=fun σ cls xo H1=>∃ C,cls=.ref C∧W.exmOne K (.ref C) (.ref S)=some true∧∀ e,H1 e=none→ts (Dh i D) (σ.set i (some (.ref e))) (upd H1 e (xh e C xo))
def D8 (K:W.Frag) (S:Addr) (i:Nat) (tb:(St→XK)→TS) (ts:TS):TS:=fun D σ H=>tb (BO K S i ts D) D σ H
theorem lD {X:Cx} {pins:List (Addr×Obj)} {σ:St} {H:Hp} {s:Shared} {M:Model} {A:Around} {E:Value→Shared→Prop} {i:Nat} {n:Str} {pos:Pos} {Q:Unit→Shared→Prop} (I:Inv X pins σ H s) (hN:X.N.Nodup) (hi:X.N[i]?=some n)
  (hk:X.env.kindOf n=some .local) (h:∀ s',Inv X pins (σ.set i none) H s'→Q () s'):wpAny M A (do bindName X.env n .none; unbindBehindTheSuite X.env n pos) Q E s:=by
 obtain ⟨m,hn,hl⟩:=id I.loc;have hcls:(X.env.scope.kind==.class||(X.env.scope.kind==.module&&X.env.locals != X.env.globals))=false:=by rw [I.ok.kind]; rfl
 have cne:=I.cne;refine wpAny_nameGoes_keeps hk hn hcls fun h' v hn' hs=>h _ ?_;obtain ⟨oL,_,_,hoL,_⟩:=id hn;have hk':HOk X.prog X.w H h':=fun b ob e=>by
  refine (I.hok b ob e).stay (fun c w' hc q=>(hs.2 c ?_).trans q) (fun _ q=>q) fun _ _ q=>q;rintro rfl;rcases hc with rfl | hc
  ·rw [I.free] at e; cases e
  ·rw [I.free] at hc; cases hc
 have nL:∀ b o,X.s₀.heap.get? b=some o→b≠X.env.locals:=fun b o e=>Nat.ne_of_lt (Nat.lt_of_lt_of_le (Heap.lt_size e) I.ok.above);refine ⟨I.ok,I.os,I.bare,⟨fun b o e n hb hx=>(hs.2 b (nL b o e)).trans (I.base.keep b o e n hb hx),fun b o e n hb hx=>?_,I.base.free,fun b o e hx=>?_,I.base.tups,I.base.frzs,I.base.tbls⟩,⟨_,hn',fun j y v' e1 e2 e3=>?_⟩,fun y c e=>?_,I.free,I.freeC,fun p hp=>?_,hk',by simpa using I.len⟩
 ·obtain ⟨sl,e1⟩:=I.base.slot b o e n hb hx;exact ⟨sl,(hs.2 b (nL b o e)).trans e1⟩
 ·obtain ⟨o',e1⟩:=I.base.there b o e hx;exact ⟨o',(hs.2 b (nL b o e)).trans e1⟩
 ·by_cases hj:j=i
  ·subst hj;have hiσ:j<σ.length:=by rw [I.len]; exact (List.getElem?_eq_some_iff.mp hi).1
   rw [List.getElem?_set_self hiσ] at e2
   cases e2
  ·rw [List.getElem?_set_ne (Ne.symm hj)] at e2;obtain ⟨u',r',q⟩:=hl j y v' e1 e2 e3;refine ⟨u',r',?_⟩;rcases q with ⟨k,e⟩ | ⟨k,c,e,z⟩
   ·refine .inl ⟨k,?_⟩;have:y≠n:=fun e=>hj (mj hN e1 (e ▸ hi))
    simp [this,e]
   ·exact .inr ⟨k,c,e,z.sameBut hs (cne y c e)⟩
 ·obtain ⟨w',z⟩:=I.cell y c e;exact ⟨w',z.sameBut hs (cne y c e)⟩
 ·obtain ⟨e,n,ne,nf,d⟩:=I.pin p hp;exact ⟨(hs.2 p.1 ne).trans e,n,ne,nf,d⟩
theorem Cw {X:Cx} {i:Nat} {n x:Str} {S:Addr} {body suite:List Stmt} {b₀:Stmt} {np hpos pos:Pos} {tb:(St→XK)→TS} {ts:TS} (hN:X.N.Nodup) (hi:X.N[i]?=some n) (hk:X.env.kindOf n=some .local)
  (hg:Gl X x) (hm:X.mg x=some (.ref S)) (hb:∀ pins ET,PSs (X.tryIn pins (XT X pins ET)) body (tb ET)) (hh:∀ e,PSs (X.suite e) (b₀::suite) ts)
  (hs:X.stack=X.env::X.outer:=by rfl) (hf:X.env.frame=some X.env.locals:=by rfl) (hd:(x==("__debug__":Str))=false:=by decide) :
  PS X (.Try body [.ExceptHandler (some (.Name x np)) (some n) (b₀::suite) hpos] [] [] pos) (D8 X.K S i tb ts):=by
 intro pins s σ H D I h;refine wpAny_Try_except (wpAny_mono (hb pins (BO X.K S i ts D) [] s σ H D (I.tryIn _) h) (fun f s1 q=>?_) (fun y s1 q=>?_))
 ·have q:=q.tryOut
  cases f with
  | next =>
   obtain ⟨σ',H',I',q'⟩:=q;exact aA pins s1 σ' H' D I' q'
  | brk => exact q
  | cont => exact q
  | ret u => exact q
 ·obtain ⟨σ1,e,C,xo,H1,rfl,I1,ex,hp,C',hC,hx',k⟩:=q
  cases hC;obtain ⟨⟨oe,ws,T,oT,tl,g1,g2,g3,g4,g5,g6,g7,g8,g9⟩,ne,hHe,hHT,dc⟩:=ex;have hHT:=hHT oe ws T g1 g3 g4;obtain ⟨a0,h0⟩:∃ a0,ws[0]?=some a0:=by
   have hsz:1<ws.size:=(Array.getElem?_eq_some_iff.mp g4).1;exact ⟨ws[0],by simp [show 0<ws.size by omega]⟩
  have ff:=I1.stack;have hl:=W.funFrames_hide (as:=e::T::frs X.stack) ff (nq fun b hb=>List.mem_cons_of_mem _ (List.mem_cons_of_mem _ hb))
  have fl:Heap.FlyingW (W.hideAll s1.heap (e::T::frs X.stack)) (X.env::X.outer) e (.ref C) a0 s1.heap :=
   ⟨fun b o z=>W.of_hideAll _ z,W.hideAll_none _ List.mem_cons_self,hs ▸ hl,⟨oe,ws,T,oT,tl,g1,⟨g2,h0⟩,g3,g4,W.hideAll_none _ (List.mem_cons_of_mem _ List.mem_cons_self),g6,g7,g8,g9⟩⟩
  have stay:∀ h',Heap.StaysIn (W.hideAll s1.heap (e::T::frs X.stack)) h'→s1.heap.UpToSlots h'→Inv X pins σ1 H1 { s1 with heap:=h' }:=fun h' st sm=>by
   refine I1.held (es:=[e,T]) hs hf (fun b hb=>?_) (fun b o z nf nm=>st b o (W.hideAll_get _ z ?_)) fun b o z hb=>?_
   ·simp only [List.mem_cons,List.not_mem_nil,or_false] at hb;rcases hb with rfl | rfl
    ·exact ⟨hHe,ne,fun p hq=>(hp p hq).1,oe,ws,g1,g3⟩
    ·exact ⟨hHT,g5,fun p hq=>(hp p hq).2 oe ws _ g1 g3 g4,oT,tl,g7,g8⟩
   ·intro m;rcases List.mem_cons.mp m with r | m
    ·exact nm (by simp [r])
    ·rcases List.mem_cons.mp m with r | r
     ·exact nm (by simp [r])
     ·exact nf r
   ·obtain ⟨_,o',z',hd'⟩:=ff.mem hb;rw [z] at z'; cases z';exact sm b o z hd'
  refine wpAny_mono (DS.any (jG _ _) (wpAny_looks_onW (Q:=fun _ s2=>∃ h4,s2={ s1 with heap:=h4 }∧Heap.HeldW (W.hideAll s1.heap (e::T::frs X.stack)) (X.env::X.outer) e (.ref C) a0 X.env.locals h4∧s1.heap.UpToSlots h4) (I1.ok.frames.trans (congrArg some hs)) hf fl fun h4 held sm4=>⟨h4,rfl,held,sm4⟩) ⟨oe,g1,rfl⟩) (fun _ s2 ⟨⟨h4,e4,held,sm4⟩,d4⟩=>?_) fun _ _ z=>z;subst e4;refine wpAny_mono (DS.any (gq _ _) (wpAny_landsW (s:={ s1 with heap:=h4 }) (Q:=fun _ s2=>∃ h5,s2={ s1 with heap:=h5 }∧Heap.FlyingW (W.hideAll s1.heap (e::T::frs X.stack)) (X.env::X.outer) e (.ref C) a0 h5∧h4.UpToSlots h5) held fun h5 fl5 sm5=>⟨h5,rfl,fl5,sm5⟩) d4) (fun _ s2 ⟨⟨h5,e5,fl5,sm5⟩,d5⟩=>?_) fun _ _ z=>z;subst e5;have I5:=stay h5 fl5.1 (sm4.trans sm5);refine wpAny_handleBy_cons (codeAny_handlers_test (fc (X:=X.suite e) I5.suite hg hm ?_ hd)) (by intro q; cases q);have LT:PySem.W.Looks (model X.prog X.w) h5 (typeOf (.ref e)) (.ref C):=gS.looks fl5.there;refine (W.exm_one (h:=h5) I5.kIn LT hx').here ?_;refine codeAny_handlers_suite_as ?_;refine wpAny_mono (DS.any (gq _ _) (lands_againW (s:={ s1 with heap:=h5 }) (Q:=fun _ s2=>∃ h6,s2={ s1 with heap:=h6 }∧Heap.FlyingW (W.hideAll s1.heap (e::T::frs X.stack)) (X.env::X.outer) e (.ref C) a0 h6∧h5.UpToSlots h6) fl5 fun h6 fl6 sm6=>⟨h6,rfl,fl6,sm6⟩) d5) (fun _ s2 ⟨⟨h6,e6,fl6,sm6⟩,d6⟩=>?_) fun _ _ z=>z;subst e6;have I6:=stay h6 fl6.1 ((sm4.trans sm5).trans sm6);obtain ⟨oe6,ws6,z1,z2,z3,_⟩:=fl6.first;have dc6:∀ dx,xo=some dx→oe6.dict=some dx:=fun dx z=>by
   obtain ⟨o,y1,y2⟩:=dc dx z;rw [g1] at y1; cases y1;obtain ⟨o,y3,y4⟩:=d6;rw [show ({ s1 with heap:=h6 }:Shared).heap=h6 from rfl,z1] at y3; cases y3;rw [y4,y2]
  have I7:Inv X pins σ1 (upd H1 e (xh e C xo)) { s1 with heap:=h6 }:=I6.track hHe ne (fun p hq=>(hp p hq).1) ⟨oe6,ws6,z1,z3⟩ ⟨oe6,ws6,z1,z2,z3,dc6⟩ fun ha hb ⟨o,vs,p1,p2⟩ kk=>⟨o,vs,kk o p1,p2⟩
  refine gh (X:=X.suite e) (v:=.ref e) I7.suite hN hi (.inl hk) rfl (fun s8 I8=>?_) (.inr hk);refine wpAny_mono (hh e pins s8 _ _ (Dh i D) I8 (k e hHe)) (fun f s9 q=>?_) fun _ _ z=>False.elim z
  show wpAny _ _ _ _ _ _
  cases f with
  | next =>
   obtain ⟨σ',H',I',q'⟩:=q;exact lD (I'.unsuite I.ok) hN hi hk fun s' J=>⟨_,H',J,q'⟩
  | brk =>
   obtain ⟨σ',H',I',q'⟩:=q;exact lD (I'.unsuite I.ok) hN hi hk fun s' J=>⟨_,H',J,q'⟩
  | cont =>
   obtain ⟨σ',H',I',q'⟩:=q;exact lD (I'.unsuite I.ok) hN hi hk fun s' J=>⟨_,H',J,q'⟩
  | ret u =>
   obtain ⟨v,σ',H',I',r,q'⟩:=q;exact lD (I'.unsuite I.ok) hN hi hk fun s' J=>⟨v,_,H',J,r,q'⟩
structure fk (k:Nat) (A:Around):Prop where
 dp:A.depth+3*k+5<recursionLimit
 un:A.units+16*k+200<cLine
theorem cS.q {k:Nat} {A:Around} (r:cS k A):fk k A:=⟨r.dp,r.un⟩
theorem fk.mono {j k:Nat} {A:Around} (r:fk k A) (h:j≤k):fk j A:=⟨by have:=r.dp; omega,by have:=r.un; omega⟩
theorem fk.deeper {k:Nat} {A:Around} (r:fk (k+1) A) (env:Env):fk k (A.deeper env) :=
 ⟨by have:=r.dp; show A.depth+1+3*k+5<_; omega,by have:=r.un; show A.units+3+16*k+200<_; omega⟩
theorem fk.mark {k:Nat} {A:Around} {v:Option Value} (r:fk k A):fk k (A.mark v):=⟨r.dp,r.un⟩
structure xj (P:Program) (w:World) (K:W.Frag) (mg:Str→Option Value) (base:Heap) (k:Nat) (f:Addr) (fd:FuncData) (ps:List Str) (sp:Sp):Prop where
 len:∀ vs H Q E,sp vs H Q E→vs.length=ps.length
 run:∀ (A:Around) (outer:List Env) (s:Shared) (H:Hp) (args:Args) (us:List Value) (vs:List V) (Q:VK) (E:XK),fk k A→rE P w K mg base A outer s H→BindsTo s fd args (ps.zip us)→aV vs us→sp vs H Q E →
  codeAny (model P w) A (.call (.ref f) args) (CR CX0 outer P w H s Q E) s
abbrev Cx.quiet (X:Cx):Cx:={ X with calm:=false }
section
variable {P:Program} {w:World} {K:W.Frag} {mg:Str→Option Value} {base:Heap}
theorem Fun.okQ {x qual:Str} {st:Stmt} {f:Addr} {fd:FuncData} {N ps:List Str} {k:Nat} {sp:Sp} (F:Fun K x qual st f fd) (S:aE N ps (ao st)) (len:∀ vs H Q E,sp vs H Q E→vs.length=ps.length)
  (hbody:∀ (cdv:Value) (A:Around) (outer:List Env) (s:Shared) (H:Hp) (vs:List V) (Q:VK) (E:XK),fk k (A.deeper (envOfC qual (ao st) s.heap.objs.size f cdv))→sp vs H Q E →
   ∃ t,PSs (eX CX0 P w K mg base N qual (ao st) f cdv A outer s H E).quiet.nox (c7 st) t∧t { nx:=fun _ H'=>Q .non H',rt:=Q } (gg N vs) H):xj P w K mg base (k+1) f fd ps sp:=by
 obtain ⟨oc,od,kV,doc,pm,an,cdv,ct,osl,rfl,lk,hcd⟩:=F.ex;refine ⟨len,fun A outer s H args us vs Q E hr e0 hb r hsp=>?_⟩;have hl:=len _ _ _ _ hsp;have KX:K.In s.heap:=e0.mod.kin.keeps fun b o e=>(e0.bs b o e).1;have lim:s.heap.NoLimit:=e0.mod.nolimit.keeps fun b o e=>(e0.bs b o e).1;have hkind:∀ y∈ps.zip us,(ao st).names.lookup y.1=some .local∨((ao st).names.lookup y.1=some .cell∧((cellsFrom (s.heap.objs.size+1) (ao st).names []).lookup y.1).isSome=true):=fun ⟨n,v⟩ hy=>by
  rcases S.par n (List.of_mem_zip hy).1 with q | q
  ·exact .inl q
  ·exact .inr ⟨q,W.cellsFrom_some _ _ _ (.inl q)⟩
 refine codeAny_call_function (by have:=hr.dp; omega) (KX _ _ lk) rfl S.co S.gen rfl (W.codeRec_of KX hcd) (hb _ _ _ _ ?_);refine wpAny_newFunctionEnv_cells S.kind hkind fun env he s1 x=>?_;subst he;refine ⟨lim.keeps x.toInCall.keep,codeAny_func ?_⟩;obtain ⟨t,ht,hq⟩:=hbody cdv A outer s H vs Q E (hr.deeper _) hsp;have I0:Inv (eX CX0 P w K mg base N qual (ao st) f cdv { A with handled:=none } outer s H E) [] (gg N vs) H s1:=oV S rfl ⟨e0.frames,e0.mod,e0.bs,e0.bsz,e0.funs,e0.frf,e0.hok,e0.bare⟩ hl r x
 have I:Inv (eX CX0 P w K mg base N qual (ao st) f cdv A outer s H E).quiet.nox [] (gg N vs) H s1 :=
  ⟨⟨I0.ok.mod,I0.ok.kind,I0.ok.glob,I0.ok.blt,I0.ok.above,I0.ok.inj,I0.ok.has,I0.ok.cab,fun z=>Bool.noConfusion z,I0.ok.frames,I0.ok.stk,I0.ok.exf,I0.ok.bs,I0.ok.bsz,I0.ok.noex,I0.ok.exfs,I0.ok.funs,I0.ok.frf⟩,I0.os,I0.bare,I0.base,I0.loc,I0.cell,I0.free,I0.freeC,I0.pin,I0.hok,I0.len⟩
 refine wpAny_mono (ht [] s1 (gg N vs) H _ I hq) (fun fl s' hs=>?_) fun e s' hs=>False.elim hs
 have fin:∀ {σ':St} {H':Hp} {v:V} {u:Value},Inv (eX CX0 P w K mg base N qual (ao st) f cdv A outer s H E).quiet.nox [] σ' H' s'→bG v u→Q v H'→CE outer P w H s Q u s' :=
  fun {σ' H' v u} J rv q=>⟨v,H',J.os,J.bare,J.base,J.hok,rv,q⟩
 cases fl with
 | ret u =>
  obtain ⟨v,σ',H',J,rv,q⟩:=hs;exact fin J rv q
 | next =>
  obtain ⟨σ',H',J,q⟩:=hs;exact fin (v:=V.non) (u:=Value.none) J rfl q
 | brk =>
  obtain ⟨_,_,_,q⟩:=hs;exact False.elim q
 | cont =>
  obtain ⟨_,_,_,q⟩:=hs;exact False.elim q
end
section
variable {X:Cx} {k:Nat} {f C:Addr} {fd:FuncData} {ps:List Str} {sp:Sp} {dvs:List V} {ds:List Value} {x m:Str} {p pos apos:Pos} {e o:Expr} {es:List Expr} {ta:TE} {t:TA}
theorem ya (F:xj X.prog X.w X.K X.mg X.base k f fd ps sp) (hr:fk k X.A) (hg:Gl X x) (hm:X.mg x=some (.ref f)) (hk:W.keepIn X.K (.ref f)=true) (hb:aK X.K fd ps ds) (hd:aV dvs ds)
  (ha:PA X (e::es) t) (hdb:(x==("__debug__":Str))=false:=by decide) (he:starEach (e::es) X.env=(false,eval e X.env)::starEach es X.env:=by rfl) (hpl:(backTo pos (starEach es X.env)).any (·.1)=false:=by rfl) :
  PE X (.Call (.Name x p) (e::es) [] pos) (vo sp dvs E0 t):=by
 intro pins s σ H Q I h;refine wpAny_Call_Name_kw (fc I hg hm ?_ hdb);refine W.callWith_K (h₀:=X.base) I.ok.mod.kin hk (thn (ha pos pins s σ H _ I h) fun us s1 ⟨vs,H1,I1,r,q⟩=>⟨I1.kIn,?_⟩) he hpl;have r2:aV (vs++dvs) (us++ds):=r.append hd;have hl:(us++ds).length=ps.length:=by rw [← r2.length]; exact F.len _ _ _ _ q
 refine wpAny_call (codeAny_mono (F.run X.A X.stack s1 H1 ⟨us,[]⟩ (us++ds) (vs++dvs) Q E0 hr I1.env0 (hb s1 us I1.kIn hl) r2 q) fun r s' hq=>?_)
 cases r with
 | error e=>exact False.elim hq
 | ok fl =>
  cases fl with
  | ret u => exact I1.after hq
  | next => exact False.elim hq
  | brk => exact False.elim hq
  | cont => exact False.elim hq
end
theorem fO {K:W.Frag} {A S:Addr} (bs:W.subIn K (.ref S) (.type "BaseException")=some true) (mo:W.mroIn K S (.type "object")=some true) (ty:W.typeIn K (.ref S)=some (.type "type"))
  (sb:W.subIn K (.ref A) (.ref S)=some true):W.exmOne K (.ref A) (.ref S)=some true:=by
 obtain ⟨cd,hc,_⟩:=Option.bind_eq_some_iff.mp mo;simp only [W.exmOne,W.kitCls];simp [bs,hc,ty,sb]
theorem Co {K:W.Frag} {h:Heap} {mg:Str→Option Value} {x:Str} {C:Addr} {bmB:List Value} {newId:String} (X:K.In h) (hm:mg x=some (.ref C)) (q:W.excIn K C bmB newId=true):OwnCls x C bmB newId mg h:=by
 refine ⟨hm,?_⟩;simp only [W.excIn] at q
 split at q
 case h_2=>cases q
 case h_1 dd cd sl ho =>
  split at q
  case h_2=>cases q
  case h_1 C' bm k0 k1 k2 k3 n k5 hmr hsl =>
   simp only [Bool.and_eq_true,beq_iff_eq,Bool.not_eq_true'] at q;obtain ⟨⟨⟨⟨⟨e1,e2⟩,hdel⟩,ht⟩,hok⟩,hni⟩:=q;subst e1 e2;have hh:=X _ _ ho;obtain ⟨nm,bs,mro,ns,qn,hd,sn,sub,ab,col,del⟩:=cd;simp only at hmr hdel hok hni
   subst hmr hdel;obtain ⟨l⟩:=sl;simp only at hsl
   subst hsl;exact ⟨bm,ns,nm,qn,bs,hd,sn,sub,ab,col,dd,k0,k1,k2,k3,k5,_,hh,.of_isNs (W.isNs_of_in X hok),W.nsMap_none_of_in X hok hni,W.tail_of_in X ht⟩
theorem b8 {X:Cx} {E:XK} {x:Str} {C:Addr} {B newId initId:String} {bm:List Value} {np cpos pos:Pos} {e:Expr} {es:List Expr} {t:TA} (hm:X.mg x=some (.ref C)) (q:W.excIn X.K C bm newId=true) (FB:ExcBaseFacts B newId initId bm) (hc:X.calm=true) (hg:Gl X x)
  (hx:∀ (pins:List (Addr×Obj)) (σ:St) (H:Hp) (s:Shared) (h':Heap) (t':Nat) (e:Addr) (vs:List Value),Inv X pins σ H s→Heap.MadeExcOf s.heap h' e (.ref C) vs→E (.ref C) none H→X.xe (.ref e) { s with heap:=h',toks:=t' })
  (ha:PA X (e::es) t) (hd:(x==("__debug__":Str))=false:=by decide) (he:starEach (e::es) X.env=(false,eval e X.env)::starEach es X.env:=by rfl) (hpl:(backTo cpos (starEach es X.env)).any (·.1)=false:=by rfl) :
  PS X (.Raise (some (.Call (.Name x np) (e::es) [] cpos)) none pos) (uI C E t):=fun pins s σ H D I h =>
 yi (Co I.ok.mod.kin hm q) FB hc hg hx ha hd he hpl pins s σ H D I h
theorem yQ {C:Addr} {E:XK} {t:TA} {D:cZ} {σ:St} {H:Hp} (h:t σ H fun vs H1=>vs.length≤sizeLine∧E (.ref C) none H1):uI C E t D σ H:=h
section
variable {P:Program} {w:World} {K:W.Frag} {mg:Str→Option Value} {base:Heap}
theorem aU.down {k:Nat} {f:Addr} {fd:FuncData} {ps:List Str} {sp sp':Sp} (F:aU P w K mg base (CX1 P w) k f fd ps sp) (h:∀ vs H Q E,sp' vs H Q E→sp vs H Q (fun _ _ _=>False)):aU P w K mg base CX0 k f fd ps sp' :=
 ⟨fun vs H Q E q=>F.len vs H Q _ (h _ _ _ _ q),fun A outer s H args us vs Q E hr e0 hb hv hs=>codeAny_mono (F.run A outer s H args us vs Q _ hr e0 hb hv (h _ _ _ _ hs)) fun r s' hq=>by
  cases r with
  | error e => obtain ⟨_, _, _, _, _, _, _, _, _, _, z⟩ := hq; exact z.elim
  | ok fl => cases fl <;> exact hq⟩
end
theorem ur {H:Hp} {Q:VK} {a b:Addr} {xs zs:List V} (ha:H a=some (.lst xs)) (hb:H b=some (.lst zs)) (z:xs.length+zs.length≤sizeLine) (q:∀ p,H p=none→Q (.ref p) (upd H p (.lst (xs++zs)))):CA (.ref a) (.ref b) H Q :=
 ⟨a,b,xs,zs,rfl,rfl,ha,hb,z,q⟩
def SameBut (l:Addr) (H H':Hp):Prop:=∀ b o,H b=some o→b≠l→H' b=some o
theorem ai.but {H H':Hp} (s:ai H H') (l:Addr):SameBut l H H':=fun b o e _=>s b o e
section
variable {K:W.Frag} {σ:St} {H:Hp} {Q:VK} {te:TE} {cap:List (Option Nat)} {l:Addr}
theorem gU {a:Addr} {xs:List V} (R:Nat→V→Hp→Prop) (hs:SqL K H a xs) (hz:xs.length≤1000) (hl:H l=none) (mono:∀ i v H1 H2,SameBut l H1 H2→R i v H1→R i v H2)
  (step:∀ (i:Nat) x o H' (Q':VK),xs[i]?=some x→ai H H'→(∃ ys,H' l=some (.lst ys))→(∀ v H5,ai H' H5→R i v H5→Q' v H5)→te (((gm (none::cap) σ).set 0 o).set 0 (some x)) H' Q')
  (fin:∀ ys H',ai H H'→H' l=some (.lst ys)→ys.length=xs.length→(∀ (i:Nat) v,ys[i]?=some v→R i v H')→Q (.ref l) H'):jC (Itl K a) (eW 0) j0 te (none::cap) l σ H Q:=by
 refine ⟨xs.length,fun i ys σ' H'=>ys.length=i∧(∀ (j:Nat) v,ys[j]?=some v→R j v H')∧(∃ o,σ'=(gm (none::cap) σ).set 0 o)∧ai H H'∧H' l=some (.lst ys),⟨rfl,fun j v e=>by simp at e,⟨none,rfl⟩,ai.new hl,ae⟩,?_,?_⟩
 ·rintro i ys σ' H' hi ⟨ly,hR,⟨o,rfl⟩,s,e⟩;refine ⟨⟨xs,xs[i],s.seq hs,by simp [hi]⟩,fun x H2 y=>?_⟩;obtain ⟨e2,y⟩:=y;subst e2;have hx:=y xs (s.seq hs);refine dR (fH (pR ?_));refine step i x o H2 _ hx s ⟨ys,e⟩ fun v H5 s5 r=>⟨s5 _ _ e,aP (by omega),?_⟩
  have sb:SameBut l H5 (upd H5 l (.lst (ys++[v]))):=fun b u eb hb=>by rw [au hb]; exact eb
  refine ⟨by rw [List.length_append,ly]; rfl,fun j u ej=>?_,⟨_,List.set_set ..⟩,(s.trans s5).later hl,ae⟩;by_cases hj:j<ys.length
  ·rw [List.getElem?_append_left hj] at ej;exact mono j u _ _ sb (mono j u _ _ (s5.but l) (hR j u ej))
  ·rw [List.getElem?_append_right (by omega)] at ej;have:j=i:=by
    have hh:=(List.getElem?_eq_some_iff.mp ej).1;rw [List.length_singleton] at hh;omega
   subst this;rw [ly,Nat.sub_self] at ej
   cases ej;exact mono j _ _ _ sb r
 ·rintro ys σ' H' ⟨ly,hR,_,s,e⟩;exact ⟨⟨xs,s.seq hs,Nat.le_of_eq rfl⟩,fin ys H' s e ly hR⟩
end
def BH (t:TS):TS:=fun D σ H=>∃ J:St→Hp→Prop,t { D with nx:=J } σ H∧∀ σ' H',J σ' H'→D.nx σ' H'
theorem c9 {X:Cx} {st:Stmt} {t:TS} (h:PS X st t):PS X st (BH t):=by
 intro pins s σ H D I ⟨J,h1,h2⟩;refine wpAny_mono (h pins s σ H _ I h1) (fun f s' q=>?_) fun _ _ z=>z
 cases f with
 | next=>obtain ⟨σ',H',J',q⟩:=q; exact ⟨σ',H',J',h2 σ' H' q⟩
 | brk=>exact q
 | cont=>exact q
 | ret u=>exact q
theorem de {t:TS} {D:cZ} {σ:St} {H:Hp} (J:St→Hp→Prop) (h1:t { D with nx:=J } σ H) (h2:∀ σ' H',J σ' H'→D.nx σ' H'):BH t D σ H:=⟨J,h1,h2⟩
section
variable {prog:Program} {w:World} {A:Around} {E:Value→Shared→Prop} {s:Shared}
theorem vx {I u:Addr} {k:Nat} {its:Array Value} {x:Value} {Q:Value→Shared→Prop} (hI:s.heap.IsTupleIter I u k) (hu:s.heap.IsTuple u its) (hx:its[k]?=some x)
  (hQ:∀ g,g.IsTupleIter I u (k+1)→Heap.SameBut I s.heap g→Q x { s with heap:=g }):wpAny (model prog w) A (Builtin.SmallTypes.nextOf (.ref I)) Q E s:=by
 obtain ⟨oI,eI,cI,dI⟩:=id hI;obtain ⟨ou,eu,_,nu,du⟩:=hu;unfold Builtin.SmallTypes.nextOf;refine wpAny_bind (wpAny_callSpecial?_slot (name:=Str.ofString "__next__") hI.typeIs F.slot_tuple_iterator_next (wpAny_call_entry F.slot_tuple_iterator_next hI.typeIs F.entry_tuple_iterator_next ?_ (F.args_tuple_iterator_next_1 _)))
 show wpAny _ _ (field (.ref I) 0 >>= _) _ _ s
 refine wpAny_bind (wpAny_field eI dI (x:=.ref u) rfl ?_)
 show wpAny _ _ (if (Value.ref u==Value.none)=true then _ else _) _ _ s
 rw [if_neg (show ¬ ((Value.ref u==Value.none)=true) from Bool.false_ne_true)]
 show wpAny _ _ (field (.ref I) 1 >>= _) _ _ s
 refine wpAny_bind (wpAny_field eI dI (x:=.int k 0) rfl ?_)
 show wpAny _ _ (seqItems? (.ref u) >>= _) _ _ s
 refine wpAny_bind (wpAny_seqItems eu du ?_);rw [Int.toNat_natCast]; simp only [hx];refine wpAny_bind (wpAny_setField eI dI (by simp) (wpAny_pure ⟨x,rfl,wpAny_pure (hQ _ ?_ (Heap.SameBut.update ..))⟩));exact ⟨_,Heap.get?_update_self _ eI (Obj.isFreed_of_fields (Obj.data_mapFields dI _)),(Obj.cls_mapFields ..).trans cI,by rw [Obj.data_mapFields dI]; simp [rawInt]⟩
theorem Bf {I u:Addr} {k:Nat} {its:Array Value} {Q:Value→Shared→Prop} (hd0:A.handled=none) (hI:s.heap.IsTupleIter I u k) (hu:s.heap.IsTuple u its) (hx:its[k]?=none)
  (hE:∀ g e,Heap.ExtBut I s.heap g→(∃ o,g.get? e=some o∧o.cls=.type "StopIteration")→E (.ref e) { s with heap:=g }):wpAny (model prog w) A (Builtin.SmallTypes.nextOf (.ref I)) Q E s:=by
 obtain ⟨oI,eI,cI,dI⟩:=id hI;obtain ⟨ou,eu,_,nu,du⟩:=hu;unfold Builtin.SmallTypes.nextOf;refine wpAny_bind (wpAny_callSpecial?_slot (name:=Str.ofString "__next__") hI.typeIs F.slot_tuple_iterator_next (wpAny_call_entry F.slot_tuple_iterator_next hI.typeIs F.entry_tuple_iterator_next ?_ (F.args_tuple_iterator_next_1 _)))
 show wpAny _ _ (field (.ref I) 0 >>= _) _ _ s
 refine wpAny_bind (wpAny_field eI dI (x:=.ref u) rfl ?_)
 show wpAny _ _ (if (Value.ref u==Value.none)=true then _ else _) _ _ s
 rw [if_neg (show ¬ ((Value.ref u==Value.none)=true) from Bool.false_ne_true)]
 show wpAny _ _ (field (.ref I) 1 >>= _) _ _ s
 refine wpAny_bind (wpAny_field eI dI (x:=.int k 0) rfl ?_)
 show wpAny _ _ (seqItems? (.ref u) >>= _) _ _ s
 refine wpAny_bind (wpAny_seqItems eu du ?_);rw [Int.toNat_natCast]; simp only [hx];refine wpAny_bind (wpAny_rule (wpAny_bind (wpAny_setField eI dI (by simp) ?_)))
 show wpAny _ _ (newExc (.type "StopIteration") [] >>= _) _ _ _; refine wpAny_bind ?_
 simp only [newExc,newTuple]; refine wpAny_bind (wpAny_newObj_type ?_ (by size_fits));refine wpAny_bind (m:=firstArgMember _ _) (wpAny_of_eq (a:=Value.none) (by first | rfl | (simp only [firstArgMember]; rfl)) ?_); refine wpAny_newObj_type ?_ (by size_fits);simp only [raiseNew]; refine wpAny_bind (wpAny_handled ?_); rw [show A.in1.handled=none from hd0];refine wpAny_bind (wpAny_pure (wpAny_throw ?_)); exact hE _ _ (((Heap.SameBut.update ..).extBut.push _).push _) ⟨_,Heap.get?_push_size _ rfl,rfl⟩
theorem w9 {Z TI TO i j u v:Addr} {k l:Nat} {xs ys:Array Value} {x y a b:Value} {Q:Option Value→Shared→Prop} (D:ZipApart Z TI TO i j u v)
  (eZ:IsZip s.heap Z TI TO .none) (eI:IsPair s.heap TI (.ref i) (.ref j)) (eO:IsPair s.heap TO a b) (ei:s.heap.IsTupleIter i u k) (ej:s.heap.IsTupleIter j v l) (eu:s.heap.IsTuple u xs) (ev:s.heap.IsTuple v ys) (hx:xs[k]?=some x) (hy:ys[l]?=some y)
  (hQ:∀ g,IsZip g Z TI TO (rawInt s.heap.objs.size)→IsPair g TO x y→g.IsTupleIter i u (k+1)→g.IsTupleIter j v (l+1)→IsPair g s.heap.objs.size x y→g.objs.size=s.heap.objs.size+1 →
   (∀ c o,c≠Z→c≠TO→c≠i→c≠j→s.heap.get? c=some o→g.get? c=some o)→Q (some (.ref s.heap.objs.size)) { s with heap:=g }):wpAny (model prog w) A (pyNext (.ref Z)) Q E s:=by
 have hT:s.TypeIs (.ref Z) "zip":=⟨_,eZ,rfl⟩
 unfold pyNext;refine wpAny_bind (wpAny_attempt (wpAny_callSpecial?_slot (name:=Str.ofString "__next__") hT F.slot_zip_next (wpAny_call_entry F.slot_zip_next hT F.entry_zip_next ?_ (F.args_zip_next_1 _))))
 show wpAny _ _ (field (.ref Z) 2 >>= _) _ _ _
 refine wpAny_bind (wpAny_field eZ rfl (x:=.bool false) rfl ?_)
 show wpAny _ _ (field (.ref Z) 3 >>= _) _ _ _
 refine wpAny_bind (wpAny_field eZ rfl (x:=.ref TI) rfl ?_); refine wpAny_bind (wpAny_seqItems eI rfl ?_)
 show wpAny _ _ (Builtin.SmallTypes.ownedTupleIsFree (.ref Z) >>= _) _ _ _
 refine wpAny_bind ?_; unfold Builtin.SmallTypes.ownedTupleIsFree;refine wpAny_bind (wpAny_field eZ rfl (x:=.none) rfl (wpAny_pure ?_)); simp only [if_true];refine wpAny_bind (wpAny_rule ?_); refine wpAny_bind (wpAny_field eZ rfl (x:=.ref TO) rfl ?_);refine wpAny_bind (wpAny_setField_rec eZ (by simp) fun g1 z1 t1=>?_)
 replace z1:IsZip g1 Z TI TO .ellipsis:=z1
 refine wpAny_bind ?_; simp only [List.zipIdx_cons,List.zipIdx_nil,List.forIn_cons,List.forIn_nil]; refine wpAny_bind (wpAny_bind (wpAny_onRaise ?_))
 show wpAny _ _ (Builtin.SmallTypes.nextOf (.ref i) >>= _) _ _ _
 refine wpAny_bind (vx (ei.extBut t1.extBut D.i1z) (eu.extBut t1.extBut D.l1z) hx fun g2 i2 t2=>wpAny_pure ?_);have o2:IsPair g2 TO a b:=t2.extBut _ _ D.TOi1 (t1.extBut _ _ D.TOz eO);refine wpAny_bind (wpAny_seqItems o2 rfl ?_); refine wpAny_bind (wpAny_updateSeq_pair o2 fun g3 o3 t3=>?_)
 replace o3:IsPair g3 TO x b:=o3
 refine wpAny_bind (wpAny_letGo (wpAny_pure ?_)); refine wpAny_bind (wpAny_bind (wpAny_onRaise ?_))
 show wpAny _ _ (Builtin.SmallTypes.nextOf (.ref j) >>= _) _ _ _
 refine wpAny_bind (vx (((ej.extBut t1.extBut D.i2z).extBut t2.extBut D.i12.symm).extBut t3.extBut D.TOi2.symm) (((ev.extBut t1.extBut D.l2z).extBut t2.extBut D.l2i1).extBut t3.extBut D.l2TO) hy fun g4 j4 t4=>wpAny_pure ?_);have o4:IsPair g4 TO x b:=t4.extBut _ _ D.TOi2 o3;refine wpAny_bind (wpAny_seqItems o4 rfl ?_); refine wpAny_bind (wpAny_updateSeq_pair o4 fun g5 o5 t5=>?_)
 replace o5:IsPair g5 TO x y:=o5
 refine wpAny_bind (wpAny_letGo (wpAny_pure (wpAny_pure ?_))); refine wpAny_bind (wpAny_seqItems o5 rfl ?_); refine wpAny_bind (wpAny_newTuple ?_);have sz:g5.objs.size=s.heap.objs.size:=by rw [t5.1,t4.1,t3.1,t2.1,t1.1]
 have z5:IsZip g5 Z TI TO .ellipsis:=t5.extBut _ _ D.TOz.symm (t4.extBut _ _ D.i2z.symm (t3.extBut _ _ D.TOz.symm (t2.extBut _ _ D.i1z.symm z1)));have k5:∀ c o,c≠Z→c≠TO→c≠i→c≠j→s.heap.get? c=some o→g5.get? c=some o:=fun c o c1 c2 c3 c4 q=>t5.extBut _ _ c2 (t4.extBut _ _ c4 (t3.extBut _ _ c2 (t2.extBut _ _ c3 (t1.extBut _ _ c1 q))));have i5:g5.IsTupleIter i u (k+1):=((i2.extBut t3.extBut D.TOi1.symm).extBut t4.extBut D.i12).extBut t5.extBut D.TOi1.symm;have j5:g5.IsTupleIter j v (l+1):=j4.extBut t5.extBut D.TOi2.symm;have lz:Z<g5.objs.size:=Heap.lt_size z5
 show wpAny _ _ (Builtin.SmallTypes.ownedTupleHandOut (.ref Z) (.ref g5.objs.size) >>= _) _ _ _
 refine wpAny_bind ?_; unfold Builtin.SmallTypes.ownedTupleHandOut;have z6:IsZip (g5.push { cls:=.type "tuple",data:=.seq #[x,y] }) Z TI TO .ellipsis:=Heap.get?_push_of_some _ z5;refine wpAny_bind (wpAny_setField_rec z6 (by simp) fun g7 z7 t7=>?_)
 replace z7:IsZip g7 Z TI TO (rawInt g5.objs.size):=z7
 refine wpAny_setField_rec z7 (by simp) fun g8 z8 t8=>?_
 replace z8:IsZip g8 Z TI TO (rawInt g5.objs.size):=z8
 have up:∀ c o,c≠Z→g5.get? c=some o→g8.get? c=some o:=fun c o c1 q=>t8.extBut _ _ c1 (t7.extBut _ _ c1 (Heap.get?_push_of_some _ q));have n8:IsPair g8 g5.objs.size x y:=t8.extBut _ _ (Nat.ne_of_gt lz) (t7.extBut _ _ (Nat.ne_of_gt lz) (Heap.get?_push_size _ rfl));have s8:g8.objs.size=g5.objs.size+1:=by rw [t8.1,t7.1,Heap.size_push]
 rw [sz] at z8 n8 s8;refine wpAny_pure ⟨_,rfl,wpAny_pure ?_⟩;rw [sz];obtain ⟨oi,qi⟩:=i5;obtain ⟨oj,qj⟩:=j5;exact hQ g8 z8 (up _ _ D.TOz o5) ⟨oi,up _ _ D.i1z qi.1,qi.2⟩ ⟨oj,up _ _ D.i2z qj.1,qj.2⟩ n8 s8 fun c o c1 c2 c3 c4 q=>up c o c1 (k5 c o c1 c2 c3 c4 q)
theorem zN {Z TI TO i j u v:Addr} {k:Nat} {xs:Array Value} {Q:Option Value→Shared→Prop} (hd0:A.handled=none) (D:ZipApart Z TI TO i j u v)
    (eZ:IsZip s.heap Z TI TO .none) (eI:IsPair s.heap TI (.ref i) (.ref j)) (ei:s.heap.IsTupleIter i u k) (eu:s.heap.IsTuple u xs) (hx:xs[k]?=none)
    (hQ:∀ g,(∀ c o,c≠Z→c≠TO→c≠i→c≠j→s.heap.get? c=some o→g.get? c=some o)→Q none { s with heap:=g }):wpAny (model prog w) A (pyNext (.ref Z)) Q E s:=by
  have hT:s.TypeIs (.ref Z) "zip":=⟨_,eZ,rfl⟩
  have body:∀ (E':Value→Shared→Prop) (Q':Fin→Shared→Prop),(∀ g e,(∀ c o,c≠Z→c≠TO→c≠i→c≠j→s.heap.get? c=some o→g.get? c=some o)→(∃ o,g.get? e=some o∧o.cls=.type "StopIteration")→E' (.ref e) { s with heap:=g }) →
      wpAny (model prog w) A.in1 (Builtin.«zip.__next__» ⟨[.ref Z],[]⟩) Q' E' s:=fun E' Q' hE=>by
    show wpAny _ _ (field (.ref Z) 2 >>= _) _ _ _
    refine wpAny_bind (wpAny_field eZ rfl (x:=.bool false) rfl ?_)
    show wpAny _ _ (field (.ref Z) 3 >>= _) _ _ _
    refine wpAny_bind (wpAny_field eZ rfl (x:=.ref TI) rfl ?_); refine wpAny_bind (wpAny_seqItems eI rfl ?_)
    show wpAny _ _ (Builtin.SmallTypes.ownedTupleIsFree (.ref Z) >>= _) _ _ _
    refine wpAny_bind ?_; unfold Builtin.SmallTypes.ownedTupleIsFree;refine wpAny_bind (wpAny_field eZ rfl (x:=.none) rfl (wpAny_pure ?_)); simp only [if_true];refine wpAny_bind (wpAny_rule ?_); refine wpAny_bind (wpAny_field eZ rfl (x:=.ref TO) rfl ?_);refine wpAny_bind (wpAny_setField_rec eZ (by simp) fun g1 z1 t1=>?_)
    replace z1:IsZip g1 Z TI TO .ellipsis:=z1
    refine wpAny_bind ?_; simp only [List.zipIdx_cons,List.zipIdx_nil,List.forIn_cons,List.forIn_nil]; refine wpAny_bind (wpAny_bind (wpAny_onRaise ?_))
    show wpAny _ _ (Builtin.SmallTypes.nextOf (.ref i) >>= _) _ _ _
    refine wpAny_bind (Bf hd0 (ei.extBut t1.extBut D.i1z) (eu.extBut t1.extBut D.l1z) hx fun g2 e t2 he=>?_);obtain ⟨oe,q1,q2⟩:=he;have z2:IsZip g2 Z TI TO .ellipsis:=t2 _ _ D.i1z.symm z1;have ne:e≠Z:=fun q=>by subst q; rw [z2] at q1; cases q1; simp at q2
    refine wpAny_setField_rec z2 (by simp) fun g3 _ t3=>hE g3 e (fun c o c1 _ c3 _ q=>t3.extBut _ _ c1 (t2 _ _ c3 (t1.extBut _ _ c1 q))) ⟨oe,t3.extBut _ _ ne q1,q2⟩
  unfold pyNext;refine wpAny_bind (wpAny_attempt (wpAny_callSpecial?_slot (name:=Str.ofString "__next__") hT F.slot_zip_next (wpAny_call_entry F.slot_zip_next hT F.entry_zip_next (body _ _ fun g e hk he=>?_) (F.args_zip_next_1 _))));obtain ⟨o,q1,q2⟩:=he;exact wpAny_bind (wpAny_isInstance (T:="StopIteration") (b:=true) ⟨o,q1,q2⟩ isSubtype_stop (wpAny_pure (hQ _ hk)))
end
theorem ma {h:Heap} {a:Addr} {its:Array Value} (p:IsTup h a its):h.IsTuple a its:=p
def zP (K:W.Frag) (a b:Addr):It :=
  ⟨fun i H=>∃ xs ys x y,SqT K H a xs∧SqT K H b ys∧xs[i]?=some x∧ys[i]?=some y,
   fun i H v H'=>∃ T,v=.ref T∧H T=none∧∀ xs ys,SqT K H a xs→SqT K H b ys→∃ x y,xs[i]?=some x∧ys[i]?=some y∧H'=upd H T (.tup [x,y]),
   fun i H=>∃ xs ys,SqT K H a xs∧SqT K H b ys∧xs.length≤i⟩
theorem wZ {P:Program} {w:World} {K:W.Frag} {elts:List Expr} {kt:Nat} {pt:Pos} {a b n:Addr} (ha:a<n) (hb:b<n) :
    pF P w K (.Tuple elts kt pt) (zP K a b) [n+4,n+2,n+3,n,n+1] (n+4) (fun i h=>IsZip h (n+4) (n+2) (n+3) .none∧IsPair h (n+2) (.ref n) (.ref (n+1))∧(∃ x y,IsPair h (n+3) x y)∧h.IsTupleIter n a i∧h.IsTupleIter (n+1) b i) where
  mem:=by simp
  obj:=fun i h st c hc=>by
    obtain ⟨z1,z2,⟨x,y,z3⟩,⟨o4,e4,c4,d4⟩,⟨o5,e5,c5,d5⟩⟩:=st;simp only [List.mem_cons,List.not_mem_nil,or_false] at hc;rcases hc with rfl | rfl | rfl | rfl | rfl
    · exact ⟨_,z1,fun v z=>by cases z⟩
    · exact ⟨_,z2,fun v z=>by cases z⟩
    · exact ⟨_,z3,fun v z=>by cases z⟩
    · exact ⟨_,e4,fun v z=>by rw [d4] at z; cases z⟩
    · exact ⟨_,e5,fun v z=>by rw [d5] at z; cases z⟩
  keep:=fun i h h' st k=>by
    obtain ⟨z1,z2,⟨x,y,z3⟩,z4,z5⟩:=st;exact ⟨k _ (by simp) _ z1,k _ (by simp) _ z2,⟨x,y,k _ (by simp) _ z3⟩,z4.at fun o e=>k _ (by simp) o e,z5.at fun o e=>k _ (by simp) o e⟩
  item:=by
    intro X hP hw hK hc i pins s σ H E I hf st hg;subst hP hw hK;obtain ⟨xs,ys,x,y,hqa,hqb,hx,hy⟩:=hg;obtain ⟨its,rv,p,hz⟩:=I.tuple hqa;obtain ⟨jts,rw',p',hz'⟩:=I.tuple hqb;obtain ⟨u,hu,ru⟩:=rv.get hx;obtain ⟨u',hu',ru'⟩:=rw'.get hy;obtain ⟨z1,z2,⟨x0,y0,z3⟩,z4,z5⟩:=st;have D:ZipApart (n+4) (n+2) (n+3) n (n+1) a b:=PyProof.Rows.zipApart_new ha hb;have ltz:n+4<s.heap.objs.size:=Heap.lt_size z1;refine w9 D z1 z2 z3 z4 z5 (ma p) (ma p') (x:=u) (y:=u') (by simpa using hu) (by simpa using hu') fun h' a1 a2 a3 a4 a5 a6 hk=>?_;refine ⟨_,rfl,wpAny_letOwnedTupleGo_zip (s:={ s with heap:=h' }) a1 fun h2 b1 hs=>?_⟩;have neT:∀ {c:Addr},c≤n+4→c≠s.heap.objs.size:=fun h=>Nat.ne_of_lt (Nat.lt_of_le_of_lt h ltz);have kk:∀ c o,c∉[n+4,n+3,n,n+1]→s.heap.get? c=some o→h2.get? c=some o:=fun c o hc e=>by
      simp only [List.mem_cons,List.not_mem_nil,or_false,not_or] at hc;exact (hs.2 c hc.1).trans (hk c o hc.1 hc.2.1 hc.2.2.1 hc.2.2.2 e)
    have q2:h2.get? (n+2)=_:=kk _ _ (by simp only [List.mem_cons,List.not_mem_nil,or_false,not_or]; exact ⟨D.TIz,D.TITO,D.TIi1,D.TIi2⟩) z2;have q3:h2.get? (n+3)=_:=(hs.2 _ D.TOz).trans a2;obtain ⟨o4,e4,c4⟩:=a3;obtain ⟨o5,e5,c5⟩:=a4;have q4:h2.get? n=_:=(hs.2 _ D.i1z).trans e4;have q5:h2.get? (n+1)=_:=(hs.2 _ D.i2z).trans e5;have qT:h2.get? s.heap.objs.size=_:=(hs.2 _ (Ne.symm (neT (Nat.le_refl _)))).trans a5;have sub:∀ c∈[n+4,n+3,n,n+1],c∈[n+4,n+2,n+3,n,n+1]:=fun c hc=>by
      simp only [List.mem_cons,List.not_mem_nil,or_false] at hc ⊢;rcases hc with e | e | e | e
      · exact .inl e
      · exact .inr (.inr (.inl e))
      · exact .inr (.inr (.inr (.inl e)))
      · exact .inr (.inr (.inr (.inr e)))
    have I1:Inv X pins σ (upd H s.heap.objs.size (.tup [x,y])) { s with heap:=h2,toks:=s.toks }:=I.turnedL (ch:=[n+4,n+3,n,n+1]) kk (fun c hc=>hf c (sub c hc)) (fun c hc=>by
        simp only [List.mem_cons,List.not_mem_nil,or_false] at hc;rcases hc with rfl | rfl | rfl | rfl
        · exact ⟨_,b1⟩
        · exact ⟨_,q3⟩
        · exact ⟨_,q4⟩
        · exact ⟨_,q5⟩) (Nat.le_refl _) ⟨by show 2≤sizeLine; decide,[u,u'],.cons ru (.cons ru' .nil),_,qT,rfl,_,rfl⟩
    refine ⟨.ref s.heap.objs.size,_,I1,rfl,⟨_,rfl,I.hok.fresh (Nat.le_refl _),fun vs ws hv hw=>?_⟩,⟨b1,q2,⟨_,_,q3⟩,⟨_,q4,c4⟩,⟨_,q5,c5⟩⟩,fun c hc=>?_⟩
    · rw [I.tuple_inj hv hqa,I.tuple_inj hw hqb]
      exact ⟨x,y,hx,hy,rfl⟩
    · have hle:c≤n+4:=by
        simp only [List.mem_cons,List.not_mem_nil,or_false] at hc;rcases hc with rfl | rfl | rfl | rfl | rfl
        · exact Nat.le_refl _
        · exact Nat.le_add_right (n+2) 2
        · exact Nat.le_add_right (n+3) 1
        · exact Nat.le_add_right _ 4
        · exact Nat.le_add_right (n+1) 3
      rw [au (neT hle)];exact (hf c hc).1
  done:=by
    intro X hP hw hK hc i pins s σ H E I hf st hg;subst hP hw hK;obtain ⟨xs,ys,hqa,hqb,hl⟩:=hg;obtain ⟨its,rv,p,hz⟩:=I.tuple hqa;obtain ⟨jts,rw',p',hz'⟩:=I.tuple hqb;obtain ⟨z1,z2,⟨x0,y0,z3⟩,z4,z5⟩:=st;have D:ZipApart (n+4) (n+2) (n+3) n (n+1) a b:=PyProof.Rows.zipApart_new ha hb;have l1:=rv.length;have l2:=rw'.length;refine zN (I.ok.hd hc) D z1 z2 z4 (ma p) ?_ fun h' hk=>⟨rfl,?_⟩
    · simp; omega
    · have fp:∀ c∈[n+4,n+3,n,n+1],iX X pins H c:=fun c hc=>hf c (by
        simp only [List.mem_cons,List.not_mem_nil,or_false] at hc ⊢;rcases hc with e | e | e | e
        · exact .inl e
        · exact .inr (.inr (.inl e))
        · exact .inr (.inr (.inr (.inl e)))
        · exact .inr (.inr (.inr (.inr e))))
      have kk:∀ c o,c∉[n+4,n+3,n,n+1]→s.heap.get? c=some o→h'.get? c=some o:=fun c o hc e=>by
        simp only [List.mem_cons,List.not_mem_nil,or_false,not_or] at hc;exact hk c o hc.1 hc.2.1 hc.2.2.1 hc.2.2.2 e
      have nit:∀ c u,H c=some u→c∉[n+4,n+3,n,n+1]:=fun c u e z=>by rw [(fp c z).1] at e; cases e
      refine I.step (g':=s.gens) (d':=s.drawn) (t':=s.toks) (ch:=[n+4,n+3,n,n+1]) (fun c hc=>⟨(fp c hc).2.2.2.1,(fp c hc).2.1,(fp c hc).2.2.2.2.1,(fp c hc).2.2.2.2.2⟩) (fun c o _ _ hc e _=>kk c o hc e) (fun c o _ _ hc e _=>⟨o.slots,kk c o hc e⟩) (fun _ _ _ _ n=>n)
        (fun c o hc e=>⟨o,kk c o hc e⟩) (fun _ _ e=>e) (fun _ _ _ e=>e) (fun _ ps e=>⟨#[],by rw [e]; simp⟩) (fun m hm=>?_) (fun c u e=>?_) I.bare
      · obtain ⟨ob,es,ep,ho,r⟩:=hm
        exact ⟨ob,es,ep,kk _ ob (fun z=>(fp _ z).2.1 rfl) ho,r⟩
      · refine (I.hok c u e).stay (fun d v hd q=>kk d v ?_ q) (fun _ e'=>e') fun _ _ e'=>e'
        rcases hd with z | z
        · rw [z]; exact nit c u e
        · exact nit d _ z
  self:=fun _ _ _ _ _ st h=>wpAny_pyIter_zip st.1 h
section
variable {prog:Program} {w:World} {A:Around} {E:Value→Shared→Prop} {s:Shared}
abbrev zT1 (h:Heap) (u:Addr):Heap:=h.push { cls:=.type "tuple_iterator",data:=.fields #[.ref u,.int 0 0] }
abbrev zT2 (h:Heap) (u v:Addr):Heap:=(zT1 h u).push { cls:=.type "tuple_iterator",data:=.fields #[.ref v,.int 0 0] }
abbrev zT3 (h:Heap) (u v:Addr):Heap:=(zT2 h u v).push { cls:=.type "tuple",data:=.seq #[.ref h.objs.size,.ref (zT1 h u).objs.size] }
abbrev zT4 (h:Heap) (u v:Addr):Heap:=(zT3 h u v).push { cls:=.type "tuple",data:=.seq #[.none,.none] }
abbrev zT5 (h:Heap) (u v:Addr):Heap:=(zT4 h u v).push { cls:=.type "zip",data:=.fields #[.none,.bool false,.bool false,.ref (zT2 h u v).objs.size,.ref (zT3 h u v).objs.size] }
theorem zO (u v:Addr) (xs ys:Array Value):Meets (Builtin.«zip.__new__» ⟨[.type "zip",.ref u,.ref v],[]⟩) (fun _ R s=>s.heap.IsTuple u xs∧s.heap.IsTuple v ys∧R (.ok (.ret (.ref (zT4 s.heap u v).objs.size))) { s with heap:=zT5 s.heap u v }) :=
 .of_wp fun prog w A R s h=>by
  obtain ⟨hp,g,d,tk,os⟩:=s; obtain ⟨t1,t2,q⟩:=h;have sz:=sub_zip;have L1:Heap.IsTuple (Shared.heap ⟨hp,g,d,tk,os⟩) u xs:=t1;have L2:Heap.IsTuple (Shared.heap ⟨hp.push { cls:=.type "tuple_iterator",data:=.fields #[.ref u,.int 0 0] },g,d,tk,os⟩) v ys:=Heap.IsTuple.push t2 _
  wp_walk using wpAny_pyIter_tuple L1,wpAny_pyIter_tuple L2
  exact ⟨_,rfl,q⟩
theorem w8 {u v:Addr} {xs ys:Array Value} {Q:Value→Shared→Prop} (t1:s.heap.IsTuple u xs) (t2:s.heap.IsTuple v ys)
  (q:∀ g,IsZip g (s.heap.objs.size+4) (s.heap.objs.size+2) (s.heap.objs.size+3) .none→IsPair g (s.heap.objs.size+2) (.ref s.heap.objs.size) (.ref (s.heap.objs.size+1))→IsPair g (s.heap.objs.size+3) .none .none →
   g.IsTupleIter s.heap.objs.size u 0→g.IsTupleIter (s.heap.objs.size+1) v 0→(∀ c o,s.heap.get? c=some o→g.get? c=some o)→Q (.ref (s.heap.objs.size+4)) { s with heap:=g }) :
  wpAny (model prog w) A (call (.type "zip") [.ref u,.ref v]) Q E s:=by
 refine callType_new F.called_zip (by decide) (F.typeCall_zip_2 _ _) (F.newCall_zip_2 _ _) (fun obj=>F.args_object_init_3 obj _ _) F.entry_zip_new (zO u v xs ys) ⟨t1,t2,?_⟩;have y1:(zT1 s.heap u).objs.size=s.heap.objs.size+1:=Heap.size_push ..;have y2:(zT2 s.heap u v).objs.size=s.heap.objs.size+2:=by rw [Heap.size_push,y1]
 have y3:(zT3 s.heap u v).objs.size=s.heap.objs.size+3:=by rw [Heap.size_push,y2]
 have y4:(zT4 s.heap u v).objs.size=s.heap.objs.size+4:=by rw [Heap.size_push,y3]
 have k5:(zT5 s.heap u v).get? (zT4 s.heap u v).objs.size=some _:=Heap.get?_push_size _ rfl;have k4:(zT5 s.heap u v).get? (zT3 s.heap u v).objs.size=some _:=Heap.get?_push_of_some _ (Heap.get?_push_size _ rfl);have k3:(zT5 s.heap u v).get? (zT2 s.heap u v).objs.size=some _:=Heap.get?_push_of_some _ (Heap.get?_push_of_some _ (Heap.get?_push_size _ rfl));have k2:(zT5 s.heap u v).get? (zT1 s.heap u).objs.size=some _:=Heap.get?_push_of_some _ (Heap.get?_push_of_some _ (Heap.get?_push_of_some _ (Heap.get?_push_size _ rfl)));have k1:(zT5 s.heap u v).get? s.heap.objs.size=some _:=Heap.get?_push_of_some _ (Heap.get?_push_of_some _ (Heap.get?_push_of_some _ (Heap.get?_push_of_some _ (Heap.get?_push_size _ rfl))))
 show _∧_
 rw [y2,y3,y4] at k5;rw [y1,y2] at k3;rw [y3] at k4;rw [y1] at k2;refine ⟨by rw [y4]; exact ⟨_,k5,rfl⟩,?_⟩;rw [y4];exact q _ k5 k3 k4 ⟨_,k1,rfl,rfl⟩ ⟨_,k2,rfl,rfl⟩ fun c o z=>Heap.get?_push_of_some _ (Heap.get?_push_of_some _ (Heap.get?_push_of_some _ (Heap.get?_push_of_some _ (Heap.get?_push_of_some _ z))))
end
section
variable {X:Cx} {elts:List Expr} {kt:Nat} {pt:Pos}
def Br (K:W.Frag) (ta:TA):TI:=fun σ H R=>ta σ H fun vs H1=>∃ a b,vs=[.ref a,.ref b]∧(((∃ xs,SqL K H1 a xs)∧(∃ ys,SqL K H1 b ys)∧R (Itz K a b) H1)∨((∃ xs,SqT K H1 a xs)∧(∃ ys,SqT K H1 b ys)∧R (zP K a b) H1))
theorem Aw {a b:Expr} {ta:TA} {p pos:Pos} (hg:Gl X "zip") (hm:X.mg "zip"=none) (ha:PA X [a,b] ta) (hs:starEach [a,b] X.env=[(false,eval a X.env),(false,eval b X.env)]:=by rfl) (hs2:starEach [b] X.env=[(false,eval b X.env)]:=by rfl) :
  PI X (.Tuple elts kt pt) (.Call (.Name "zip" p) [a,b] [] pos) (Br X.K ta):=by
 intro pins s σ H R I h;refine Call_ (kj I hg hm (by rfl:bootBuiltins "zip"=some (.type "zip")) (PyProof.Rows.callWith_type1 (thn (ha pos pins s σ H _ I h) fun us s1 ⟨vs,H1,I1,r1,q1⟩=>?_) (by rw [hs,hs2]) (by rw [hs2]; rfl)));obtain ⟨a,b,e,q⟩:=q1;subst e;obtain ⟨u,v,rfl,ru,rv⟩:=r1.two
 cases (show u=Value.ref a from ru)
 cases (show v=Value.ref b from rv)
 rcases q with ⟨⟨xs,ha⟩,⟨ys,hb⟩,q⟩ | ⟨⟨xs,ha⟩,⟨ys,hb⟩,q⟩
 ·obtain ⟨its,_,p1,_⟩:=I1.list ha;obtain ⟨jts,_,p2,_⟩:=I1.list hb;have l1:a<s1.heap.objs.size:=let ⟨o,ho,_⟩:=p1.isList; Heap.lt_size ho;have l2:b<s1.heap.objs.size:=let ⟨o,ho,_⟩:=p2.isList; Heap.lt_size ho;refine call_zip_2 p1.isList p2.isList fun h' hz hTI hTO h1 h2 hsz hk=>wpAny_pyIter_zip (s:={ s1 with heap:=h' }) hz ?_;refine ⟨s1.heap.objs.size+4,_,_,_,H1,rfl,I1.kept (t':=s1.toks) hk,zI l1 l2,⟨hz,hTI,⟨_,_,hTO⟩,h1,h2⟩,fun c hc=>?_,q⟩
  have hle:s1.heap.objs.size≤c:=by
   simp only [List.mem_cons,List.not_mem_nil,or_false] at hc;rcases hc with rfl | rfl | rfl | rfl | rfl
   ·exact Nat.le_add_right _ _
   ·exact Nat.le_add_right _ _
   ·exact Nat.le_add_right _ _
   ·exact Nat.le_refl _
   ·exact Nat.le_add_right _ _
  exact I1.fpOk hle (I1.hok.fresh hle)
 ·obtain ⟨its,_,p1,_⟩:=I1.tuple ha;obtain ⟨jts,_,p2,_⟩:=I1.tuple hb;have l1:a<s1.heap.objs.size:=let ⟨o,ho,_⟩:=ma p1; Heap.lt_size ho;have l2:b<s1.heap.objs.size:=let ⟨o,ho,_⟩:=ma p2; Heap.lt_size ho;refine w8 (ma p1) (ma p2) fun h' hz hTI hTO h1 h2 hk=>wpAny_pyIter_zip (s:={ s1 with heap:=h' }) hz ?_;refine ⟨s1.heap.objs.size+4,_,_,_,H1,rfl,I1.kept (t':=s1.toks) hk,wZ l1 l2,⟨hz,hTI,⟨_,_,hTO⟩,h1,h2⟩,fun c hc=>?_,q⟩
  have hle:s1.heap.objs.size≤c:=by
   simp only [List.mem_cons,List.not_mem_nil,or_false] at hc;rcases hc with rfl | rfl | rfl | rfl | rfl
   ·exact Nat.le_add_right _ _
   ·exact Nat.le_add_right _ _
   ·exact Nat.le_add_right _ _
   ·exact Nat.le_refl _
   ·exact Nat.le_add_right _ _
  exact I1.fpOk hle (I1.hok.fresh hle)
end
theorem yG {K:W.Frag} {σ:St} {H:Hp} {ta:TA} {R:It→Hp→Prop} (h:ta σ H fun vs H1=>∃ a b,vs=[.ref a,.ref b]∧(((∃ xs,SqL K H1 a xs)∧(∃ ys,SqL K H1 b ys)∧R (Itz K a b) H1)∨((∃ xs,SqT K H1 a xs)∧(∃ ys,SqT K H1 b ys)∧R (zP K a b) H1))):Br K ta σ H R:=h
theorem tU {K:W.Frag} {σ:St} {H:Hp} {Q:VK} {te:TE} {l a b:Addr} {xs ys:List V} (F:Nat→V) (hx:H a=some (.tup xs)) (hy:H b=some (.tup ys)) (he:xs.length=ys.length) (hz:xs.length≤1000) (hl:H l=none)
  (step:∀ (i:Nat) x y H' (Q':VK),xs[i]?=some x→ys[i]?=some y→ai H H'→(∀ H5,ai H' H5→Q' (F i) H5)→te [some x,some y] H' Q')
  (fin:∀ H',ai H H'→H' l=some (.lst ((List.range xs.length).map F))→Q (.ref l) H'):jC (zP K a b) (xN K 2 (oU (eW 0) (oU (eW 1) Ae))) j0 te [none,none] l σ H Q:=by
 refine ⟨xs.length,fun i zs σ' H'=>zs=(List.range i).map F∧(∃ o o',σ'=[o,o'])∧ai H H'∧H' l=some (.lst zs),⟨rfl,⟨none,none,rfl⟩,ai.new hl,ae⟩,?_,?_⟩
 ·rintro i zs σ' H' hi ⟨rfl,⟨o,o',rfl⟩,s,e⟩;refine ⟨⟨xs,ys,xs[i],ys[i]'(by omega),SqT.of (s _ _ hx),SqT.of (s _ _ hy),by simp [hi],by simp⟩,fun v H2 z=>?_⟩;obtain ⟨T,rfl,hT,z⟩:=z;obtain ⟨x,y,ex,ey,rfl⟩:=z xs ys (SqT.of (s _ _ hx)) (SqT.of (s _ _ hy));have sT:=ai.new (o:=HO.tup [x,y]) hT;refine iU ae rfl (ic (dR (ic (dR (qu (fH (pR ?_)))))));refine step i x y _ _ ex ey (s.trans sT) fun H5 s5=>⟨s5 _ _ (sT _ _ e),?_,?_⟩
  ·rw [List.length_map,List.length_range];exact aP (by omega)
  ·refine ⟨?_,⟨_,_,rfl⟩,((s.trans sT).trans s5).later hl,ae⟩;rw [List.range_succ,List.map_append];rfl
 ·rintro zs σ' H' ⟨rfl,_,s,e⟩;exact ⟨⟨xs,ys,SqT.of (s _ _ hx),SqT.of (s _ _ hy),Nat.le_refl _⟩,fin H' s e⟩
def u7:V→List V→Hp→VK→Prop:=fun x vs H Q=>∃ l xs y,∃ k:Nat,x=.ref l∧vs=[.int (k:Int),y]∧H l=some (.lst xs)∧k≤xs.length∧xs.length≤1000∧Q .non (upd H l (.lst (xs.take k++y::xs.drop k)))
theorem Ai (its:List Value) (w:Value) (k:Nat) (h:k≤its.length):(its.toArray.extract 0 (min k its.toArray.size)).push w++its.toArray.extract (min k its.toArray.size)=(its.take k++w::its.drop k).toArray:=by
 rw [List.size_toArray,Nat.min_eq_left h];apply Array.ext';simp
 exact List.take_of_length_le (by rw [List.length_drop]; omega)
theorem v3 {X:Cx}:MtM X "list.insert" u7:=by
 intro pins s σ H x vs v us Q I rx rv h;obtain ⟨l,xs,y,k,rfl,rfl,hH,hk,hz,q⟩:=h
 cases rx;obtain ⟨u,w,rfl,ru,rw'⟩:=rv.two;obtain ⟨tk,rfl⟩:=ru;obtain ⟨z,its,n,r,hl,e⟩:=I.lstM hH;obtain ⟨i,hi⟩:∃ i:Int,i=(k:Int):=⟨_,rfl⟩
 rw [← hi]
 have hf:¬ (!Builtin.List.listFitsIndex i)=true:=by
  have:=fitsIndex_both (k:=i) (by omega) (by omega)
  rw [this]; decide
 have hs:its.toArray.size≤sizeLine:=by rw [List.size_toArray]; omega
 have M:=PySem.AutoListH.list_insert_list_int_val_1 l its.toArray n i tk w hf hs;have hA:=F.args_list_insert_3 (.ref l) (.int i tk) w;refine call_meets F.slot_list_insert ⟨_,e,rfl⟩ F.entry_list_insert hA M ⟨e,?_⟩;refine ⟨.non,_,I.lset (its':=its.take k++w::its.drop k) hH e ?_ ((r.take k).append (.cons rw' (r.drop k))) ?_,rfl,q⟩
 ·have ik:(if i<0 then (i+((its.toArray.size:Nat):Int)).toNat else min i.toNat its.toArray.size)=min k its.toArray.size:=by rw [if_neg (by omega),hi,Int.toNat_natCast]
  show ((its.toArray.extract 0 (if i<0 then (i+((its.toArray.size:Nat):Int)).toNat else min i.toNat its.toArray.size)).push w++its.toArray.extract (if i<0 then (i+((its.toArray.size:Nat):Int)).toNat else min i.toNat its.toArray.size))=_
  rw [ik];exact Ai its w k (by omega)
 ·rw [List.length_append,List.length_take,List.length_cons,List.length_drop];have:(1001:Nat)≤sizeLine:=by decide
  omega
def Bv:List V→Hp→VK→Prop:=fun xs H Q=>∃ i j,xs=[.int i,.int j]∧Q (.int (if j > i then j else i)) H
theorem uS {X:Cx} (hc:X.calm=true):cn X (.builtin "max") Bv:=vI hc
theorem AV {H:Hp} {Q:VK} {i j:Int} (q:Q (.int (if j > i then j else i)) H):Bv [.int i,.int j] H Q:=⟨i,j,rfl,q⟩
theorem wA {H:Hp} {Q:VK} {l:Addr} {xs:List V} {y:V} {k:Nat} (h:H l=some (.lst xs)) (hk:k≤xs.length) (hz:xs.length≤1000) (q:Q .non (upd H l (.lst (xs.take k++y::xs.drop k)))):u7 (.ref l) [.int (k:Int),y] H Q :=
 ⟨l,xs,y,k,rfl,rfl,h,hk,hz,q⟩
theorem yO {H:Hp} {Q:VK} {l:Addr} {xs:List V} {y:V} {k:Nat} (h:H l=some (.lst xs)) (hy:xs[k]?=some y) (hz:xs.length≤1000) (q:Q y (upd H l (.lst (xs.eraseIdx k)))):yl (.ref l) [.int (k:Int)] H Q:=by
 have hk:=(List.getElem?_eq_some_iff.mp hy).1;exact ⟨l,xs,(k:Int),k,y,rfl,rfl,h,by omega,by omega,(pS (n:=xs.length) (i:=(k:Int)) (j:=k) (by unfold ixN; rw [if_pos (by omega),if_pos (by omega),Int.toNat_natCast])).1,hy,q⟩
def Ite (K:W.Frag) (a:Addr):It :=
  ⟨fun i H=>∃ xs x,SqL K H a xs∧xs[i]?=some x,
   fun i H v H'=>∃ T,v=.ref T∧H T=none∧∀ xs,SqL K H a xs→∃ x,xs[i]?=some x∧H'=upd H T (.tup [.int (i:Nat),x]),
   fun i H=>∃ xs,SqL K H a xs∧xs.length≤i⟩
theorem wV {P:Program} {w:World} {K:W.Frag} {elts:List Expr} {kt:Nat} {pt:Pos} {a n:Addr} (ha:a<n) :
    pF P w K (.Tuple elts kt pt) (Ite K a) [n+1,n] (n+1) (fun i h=>(∃ old,IsEnum h (n+1) n ((i:Nat):Int) old)∧h.IsListIter n a i) where
  mem:=by simp
  obj:=fun i h st c hc=>by
    obtain ⟨⟨old,z1⟩,⟨o4,e4,c4,d4⟩⟩:=st;simp only [List.mem_cons,List.not_mem_nil,or_false] at hc;rcases hc with rfl | rfl
    · exact ⟨_,z1,fun v z=>by cases z⟩
    · exact ⟨_,e4,fun v z=>by rw [d4] at z; cases z⟩
  keep:=fun i h h' st k=>by
    obtain ⟨⟨old,z1⟩,z4⟩:=st;exact ⟨⟨old,k _ (by simp) _ z1⟩,z4.at fun o e=>k _ (by simp) o e⟩
  item:=by
    intro X hP hw hK hc i pins s σ H E I hf st hg;subst hP hw hK;obtain ⟨xs,x,hqa,hx⟩:=hg;obtain ⟨its,rv,p,hz⟩:=I.list hqa;obtain ⟨u,hu,ru⟩:=rv.get hx;obtain ⟨⟨old,z1⟩,z4⟩:=st;have ltz:n+1<s.heap.objs.size:=Heap.lt_size z1;have nn:n+1≠n:=Nat.succ_ne_self n;refine wpAny_pyNext_enum_item z1 z4 p.isList (x:=u) (by simpa using hu) nn fun h' a1 a2 a3 a4 hk=>?_;refine ⟨_,rfl,wpAny_letOwnedTupleGo_enum (s:={ s with heap:=h',toks:=s.toks+1 }) a1 fun h2 b1 hs=>?_⟩;have neT:∀ {c:Addr},c≤n+1→c≠s.heap.objs.size:=fun h=>Nat.ne_of_lt (Nat.lt_of_le_of_lt h ltz);have kk:∀ c o,c∉[n+1,n]→s.heap.get? c=some o→h2.get? c=some o:=fun c o hc e=>by
      simp only [List.mem_cons,List.not_mem_nil,or_false,not_or] at hc;exact (hs.2 c hc.1).trans (hk c o hc.1 hc.2 e)
    obtain ⟨o4,e4,c4⟩:=a2;have q4:h2.get? n=_:=(hs.2 _ (Ne.symm nn)).trans e4;have qT:h2.get? s.heap.objs.size=_:=(hs.2 _ (Ne.symm (neT (Nat.le_refl _)))).trans a3;have I1:Inv X pins σ (upd H s.heap.objs.size (.tup [.int (i:Nat),x])) { s with heap:=h2,toks:=s.toks+1 }:=I.turnedL (ch:=[n+1,n]) kk hf (fun c hc=>by
        simp only [List.mem_cons,List.not_mem_nil,or_false] at hc;rcases hc with rfl | rfl
        · exact ⟨_,b1⟩
        · exact ⟨_,q4⟩) (Nat.le_refl _) ⟨by show 2≤sizeLine; decide,[.int (i:Nat) s.toks,u],.cons ⟨_,rfl⟩ (.cons ru .nil),_,qT,rfl,_,rfl⟩
    refine ⟨.ref s.heap.objs.size,_,I1,rfl,⟨_,rfl,I.hok.fresh (Nat.le_refl _),fun vs hv=>?_⟩,⟨⟨_,b1⟩,⟨_,q4,c4⟩⟩,fun c hc=>?_⟩
    · rw [I.list_inj hv hqa]
      exact ⟨x,hx,rfl⟩
    · have hle:c≤n+1:=by
        simp only [List.mem_cons,List.not_mem_nil,or_false] at hc;rcases hc with rfl | rfl
        · exact Nat.le_refl _
        · exact Nat.le_add_right _ 1
      rw [au (neT hle)];exact (hf c hc).1
  done:=by
    intro X hP hw hK hc i pins s σ H E I hf st hg;subst hP hw hK;obtain ⟨xs,hqa,hl⟩:=hg;obtain ⟨its,rv,p,hz⟩:=I.list hqa;obtain ⟨⟨old,z1⟩,z4⟩:=st;have l1:=rv.length;refine wpAny_pyNext_enum_end (I.ok.hd hc) z1 z4 p.isList (by simp; omega) fun h' hk=>⟨rfl,?_⟩
    have kk:∀ c o,c∉[n+1,n]→s.heap.get? c=some o→h'.get? c=some o:=fun c o hc e=>by
      simp only [List.mem_cons,List.not_mem_nil,or_false,not_or] at hc;exact hk c o hc.2 e
    have nit:∀ c u,H c=some u→c∉[n+1,n]:=fun c u e z=>by rw [(hf c z).1] at e; cases e
    refine I.step (g':=s.gens) (d':=s.drawn) (t':=s.toks) (ch:=[n+1,n]) (fun c hc=>⟨(hf c hc).2.2.2.1,(hf c hc).2.1,(hf c hc).2.2.2.2.1,(hf c hc).2.2.2.2.2⟩) (fun c o _ _ hc e _=>kk c o hc e) (fun c o _ _ hc e _=>⟨o.slots,kk c o hc e⟩) (fun _ _ _ _ n=>n)
      (fun c o hc e=>⟨o,kk c o hc e⟩) (fun _ _ e=>e) (fun _ _ _ e=>e) (fun _ ps e=>⟨#[],by rw [e]; simp⟩) (fun m hm=>?_) (fun c u e=>?_) I.bare
    · obtain ⟨ob,es,ep,ho,r⟩:=hm
      exact ⟨ob,es,ep,kk _ ob (fun z=>(hf _ z).2.1 rfl) ho,r⟩
    · refine (I.hok c u e).stay (fun d v hd q=>kk d v ?_ q) (fun _ e'=>e') fun _ _ e'=>e'
      rcases hd with z | z
      · rw [z]; exact nit c u e
      · exact nit d _ z
  self:=fun _ _ _ _ _ st h=>let ⟨⟨_,z⟩,_⟩:=st; wpAny_pyIter_enum z h
section
variable {X:Cx} {elts:List Expr} {kt:Nat} {pt:Pos}
def Bm (K:W.Frag) (ta:TA):TI:=fun σ H R=>ta σ H fun vs H1=>∃ a,vs=[.ref a]∧(∃ xs,SqL K H1 a xs)∧R (Ite K a) H1
theorem Au {a:Expr} {ta:TA} {p pos:Pos} (hg:Gl X "enumerate") (hm:X.mg "enumerate"=none) (ha:PA X [a] ta) (hs:starEach [a] X.env=[(false,eval a X.env)]:=by rfl) :
  PI X (.Tuple elts kt pt) (.Call (.Name "enumerate" p) [a] [] pos) (Bm X.K ta):=by
 intro pins s σ H R I h;refine Call_ (kj I hg hm (by rfl:bootBuiltins "enumerate"=some (.type "enumerate")) (PyProof.Rows.callWith_type1 (thn (ha pos pins s σ H _ I h) fun us s1 ⟨vs,H1,I1,r1,q1⟩=>?_) hs rfl));obtain ⟨a,e,⟨xs,ha⟩,q⟩:=q1;subst e;obtain ⟨u,rfl,ru⟩:=r1.one
 cases (show u=Value.ref a from ru)
 obtain ⟨its,_,p1,_⟩:=I1.list ha;have l1:a<s1.heap.objs.size:=let ⟨o,ho,_⟩:=p1.isList; Heap.lt_size ho;refine call_enumerate_list p1.isList fun h' hz h1 hsz hk=>wpAny_pyIter_enum (s:={ s1 with heap:=h' }) hz ?_;refine ⟨s1.heap.objs.size+1,_,_,_,H1,rfl,I1.kept (t':=s1.toks) hk,wV l1,⟨⟨_,hz⟩,h1⟩,fun c hc=>?_,q⟩
 have hle:s1.heap.objs.size≤c:=by
  simp only [List.mem_cons,List.not_mem_nil,or_false] at hc;rcases hc with rfl | rfl
  ·exact Nat.le_add_right _ _
  ·exact Nat.le_refl _
 exact I1.fpOk hle (I1.hok.fresh hle)
end
theorem sQ {K:W.Frag} {ta:TA} {σ:St} {H:Hp} {R:It→Hp→Prop} (h:ta σ H fun vs H1=>∃ a,vs=[.ref a]∧(∃ xs,SqL K H1 a xs)∧R (Ite K a) H1):Bm K ta σ H R:=h
theorem vP {K:W.Frag} {σ:St} {H:Hp} {a:Addr} {xs:List V} {g:TG} {tb:TS} {D:cZ} (Pv:Nat→St→Hp→Prop) (h0:Pv 0 σ H) (hl:∀ i σ H,i≤xs.length→Pv i σ H→SqL K H a xs)
  (hs:∀ i x σ H T,xs[i]?=some x→Pv i σ H→H T=none→g (.ref T) σ (upd H T (.tup [.int (i:Nat),x])) fun σ2 H2=>tb { D with nx:=Pv (i+1),ct:=Pv (i+1),bk:=D.nx } σ2 H2) (hd:∀ σ H,Pv xs.length σ H→D.nx σ H):vA (Ite K a) g tb D σ H:=by
 refine ⟨fun i m σ H=>i≤xs.length∧m=xs.length - i∧Pv i σ H,⟨_,Nat.zero_le _,rfl,h0⟩,fun i m σ H ⟨hi,hm,p⟩=>?_⟩;by_cases h:i<xs.length
 ·refine .inr ⟨⟨xs,xs[i],hl i σ H hi p,by simp [h]⟩,Pv (i+1),fun σ' H' p'=>⟨xs.length - (i+1),by omega,by omega,rfl,p'⟩,fun x H' y=>?_⟩;obtain ⟨T,rfl,hT,y⟩:=y;obtain ⟨x,hx,rfl⟩:=y xs (hl i σ H hi p);exact hs i x σ H T hx p hT
 ·have e:i=xs.length:=by omega
  subst e;exact .inl ⟨⟨xs,hl _ σ H hi p,Nat.le_refl _⟩,hd σ H p⟩
end L2
open PySem PySem.Spec PyProof.Rows
namespace L2
structure Bh (K:W.Frag) (C:Addr) (m:Str) (f:Addr):Prop where
 ga:W.specialIn K (.ref C) "__getattribute__"=some (some (.builtin "type.__getattribute__"))
 rd:W.readsIn K C (.type "type")=true
 at_:W.findCls K (.ref C) (.type "type") m=some (.val (.ref f))
 kp:W.keepIn K (.ref f)=true
section
variable {X:Cx} {CX:CXT} {k:Nat} {f C:Addr} {fd:FuncData} {ps:List Str} {sp:Sp} {dvs:List V} {ds:List Value} {E:XK} {x m:Str} {p pos apos:Pos} {e o:Expr} {es:List Expr} {ta:TE} {t:TA}
theorem x8 {pl:Sem Bool} (hg:Gl X x) (hm:X.mg x=some (.ref C)) (c:Bh X.K C m f) (F:aU X.prog X.w X.K X.mg X.base CX k f fd ps sp) (hr:cS k X.A) (hb:aK X.K fd ps ds) (hd:aV dvs ds) (hx:fL CX X E) (ha:PA X (e::es) t)
  (hdb:(x==("__debug__":Str))=false:=by decide)
  (hst:starEach (e::es) X.env=(false,eval e X.env)::starEach es X.env:=by rfl) (hpl:(backTo pos (starEach es X.env)).any (·.1)=false:=by rfl)
  (ht:eval (.Call (.Attribute (.Name x p) m apos) (e::es) [] pos) X.env=(do
   let ov ← eval (.Name x p) X.env
   standAt apos.atName
   let (f,first) ← holding [ov] (getMethod ov m pl)
   callWith pos f first (backTo pos (starEach (e::es) X.env)) (backToKw pos (keywordEach [] X.env))):=by rfl) :
  PE X (.Call (.Attribute (.Name x p) m apos) (e::es) [] pos) (vo sp dvs E t):=by
 intro pins s σ H Q I h;refine W.methodCall_KW (pl:=pl) (thn ((dA (v:=.ref C) hg hm rfl hdb) pins s σ H (fun x H1=>x=.ref C∧H1=H) I ⟨rfl,rfl⟩) fun u s1 ⟨x,H1,I1,rx,ex,eh⟩=>?_) ht;subst ex; subst eh;obtain rfl:u=Value.ref C:=rx
 refine W.method_cls I1.kIn c.ga (W.cls_value I1.kIn c.rd c.at_ rfl ?_);have I2:=I1.tok (s1.toks+1);refine W.callWith_K (first:=[]) (h₀:=X.base) I.ok.mod.kin c.kp (thn (ha pos pins _ σ H1 _ I2 h) fun us s2 ⟨vs,H2,I3,r,q2⟩=>⟨I3.kIn,?_⟩) hst hpl;exact qx (us:=us) (vs:=vs) F hr hb hd hx I3 r q2
end
theorem aI {X:Cx} {s:Stmt} {ss:List Stmt} {r:TS} {C:TS→Prop} (d:PS X s r) (k:∀ r',r'=r→∃ ts,PSs X ss ts∧C (Be r' ts)):∃ ts,PSs X (s::ss) ts∧C ts :=
 let ⟨_,h1,h2⟩:=k r rfl
 ⟨_,aJ d h1,h2⟩
theorem cK {X:Cx} {s:Stmt} {r:TS} {C:TS→Prop} (d:PS X s r) (k:∀ r',r'=r→C r'):∃ ts,PSs X [s] ts∧C ts:=⟨_,aj d,k r rfl⟩
theorem CN {r r':TS} {D:cZ} {σ:St} {H:Hp} (e:r'=r) (h:r D σ H):r' D σ H:=e ▸ h
theorem jO {t u:TS} {D:cZ} {σ:St} {H:Hp} (k:∀ u',u'=u→t { D with nx:=u' D } σ H):Be t u D σ H:=k u rfl
theorem En {us:List Value} (h:us.length=1):∃ a0,us=[a0]:=match us,h with | [a0],_=>⟨a0,rfl⟩
theorem Eo {us:List Value} (h:us.length=2):∃ a0 a1,us=[a0,a1]:=match us,h with | [a0,a1],_=>⟨a0,a1,rfl⟩
theorem Ep {us:List Value} (h:us.length=3):∃ a0 a1 a2,us=[a0,a1,a2]:=match us,h with | [a0,a1,a2],_=>⟨a0,a1,a2,rfl⟩
theorem Er {us:List Value} (h:us.length=4):∃ a0 a1 a2 a3,us=[a0,a1,a2,a3]:=match us,h with | [a0,a1,a2,a3],_=>⟨a0,a1,a2,a3,rfl⟩
theorem Es {us:List Value} (h:us.length=5):∃ a0 a1 a2 a3 a4,us=[a0,a1,a2,a3,a4]:=match us,h with | [a0,a1,a2,a3,a4],_=>⟨a0,a1,a2,a3,a4,rfl⟩
section
variable {κ:Type} [DecidableEq κ]
def dW (kvs:List (κ×V)) (k:κ):Option V:=(kvs.find? fun kv=>decide (kv.1=k)).map (·.2)
def cH (kvs:List (κ×V)) (k:κ) (v:V):List (κ×V) :=
 if (kvs.any fun kv=>decide (kv.1=k))=true then kvs.map (fun kv=>if kv.1=k then (kv.1,v) else kv) else kvs++[(k,v)]
def eV (kvs:List (κ×V)) (k:κ):List (κ×V):=kvs.filter fun kv=>decide (kv.1≠k)
theorem gj {p:κ×V} {r:List (κ×V)} {k:κ} (e:p.1=k):dW (p::r) k=some p.2:=by simp [dW,List.find?_cons,e]
theorem gi {p:κ×V} {r:List (κ×V)} {k:κ} (e:¬ p.1=k):dW (p::r) k=dW r k:=by simp [dW,List.find?_cons,e]
theorem tM (k:κ):∀ kvs:List (κ×V),(kvs.any fun kv=>decide (kv.1=k))=(dW kvs k).isSome
 | []=>rfl
 | p::r=>by
  rw [List.any_cons];by_cases e:p.1=k
  ·simp only [gj e,decide_eq_true e,Bool.true_or,Option.isSome_some]
  ·rw [gi e,decide_eq_false e,Bool.false_or]; exact tM k r
theorem kP (kvs:List (κ×V)) (k:κ) (v:V):(cH kvs k v).length≤kvs.length+1:=by
 unfold cH
 split
 ·rw [List.length_map]; omega
 ·rw [List.length_append,List.length_cons,List.length_nil]; omega
theorem fM.isSome_eq {o:Option V} {u:Option Value} (r:fM o u):o.isSome=u.isSome:=by
 cases o with
 | none=>cases u with
  | none => rfl
  | some _ => exact (show False from r).elim
 | some _=>cases u with
  | none => exact (show False from r).elim
  | some _ => rfl
theorem KV.val {kvs:List (κ×V)} {vs:List (κ×Value)} (r:KV kvs vs) (k:κ):fM (dW kvs k) (valueAt vs k):=by
 unfold KV at r
 induction r with
 | nil=>exact True.intro
 | @cons p q ps qs h t ih =>
  obtain ⟨h1,h2⟩:=h;by_cases e:p.1=k
  ·have e':q.1=k:=h1.symm.trans e;have b:valueAt (q::qs) k=some q.2:=by simp [valueAt,List.find?_cons,e']
   rw [gj e,b]; exact h2
  ·have e':¬ q.1=k:=fun z=>e (h1.trans z);have b:valueAt (q::qs) k=valueAt qs k:=by simp [valueAt,List.find?_cons,e']
   rw [gi e,b]; exact ih
theorem KV.any {kvs:List (κ×V)} {vs:List (κ×Value)} (r:KV kvs vs) (k:κ):(kvs.any fun kv=>decide (kv.1=k))=vs.any fun kv=>decide (kv.1=k):=by
 unfold KV at r
 induction r with
 | nil=>rfl
 | cons h t ih=>rw [List.any_cons,List.any_cons,ih,h.1]
theorem KV.repl {kvs:List (κ×V)} {vs:List (κ×Value)} (r:KV kvs vs) (k:κ) {y:V} {u:Value} (ry:bG y u) :
  KV (kvs.map fun kv=>if kv.1=k then (kv.1,y) else kv) (vs.map fun kv=>if kv.1=k then (kv.1,u) else kv):=by
 unfold KV at r ⊢
 induction r with
 | nil=>exact .nil
 | @cons p q ps qs h t ih =>
  rw [List.map_cons,List.map_cons];refine .cons ?_ ih;obtain ⟨h1,h2⟩:=h;by_cases e:p.1=k
  ·rw [if_pos e,if_pos (h1.symm.trans e)]; exact ⟨h1,ry⟩
  ·rw [if_neg e,if_neg (fun z=>e (h1.trans z))]; exact ⟨h1,h2⟩
theorem KV.put {kvs:List (κ×V)} {vs:List (κ×Value)} (r:KV kvs vs) (k:κ) {y:V} {u:Value} (ry:bG y u):KV (cH kvs k y) (stored vs k u):=by
 unfold cH stored;rw [r.any k];by_cases e:(vs.any fun kv=>decide (kv.1=k))=true
 ·rw [if_pos e,if_pos e]; exact r.repl k ry
 ·rw [if_neg e,if_neg e]; exact Paired.snoc r ⟨rfl,ry⟩
theorem KV.drop {kvs:List (κ×V)} {vs:List (κ×Value)} (r:KV kvs vs) (k:κ):KV (eV kvs k) (without vs k):=by
 unfold KV at r ⊢;unfold eV without
 induction r with
 | nil=>exact .nil
 | @cons p q ps qs h t ih =>
  obtain ⟨h1,h2⟩:=h;rw [List.filter_cons,List.filter_cons];by_cases e:p.1=k
  ·have a:¬ decide (p.1≠k)=true:=by simp [e]
   have b:¬ decide (q.1≠k)=true:=by simp [h1.symm.trans e]
   rw [if_neg a,if_neg b]; exact ih
  ·have e':¬ q.1=k:=fun z=>e (h1.trans z);have a:decide (p.1≠k)=true:=by simp [e]
   have b:decide (q.1≠k)=true:=by simp [e']
   rw [if_pos a,if_pos b]; exact .cons ⟨h1,h2⟩ ih
theorem KV.length {kvs:List (κ×V)} {vs:List (κ×Value)} (r:KV kvs vs):kvs.length=vs.length:=Paired.length r
theorem xI (kvs:List (κ×V)) (k:κ):(eV kvs k).length≤kvs.length:=List.length_filter_le _ _
end
theorem md {P:Program} {w:World} {k:Key} {u:Value} (r:bG (kV k) u):(cB P w).is k u=true:=by
 cases k with
 | inl i=>obtain ⟨t,e⟩:=(show ∃ t,u=Value.int i t from r); subst e; exact sf P w i t
 | inr x=>obtain ⟨t,e⟩:=(show ∃ t,u=Value.str x t from r); subst e; exact sg P w x t
theorem oW {P:Program} {w:World}:∀ {ks:List Key} {us:List Value},aV (ks.map kV) us→ItemsAre (cB P w) ks us
 | [],_,r=>by rw [List.map_nil] at r; cases r; exact .nil
 | k::ks,_,r=>by
  rw [List.map_cons] at r
  cases r with
  | cons h t => exact .cons (md h) (oW t)
abbrev KT (H:Hp):List (List Key×V)→List (List Key×Addr×Value)→Prop:=Paired fun p q=>p.1=q.1∧H q.2.1=some (.tup (p.1.map kV))∧bG p.2 q.2.2
theorem KT.val {H:Hp} {kvs:List (List Key×V)} {xs:List (List Key×Addr×Value)} (r:KT H kvs xs) (k:List Key):fM (dW kvs k) ((atKey xs k).map (·.2)):=by
 induction r with
 | nil=>exact True.intro
 | @cons p q ps qs h t ih =>
  obtain ⟨h1,_,h2⟩:=h;by_cases e:p.1=k
  ·have e':q.1=k:=h1.symm.trans e;have b:atKey (q::qs) k=some q.2:=by simp [atKey,List.find?_cons,e']
   rw [gj e,b]; exact h2
  ·have e':¬ q.1=k:=fun z=>e (h1.trans z);have b:atKey (q::qs) k=atKey qs k:=by simp [atKey,List.find?_cons,e']
   rw [gi e,b]; exact ih
theorem KT.repl {H:Hp} {kvs:List (List Key×V)} {xs:List (List Key×Addr×Value)} (r:KT H kvs xs) (k:List Key) {y:V} {u:Value} (ry:bG y u) :
  KT H (kvs.map fun kv=>if kv.1=k then (kv.1,y) else kv) (xs.map (putAt k u)):=by
 induction r with
 | nil=>exact .nil
 | @cons p q ps qs h t ih =>
  rw [List.map_cons,List.map_cons];refine .cons ?_ ih;obtain ⟨h1,h2,h3⟩:=h;unfold putAt;by_cases e:p.1=k
  ·rw [if_pos e,if_pos (h1.symm.trans e)]; exact ⟨h1,h2,ry⟩
  ·rw [if_neg e,if_neg (fun z=>e (h1.trans z))]; exact ⟨h1,h2,h3⟩
theorem KT.put {H:Hp} {kvs:List (List Key×V)} {xs:List (List Key×Addr×Value)} (r:KT H kvs xs) (k:List Key) {b:Addr} {y:V} {u:Value} (hb:H b=some (.tup (k.map kV))) (ry:bG y u) :
  KT H (cH kvs k y) (storedH xs k b u):=by
 have e:(kvs.any fun kv=>decide (kv.1=k))=(atKey xs k).isSome:=by
  rw [tM,(r.val k).isSome_eq,Option.isSome_map]
 unfold cH storedH;rw [e];by_cases q:(atKey xs k).isSome=true
 ·rw [if_pos q,if_pos q]; exact r.repl k ry
 ·rw [if_neg q,if_neg q]; exact Paired.snoc r ⟨rfl,hb,ry⟩
theorem KT.keeps {H H':Hp} {kvs:List (List Key×V)} {xs:List (List Key×Addr×Value)} (r:KT H kvs xs) (ht:∀ b ys,H b=some (.tup ys)→H' b=some (.tup ys)):KT H' kvs xs :=
 Paired.mapP r fun _ _ z=>⟨z.1,ht _ _ z.2.1,z.2.2⟩
section
variable {P:Program} {w:World} {H:Hp} {h:Heap} {a:Addr}
theorem By {u:HO} (ok:HOk P w H h) (e:Rd H a u):bM P w H h a u:=e.ok ok
theorem lX {kvs:List (Key×V)} (ok:HOk P w H h) (e:Rd H a (.dK kvs)):kvs.length≤sizeLine∧(a==sysModules)=false∧∃ vs,KV kvs vs∧h.DictOf (cB P w) a vs :=
 show bM P w H h a (.dK kvs) from By ok e
theorem oQ {kvs:List (Key×V)} (ok:HOk P w H h) (e:H a=some (.dK kvs)):kvs.length≤sizeLine∧(a==sysModules)=false∧∃ vs,KV kvs vs∧h.DictOf (cB P w) a vs:=lX ok (.inl e)
theorem mf {ks:List Key} (ok:HOk P w H h) (e:H a=some (.tup (ks.map kV))):(tupleKind (cB P w)).is h ks a:=by
 obtain ⟨_,its,r,o,h1,h2,n,h3⟩:=(show bM P w H h a (.tup (ks.map kV)) from ok a _ e)
 exact ⟨o,its.toArray,n,h1,h2,h3,by simpa using oW r⟩
theorem oR {kvs:List (List Key×V)} (ok:HOk P w H h) (e:Rd H a (.dT kvs)):kvs.length≤sizeLine∧(a==sysModules)=false ∧
  ∃ xs,KT H kvs xs∧h.DictOfH (tupleKind (cB P w)) a xs:=by
 obtain ⟨z,y,xs,r,o,es,ep,h1,h2,h3,h4,h5⟩:=(show bM P w H h a (.dT kvs) from By ok e)
 refine ⟨z,y,xs,r,o,es,ep,h1,h2,h3,h4,fun x hx=>?_,h5⟩
 have all:∀ {l:List (List Key×V)} {m:List (List Key×Addr×Value)},KT H l m→∀ x∈m,(tupleKind (cB P w)).is h x.1 x.2.1:=by
  intro l m q
  induction q with
  | nil => intro x hx; exact nomatch hx
  | @cons p q ps qs hq t ih =>
   intro x hx;rcases List.mem_cons.mp hx with e | hx
   ·subst e;exact mf ok (by rw [← hq.1]; exact hq.2.1)
   ·exact ih x hx
 exact all r x hx
theorem Dv {kvs:List (List Key×V)} (ok:HOk P w H h) (e:H a=some (.dT kvs)):kvs.length≤sizeLine∧(a==sysModules)=false ∧
  ∃ xs,KT H kvs xs∧h.DictOfH (tupleKind (cB P w)) a xs:=oR ok (.inl e)
end
def dB (H:Hp) (a:Addr) (y:V) (r:Option V):Prop :=
 (∃ kvs k,Rd H a (.dK kvs)∧y=kV k∧r=dW kvs k)∨∃ kvs k b,Rd H a (.dT kvs)∧y=.ref b∧H b=some (.tup (k.map kV))∧r=dW kvs k
def jc (H:Hp) (a:Addr) (y v:V) (H':Hp):Prop :=
 (∃ kvs k,H a=some (.dK kvs)∧y=kV k∧kvs.length<sizeLine∧H'=upd H a (.dK (cH kvs k v))) ∨
 ∃ kvs k b,H a=some (.dT kvs)∧y=.ref b∧H b=some (.tup (k.map kV))∧kvs.length<sizeLine∧H'=upd H a (.dT (cH kvs k v))
theorem dB.k {H:Hp} {a:Addr} {kvs:List (Key×V)} {k:Key} (e:H a=some (.dK kvs)):dB H a (kV k) (dW kvs k):=.inl ⟨kvs,k,.inl e,rfl,rfl⟩
theorem jc.k {H:Hp} {a:Addr} {kvs:List (Key×V)} {k:Key} {v:V} (e:H a=some (.dK kvs)) (hl:kvs.length<sizeLine):jc H a (kV k) v (upd H a (.dK (cH kvs k v))):=.inl ⟨kvs,k,e,rfl,hl,rfl⟩
section
variable {X:Cx} {pins:List (Addr×Obj)} {σ:St} {H:Hp} {s:Shared} {a:Addr} {y v:V} {u r:Value} {o:Option V} {A:Around} {E:Value→Shared→Prop}
theorem Inv.big (I:Inv X pins σ H s):sysModules<s.heap.objs.size:=by
 have h:mainGlobals<s.heap.objs.size:=(I.mod.glob.keeps I.bk).lt;exact Nat.lt_trans (by decide) h
theorem vL {Q:Value→Shared→Prop} (hu:A.units+1<cLine) (I:Inv X pins σ H s) (g:dB H a y (some v)) (ry:bG y u) (h:∀ w' s',Inv X pins σ H s'→bG v w'→Q w' s') :
  wpAny (model X.prog X.w) A (getItem (.ref a) u) Q E s:=by
 rcases g with ⟨kvs,k,e,ey,l⟩ | ⟨kvs,k,b,e,ey,eb,l⟩
 ·subst ey;obtain ⟨z,hd,vs,rel,dd⟩:=lX I.hok e;obtain ⟨w',hw,rw'⟩:=fM.some_of (v:=v) (o:=valueAt vs k) (by rw [l]; exact rel.val k);exact wpAny_getItem_of (md ry) dd.mapOf hw (h w' _ (I.tok _) rw')
 ·subst ey
  cases (show u=Value.ref b from ry)
  obtain ⟨z,hd,xs,rel,dd⟩:=oR I.hok e;obtain ⟨w',hw,rw'⟩:=fM.some_of (v:=v) (o:=(atKey xs k).map (·.2)) (by rw [l]; exact rel.val k);obtain ⟨p,hp,hp2⟩:=Option.map_eq_some_iff.mp hw;refine wpAny_getItem_heap (tupleKind_room_in1 hu) (mf I.hok eb) dd hp ?_;rw [hp2];exact h w' _ (I.tok _) rw'
theorem Ej {Q:Value→Shared→Prop} (hu:A.units+1<cLine) (I:Inv X pins σ H s) (g:dB H a y o) (ry:bG y u) (h:∀ s',Inv X pins σ H s'→Q (.bool o.isSome) s') :
  wpAny (model X.prog X.w) A (compareOp .In u (.ref a)) Q E s:=by
 rcases g with ⟨kvs,k,e,ey,l⟩ | ⟨kvs,k,b,e,ey,eb,l⟩
 ·subst ey;obtain ⟨z,hd,vs,rel,dd⟩:=lX I.hok e;refine wpAny_in_of (md ry) hd dd.mapOf ?_;rw [← (rel.val k).isSome_eq,← l];exact h _ (I.tok _)
 ·subst ey
  cases (show u=Value.ref b from ry)
  obtain ⟨z,hd,xs,rel,dd⟩:=oR I.hok e;refine wpAny_in_heap (tupleKind_room_in1 hu) (mf I.hok eb) hd dd ?_;have q:=(rel.val k).isSome_eq;rw [Option.isSome_map] at q;rw [← q,← l];exact h _ (I.tok _)
theorem zY {Q:Value→Shared→Prop} (hu:A.units+1<cLine) (I:Inv X pins σ H s) (g:dB H a y o) (ry:bG y u) (h:∀ s',Inv X pins σ H s'→Q (.bool (!o.isSome)) s') :
  wpAny (model X.prog X.w) A (compareOp .NotIn u (.ref a)) Q E s:=by
 rcases g with ⟨kvs,k,e,ey,l⟩ | ⟨kvs,k,b,e,ey,eb,l⟩
 ·subst ey;obtain ⟨z,hd,vs,rel,dd⟩:=lX I.hok e;refine wpAny_notIn_of (md ry) hd dd.mapOf ?_;rw [← (rel.val k).isSome_eq,← l];exact h _ (I.tok _)
 ·subst ey
  cases (show u=Value.ref b from ry)
  obtain ⟨z,hd,xs,rel,dd⟩:=oR I.hok e;refine wpAny_notIn_heap (tupleKind_room_in1 hu) (mf I.hok eb) hd dd ?_;have q:=(rel.val k).isSome_eq;rw [Option.isSome_map] at q;rw [← q,← l];exact h _ (I.tok _)
theorem pN {h':Heap} {t':Nat} {ob:HO} (I:Inv X pins σ H s) (mu:Mut (H a)) (hs:Heap.SameBut a s.heap h') (he:∃ q,h'.get? a=some q) (new:bM X.prog X.w (upd H a ob) h' a ob) :
  Inv X pins σ (upd H a ob) { s with heap:=h',toks:=t' } :=
 I.write (x:=a) (e:=a) mu (.inl rfl) (fun b q hb z=>(hs.2 b hb).trans z) he new
theorem xH {P:Program} {w:World} {H':Hp} {h':Heap} {kvs:List (Key×V)} {vs:List (Key×Value)} (z:kvs.length≤sizeLine) (hd:(a==sysModules)=false) (rel:KV kvs vs) (dd:h'.DictOf (cB P w) a vs) :
  bM P w H' h' a (.dK kvs):=⟨z,hd,vs,rel,dd⟩
theorem vM {H':Hp} {Q:Unit→Shared→Prop} (hu:A.units+1<cLine) (I:Inv X pins σ H s) (g:jc H a y v H') (ry:bG y u) (rv:bG v r) (h:∀ s',Inv X pins σ H' s'→Q () s') :
  wpAny (model X.prog X.w) A (setItem (.ref a) u r) Q E s:=by
 rcases g with ⟨kvs,k,e,ey,l,eH⟩ | ⟨kvs,k,b,e,ey,eb,l,eH⟩
 ·subst ey eH;obtain ⟨z,hd,vs,rel,dd⟩:=oQ I.hok e;have hz:vs.length≤sizeLine:=by rw [← rel.length]; exact z
  have hl:(cH kvs k v).length≤sizeLine:=by have:=kP kvs k v; omega
  refine wpAny_setItem_pairs (hsz:=hz) (md ry) dd fun h' dd' hs=>h _ ?_;have he:∃ q,h'.get? a=some q:=let ⟨q,_,_,hq,_⟩:=dd'; ⟨q,hq⟩;exact pN I (by rw [e]; exact True.intro) hs he (xH hl hd (rel.put k rv) dd')
 ·subst ey eH
  cases (show u=Value.ref b from ry)
  obtain ⟨z,hd,xs,rel,dd⟩:=Dv I.hok e;have hz:xs.length≤sizeLine:=by rw [← Paired.length rel]; exact z
  have hl:(cH kvs k v).length≤sizeLine:=by have:=kP kvs k v; omega
  refine wpAny_setItem_heap (hsz:=hz) (tupleKind_room_in1 hu) (mf I.hok eb) dd fun h' dd' hs=>h _ ?_;obtain ⟨q,es,ep,hq,h2,h3,h4,_,h5⟩:=dd';refine pN I (by rw [e]; exact True.intro) hs ⟨q,hq⟩ ⟨hl,hd,_,(rel.put k eb rv).keeps fun c ys ec=>?_,q,es,ep,hq,h2,h3,h4,h5⟩;rw [au (dY ec e (fun z=>nomatch z))];exact ec
end
section
variable {X:Cx} {pins:List (Addr×Obj)} {σ:St} {H:Hp} {s:Shared} {a:Addr} {kvs:List (Key×V)} {k:Key} {u:Value} {A:Around} {E:Value→Shared→Prop}
theorem Du {v:V} {more:List Value} {Q:Value→Shared→Prop} (I:Inv X pins σ H s) (e:H a=some (.dK kvs)) (ry:bG (kV k) u) (l:dW kvs k=some v) (hm:more=[]∨∃ x,more=[x])
  (h:∀ w' s',Inv X pins σ (upd H a (.dK (eV kvs k))) s'→bG v w'→Q w' s'):wpAny (model X.prog X.w) A (call (.builtin "dict.pop") (.ref a::u::more)) Q E s:=by
 obtain ⟨z,hd,vs,rel,dd⟩:=oQ I.hok e;obtain ⟨w',hw,rw'⟩:=fM.some_of (v:=v) (o:=valueAt vs k) (by rw [← l]; exact rel.val k)
 have hp:(keyPart u).isSome=true:=by
  cases k with
  | inl i => obtain ⟨t, q⟩ := (show ∃ t, u = Value.int i t from ry); subst q; rfl
  | inr x => obtain ⟨t, q⟩ := (show ∃ t, u = Value.str x t from ry); subst q; rfl
 have ha:argsOk "dict.pop" ⟨.ref a::u::more,[]⟩:=by
  rcases hm with q | ⟨x,q⟩
  ·subst q; exact PySem.F.args_dict_pop_2 _ _
  ·subst q; exact PySem.F.args_dict_pop_3 _ _ _
 refine call_meetsIn PySem.F.slot_dict_pop dd.typeIs PySem.F.entry_dict_pop ha (meets_dict_pop_there (cB X.prog X.w) a (md ry) more hm hp)
  ⟨vs,w',dd,by rw [← rel.length]; exact z,hw,fun h' dd' hs=>h w' _ ?_ rw'⟩
 have he:∃ q,h'.get? a=some q:=let ⟨q,_,_,hq,_⟩:=dd'; ⟨q,hq⟩;exact pN I (by rw [e]; exact True.intro) hs he (xH (Nat.le_trans (xI kvs k) z) hd (rel.drop k) dd')
theorem Dt {Q:Value→Shared→Prop} (I:Inv X pins σ H s) (e:Rd H a (.dK kvs)) (h:∀ t s',Inv X pins σ H s'→Q (.int kvs.length t) s'):wpAny (model X.prog X.w) A (call (.builtin "len") [.ref a]) Q E s:=by
 obtain ⟨z,hd,vs,rel,dd⟩:=lX I.hok e;refine call_len_dict hd dd (by rw [← rel.length]; rw [sizeLine_eq] at z; omega) ?_;rw [← rel.length];exact h _ _ (I.tok _)
end
def BQ (i:Expr):Prop:=∀ ov iv,subscripted i false ov iv=operate [ov,iv] (getItem ov iv)
theorem vn {prog:Program} {w:World} {A:Around} {E:Value→Shared→Prop} {s:Shared} {env:Env} {value slice:Expr} {pos:Pos} {T id:String} {Q:Value→Shared→Prop}
  (hl:typeLookup (.type T) "__getitem__"=pure (some (.builtin id))) (hs:BQ slice)
  (h:wpAny (model prog w) A (eval value env) (fun o s₁=>wpAny (model prog w) A (eval slice env) (fun i s₂=>s₂.TypeIs o T∧wpAny (model prog w) A (getItem o i) Q E s₂) E s₁) E s) :
  wpAny (model prog w) A (eval (.Subscript value slice pos) env) Q E s:=by
 refine Subscript_ (wpAny_mono h (fun o s₁ h₁=>wpAny_mono h₁ (fun i s₂ h₂=>?_) fun _ _ x=>x) fun _ _ x=>x);obtain ⟨hT,h₂⟩:=h₂;unfold subscriptTail;refine wpAny_bind ?_;rw [getitemInPython_of_ne hT.not_modules];refine wpAny_bind (wpAny_specialOf hT hl ?_)
 have fin:wpAny (model prog w) A (subscripted slice false o i) (fun r s₃=>wpAny (model prog w) A (letTemporaryGo value o r >>= fun _=>pure r) Q E s₃) E s₂:=by
  rw [hs o i];exact wpAny_operating (wpAny_mono h₂ (fun r s₃ h₃=>wpAny_bind (wpAny_letTemporaryGo (wpAny_pure h₃))) fun _ _ x=>x)
 first
  | exact wpAny_pure (wpAny_bind fin)
  | exact wpAny_bind (wpAny_pure (wpAny_bind fin))
  | exact wpAny_bind fin
theorem rT {X:Cx} {pins:List (Addr×Obj)} {σ:St} {H:Hp} {s:Shared} {a:Addr} {y:V} {o:Option V} (I:Inv X pins σ H s) (g:dB H a y o):s.TypeIs (.ref a) "dict":=by
 rcases g with ⟨kvs,k,e,_,_⟩ | ⟨kvs,k,b,e,_,_,_⟩
 ·obtain ⟨_,_,vs,_,dd⟩:=lX I.hok e;exact dd.typeIs
 ·obtain ⟨_,_,xs,_,dd⟩:=oR I.hok e;exact dd.typeIs
def BE (td ty:TE):TE:=fun σ H Q=>td σ H fun x H1=>ty σ H1 fun y H2=>∃ a v,x=.ref a∧dB H2 a y (some v)∧Q v H2
def D1 (ty td:TE):TE:=fun σ H Q=>ty σ H fun y H1=>td σ H1 fun x H2=>∃ a o,x=.ref a∧dB H2 a y o∧Q (.bl o.isSome) H2
def vq (ty td:TE):TE:=fun σ H Q=>ty σ H fun y H1=>td σ H1 fun x H2=>∃ a o,x=.ref a∧dB H2 a y o∧Q (.bl (!o.isSome)) H2
def Bz (td ty tv:TE):TS:=fun D σ H=>tv σ H fun v H1=>td σ H1 fun x H2=>ty σ H2 fun y H3=>∃ a H4,x=.ref a∧jc H3 a y v H4∧D.nx σ H4
section
variable {X:Cx} {o i e value:Expr} {pos pos' tpos:Pos} {td ty tv:TE}
theorem gH (hu:X.A.units+1<cLine) (ho:PE X o td) (hi:PE X i ty) (hs:BQ i):PE X (.Subscript o i pos) (BE td ty):=by
 intro pins s σ H Q I h;refine vn PySem.F.slot_dict_getitem.lookup hs (thn (ho pins s σ H _ I h) fun u s1 ⟨x,H1,I1,rx,q1⟩=>thn (hi pins s1 σ H1 _ I1 q1) fun iv s2 ⟨y,H2,I2,ry,a,v,ex,g,q2⟩=>?_);subst ex;obtain rfl:u=Value.ref a:=rx
 exact ⟨rT I2 g,vL hu I2 g ry fun w' s3 I3 rw'=>⟨v,H2,I3,rw',q2⟩⟩
theorem ui (hu:X.A.units+1<cLine) (hi:PE X i ty) (ho:PE X o td):PC X .In i o (D1 ty td):=by
 intro pins s σ H Q I h;refine thn (hi pins s σ H _ I h) fun iv s1 ⟨y,H1,I1,ry,q1⟩=>thn (ho pins s1 σ H1 _ I1 q1) fun u s2 ⟨x,H2,I2,rx,a,ov,ex,g,q2⟩=>?_;subst ex;obtain rfl:u=Value.ref a:=rx
 exact Ej hu I2 g ry fun s3 I3=>⟨.bl ov.isSome,H2,I3,rfl,q2⟩
theorem fW (hu:X.A.units+1<cLine) (hi:PE X i ty) (ho:PE X o td):PC X .NotIn i o (vq ty td):=by
 intro pins s σ H Q I h;refine thn (hi pins s σ H _ I h) fun iv s1 ⟨y,H1,I1,ry,q1⟩=>thn (ho pins s1 σ H1 _ I1 q1) fun u s2 ⟨x,H2,I2,rx,a,ov,ex,g,q2⟩=>?_;subst ex;obtain rfl:u=Value.ref a:=rx
 exact zY hu I2 g ry fun s3 I3=>⟨.bl (!ov.isSome),H2,I3,rfl,q2⟩
theorem eG (hu:X.A.units+1<cLine) (ho:PE X o td) (hi:PE X i ty) (hv:PE X value tv) (hs:swapsWith value (some (.Subscript o i pos')) pos.line X.env=pure false) :
  PS X (.Assign [.Subscript o i pos'] value pos) (Bz td ty tv):=by
 intro pins s σ H D I h;refine wpAny_Assign_Subscript (thn (hv pins s σ H _ I h) fun r s1 ⟨v,H1,I1,rv,q1⟩=>thn (ho pins s1 σ H1 _ I1 q1) fun u s2 ⟨x,H2,I2,rx,q2⟩=>thn (hi pins s2 σ H2 _ I2 q2) fun iv s3 ⟨y,H3,I3,ry,a,H4,ex,g,q3⟩=>?_) hs;subst ex;obtain rfl:u=Value.ref a:=rx
 exact vM hu I3 g ry rv fun s4 I4=>⟨σ,H4,I4,q3⟩
end
theorem xG {P:Program} {w:World} {H:Hp} (h:Heap) (hb:sysModules<h.objs.size):bM P w H (h.push { cls:=.type "dict",data:=.dict #[] }) h.objs.size (.dK []) :=
 ⟨Nat.zero_le _,beq_eq_false_iff_ne.mpr (Ne.symm (Nat.ne_of_lt hb)),[],.nil,Heap.DictOf.new h⟩
def zy:TE:=fun _ H Q=>∀ p,H p=none→Q (.ref p) (upd H p (.dK []))
section
variable {X:Cx} {pos:Pos}
theorem so:PE X (.Dict [] [] pos) zy:=fun pins s σ H Q I h =>
 wpAny_Dict_empty ⟨.ref s.heap.objs.size,_,I.laid (a:=s.heap.objs.size) (o:=.dK []) (t':=s.toks) (fun _ _ q=>Heap.get?_push_of_some _ q) (Nat.le_refl _) (xG s.heap I.big),rfl,h _ (I.hok.fresh (Nat.le_refl _))⟩
end
structure M1 (X:Cx) (o:Expr) (m:Str) (apos:Pos) (e:Expr) (cpos:Pos):Prop where
 base:attributeBase o m X.env (eval o X.env)=eval o X.env
 few:((backTo cpos (starEach [e] X.env)).all (fun x=>!x.1)&&(backToKw cpos (keywordEach [] X.env)).all (fun x=>x.1.isSome)
  && decide (([e]:List Expr).length+([]:List Keyword).length+(if ([]:List Keyword).isEmpty then 0 else 1)<30))=true
 line:(apos.endLine==cpos.line)=true
 trees:backTo cpos (starEach [e] X.env)=[(false,eval e X.env)]
def IsD (H:Hp) (a:Addr):Prop:=(∃ kvs,Rd H a (.dK kvs))∨∃ kvs,Rd H a (.dT kvs)
theorem B7 {X:Cx} {pins:List (Addr×Obj)} {σ:St} {H:Hp} {s:Shared} {a:Addr} (I:Inv X pins σ H s) (d:IsD H a) :
  s.TypeIs (.ref a) "dict"∧(∀ b,Value.ref a=.ref b→∃ ob,s.heap.get? b=some ob∧ob.dict=none)∧(a==sysModules)=false:=by
 rcases d with ⟨kvs,e⟩ | ⟨kvs,e⟩
 ·obtain ⟨_,hd,vs,_,dd⟩:=lX I.hok e;refine ⟨dd.typeIs,fun b q=>?_,hd⟩
  cases q;obtain ⟨ob,_,_,h1,h2,_⟩:=dd;exact ⟨ob,h1,h2.2.1⟩
 ·obtain ⟨_,hd,xs,_,dd⟩:=oR I.hok e;refine ⟨dd.typeIs,fun b q=>?_,hd⟩
  cases q;obtain ⟨ob,_,_,h1,h2,_⟩:=dd;exact ⟨ob,h1,h2.2.1⟩
def zA (td ty:TE):TE:=fun σ H Q=>td σ H fun x H1=>∃ a,x=.ref a∧IsD H1 a∧ty σ H1 fun y H2=>∃ kvs k v,H2 a=some (.dK kvs)∧y=kV k∧dW kvs k=some v∧Q v (upd H2 a (.dK (eV kvs k)))
section
variable {X:Cx} {o e f:Expr} {apos cpos:Pos} {td ty tx:TE}
theorem su (ho:PE X o td) (he:PE X e ty) (m:M1 X o "pop" apos e cpos):PE X (.Call (.Attribute o "pop" apos) [e] [] cpos) (zA td ty):=by
 intro pins s σ H Q I h;refine wpAny_Call_method m.base m.few m.line PySem.F.plainAttrs_dict PySem.F.slot_dict_pop PySem.F.type_dict_pop (thn (ho pins s σ H _ I h) fun u s1 ⟨x,H1,I1,rx,a,ex,d,q1⟩=>?_);subst ex;obtain rfl:u=Value.ref a:=rx
 obtain ⟨t1,t2,_⟩:=B7 I1 d;refine ⟨t1,t2,?_⟩;rw [m.trees];refine Calls.callWith_builtin rfl (Calls.evalArgs_plain (Calls.spliced_cons (thn (he pins s1 σ H1 _ I1 q1) fun iv s2 ⟨y,H2,I2,ry,kvs,k,v,ea,ey,l,q2⟩=>Calls.spliced_nil ?_)));subst ey;exact Du I2 ea ry l (.inl rfl) fun w' s3 I3 rw'=>⟨v,_,I3,rw',q2⟩
end
theorem AL {td ty tv:TE} {D:cZ} {σ:St} {H:Hp} (h:tv σ H fun v H1=>td σ H1 fun x H2=>ty σ H2 fun y H3=>∃ a H4,x=.ref a∧jc H3 a y v H4∧D.nx σ H4):Bz td ty tv D σ H:=h
theorem CO {ty td:TE} {σ:St} {H:Hp} {Q:VK} (h:ty σ H fun y H1=>td σ H1 fun x H2=>∃ a o,x=.ref a∧dB H2 a y o∧Q (.bl o.isSome) H2):D1 ty td σ H Q:=h
theorem wz {ty td:TE} {σ:St} {H:Hp} {Q:VK} (h:ty σ H fun y H1=>td σ H1 fun x H2=>∃ a o,x=.ref a∧dB H2 a y o∧Q (.bl (!o.isSome)) H2):vq ty td σ H Q:=h
end L2
namespace Ts
open PySem PyProof.Rows
def Le (lt:Keyed→Keyed→Bool) (x y:Keyed):Prop:=lt y x=false
end Ts
namespace Ts
open PySem PyProof.Rows
end Ts
namespace Ts
open PySem PyProof.Rows
end Ts
namespace Ts
open PySem PyProof.Rows
end Ts
namespace Ts
open PySem PyProof.Rows
def seg (xs:Array Keyed) (i n:Nat):List Keyed:=(xs.toList.drop i).take n
section
variable {M:Model} {A:Around} {E:Value→Shared→Prop} {s:Shared}
def Chg (xs ys:Array Keyed) (i n:Nat) (m:List Keyed):Prop:=m.Perm (seg xs i n)∧ys.toList=xs.toList.take i++m++xs.toList.drop (i+n)
end
end Ts
namespace Ts
open PySem PyProof.Rows
def at' (xs:Array Keyed) (i:Nat):Keyed:=(xs[i]?).getD (.none,.none)
end Ts
namespace Ts
open PySem PyProof.Rows
end Ts
namespace Ts
open PySem PyProof.Rows
def Dj (lt:Keyed→Keyed→Bool) (xs:Array Keyed):Nat→List (Nat×Nat)→Nat→Prop
 | i,[],hi=>i=hi
 | i,(s,n)::ps,hi=>s=i∧1≤n∧(seg xs s n).Pairwise (Le lt)∧Dj lt xs (i+n) ps hi
def kys (p:Array (Nat×Nat×Nat)):List (Nat×Nat):=p.toList.map fun q=>(q.1,q.2.1)
section
variable {M:Model} {A:Around} {E:Value→Shared→Prop} {s:Shared}
structure Inv (κ:SortKind) (lt:Keyed→Keyed→Bool) (a0:Array Keyed) (st:SortSt) (lo:Nat):Prop where
 kind:kindOf st=κ
 failed:failedOf st=none
 perm:(arrOf st).Perm a0
 runs:Dj lt (arrOf st) 0 (kys (pendingOf st)) lo
end
end Ts
namespace Ts
open PySem PyProof.Rows PySem.W
end Ts
namespace L2
open PySem PySem.Spec PyProof.Rows
end L2
namespace Sm
abbrev Pnt:=Int×Int
def fin:Pnt→Pnt→List Pnt→Pnt×Pnt
 | a,b,[]=>(a,b)
 | _,b,c::l=>fin b c l
end Sm
namespace Sm
end Sm
namespace Ts
open PySem PyProof.Rows PySem.W
end Ts
namespace L2
open PySem PySem.Spec PyProof.Rows
section
variable {K:W.Frag} {σ:St} {H:Hp} {Q:VK} {te:TE} {tt:TT} {cap:List (Option Nat)} {l:Addr}
theorem tT {a:Addr} {xs:List V} (F:V→V) (p:V→Bool) (hs:SqL K H a xs) (hz:xs.length≤5000) (hl:H l=none)
    (test:∀ x o H' (Q':Bool→Hp→Prop),x∈xs→ai H H'→(∀ H5,ai H' H5→Q' (p x) H5)→tt (((gm (none::cap) σ).set 0 o).set 0 (some x)) H' Q')
    (step:∀ x o H' (Q':VK),x∈xs→p x=true→ai H H'→(∀ H5,ai H' H5→Q' (F x) H5)→te (((gm (none::cap) σ).set 0 o).set 0 (some x)) H' Q')
    (fin:∀ H',ai H H'→H' l=some (.lst ((xs.filter p).map F))→Q (.ref l) H'):jC (Itl K a) (eW 0) tt te (none::cap) l σ H Q:=by
  refine ⟨xs.length,fun i ys σ' H'=>ys=((xs.take i).filter p).map F∧(∃ o,σ'=(gm (none::cap) σ).set 0 o)∧ai H H'∧H' l=some (.lst ys),⟨rfl,⟨none,rfl⟩,ai.new hl,ae⟩,?_,?_⟩
  · rintro i ys σ' H' hi ⟨rfl,⟨o,rfl⟩,s,e⟩
    refine ⟨⟨xs,xs[i],s.seq hs,by simp [hi]⟩,fun x H2 y=>?_⟩;obtain ⟨e2,y⟩:=y;subst e2;have hx:=y xs (s.seq hs)
    have tk:((xs.take (i+1)).filter p).map F=((xs.take i).filter p).map F++(if p x=true then [F x] else []):=by
      rw [List.take_add_one,hx,List.filter_append,List.map_append]
      congr 1
      cases hp:p x<;>simp [hp]
    refine dR (test x o H2 _ (List.mem_of_getElem? hx) s fun H5 s5=>?_);by_cases hp:p x=true
    · rw [if_pos hp]
      rw [if_pos hp] at tk;refine step x o H5 _ (List.mem_of_getElem? hx) hp (s.trans s5) fun H6 s6=>⟨s6 _ _ (s5 _ _ e),?_,?_⟩
      · have:(((xs.take i).filter p).map F).length≤xs.length:=by
          rw [List.length_map];exact Nat.le_trans (List.length_filter_le _ _) (by rw [List.length_take]; omega)
        exact Nat.lt_of_le_of_lt (Nat.le_trans this hz) (by decide)
      · exact ⟨tk.symm,⟨_,List.set_set ..⟩,((s.trans s5).trans s6).later hl,ae⟩
    · rw [if_neg hp]
      rw [if_neg hp,List.append_nil] at tk;exact ⟨tk.symm,⟨_,List.set_set ..⟩,s.trans s5,s5 _ _ e⟩
  · rintro ys σ' H' ⟨rfl,_,s,e⟩
    rw [List.take_of_length_le (Nat.le_refl _)] at e;exact ⟨⟨xs,s.seq hs,Nat.le_refl _⟩,fin H' s e⟩
end
end L2
namespace L2
open PySem PySem.Spec PyProof.Rows PySem.W
theorem ua {κ:Type}:∀ {kvs:List (κ×V)} {vs:List (κ×Value)} {i:Nat} {k:κ} {u:Value},KV kvs vs→vs[i]?=some (k,u)→∃ x,kvs[i]?=some (k,x)∧bG x u
 | _,_,_,_,_,.nil,e=>by simp at e
 | _,_,0,k,u,.cons (a:=p) r t,e=>by
  (simp only [List.getElem?_cons_zero,Option.some.injEq] at e; subst e)
  exact ⟨p.2,congrArg some (Prod.ext r.1 rfl),r.2⟩
 | _,_,i+1,k,u,.cons r t,e=>by
  obtain ⟨x,h1,h2⟩:=ua (i:=i) t (by simpa using e);exact ⟨x,by simpa using h1,h2⟩
def Et:R2:=fun x y H Q=>∃ (ds:List PyData) (d:PyData),Rep H (.list ds) y∧Rep H d x∧PyData.canLayAll0 ds=true∧d.canLay0=true∧d.depth≤60∧Q (.bl (ds.any fun y=>PyData.eqv y d)) H
theorem Ck {X:Cx} (hu:X.A.units+64<cLine):OpR X (compareOp .In) Et:=by
 intro pins s σ H x y v u Q I rx ry h;obtain ⟨ds,d,h1,h2,s1,s2,s3,q⟩:=h;obtain ⟨as,r1⟩:=h1.reads I ry;obtain ⟨bs,r2⟩:=h2.reads I rx;exact SeqAt.in_list_reads r1 r2 s1 s2 (by have:=Nat.min_le_right (PyData.depthAll ds) d.depth; omega) ⟨.bl _,H,I,rfl,q⟩
end L2
namespace Fm
abbrev lU:=List L2.Key
abbrev Tie:=lU×lU×Int
inductive Con (F:List Tie):lU→lU→Prop
 | refl (a:lU):Con F a a
 | fwd {a b c:lU} {w:Int}:Con F a b→(b,c,w)∈F→Con F a c
 | bwd {a b c:lU} {w:Int}:Con F a b→(c,b,w)∈F→Con F a c
end Fm
namespace L2
open PySem PySem.Spec PyProof.Rows PySem.W
def DF (x y:V) (H:Hp) (Q:VK):Prop:=∃ a v,x=.ref a∧dB H a y (some v)∧Q v H
theorem AK {td ty:TE} {σ:St} {H:Hp} {Q:VK} (h:td σ H fun x H1=>ty σ H1 fun y H2=>DF x y H2 Q):BE td ty σ H Q:=h
theorem yr {σ:St} {H:Hp} {Q:VK} (h:∀ p,H p=none→Q (.ref p) (upd H p (.dK []))):zy σ H Q:=h
def Ew (x:V) (H:Hp) (q:Addr→Prop):Prop:=∃ a,x=.ref a∧IsD H a∧q a
theorem yu {td ty:TE} {σ:St} {H:Hp} {Q:VK} (h:td σ H fun x H1=>Ew x H1 fun a=>ty σ H1 fun y H2=>∃ kvs k v,H2 a=some (.dK kvs)∧y=kV k∧dW kvs k=some v∧Q v (upd H2 a (.dK (eV kvs k)))):zA td ty σ H Q:=h
theorem C4 {i j:Nat} {ta:TA} {D:cZ} {σ:St} {H:Hp} (h:ta σ H fun vs H1=>∃ v w,vs=[v,w]∧D.nx ((σ.set i (some v)).set j (some w)) H1):D6 i j ta D σ H:=h
def bN (S:List Addr) (H H':Hp):Prop:=∀ b o,H b=some o→b∉S→H' b=some o
theorem bN.refl (S:List Addr) (H:Hp):bN S H H:=fun _ _ e _=>e
theorem ai.butL {H H':Hp} (s:ai H H') (S:List Addr):bN S H H':=fun b o e _=>s b o e
theorem bN.trans {S:List Addr} {H H1 H2:Hp} (a:bN S H H1) (b:bN S H1 H2):bN S H H2:=fun c o e n=>b c o (a c o e n) n
theorem bN.upd {S:List Addr} {H H1:Hp} {p:Addr} {o:HO} (a:bN S H H1) (h:p∈S):bN S H (L2.upd H1 p o):=fun c o' e n=>by
 rw [au (fun z=>n (by rw [z]; exact h))]; exact a c o' e n
theorem bN.new {S:List Addr} {H H1:Hp} {p:Addr} {o:HO} (a:bN S H H1) (h:H1 p=none):bN S H (L2.upd H1 p o):=fun c o' e n=>ai.new h c o' (a c o' e n)
end L2
namespace L2
open PySem PySem.Spec PyProof.Rows
theorem jg {K:W.Frag} {A S:Addr} (bs:W.subIn K (.ref S) (.type "BaseException")=some true) (mo:W.mroIn K S (.type "object")=some true) (ty:W.typeIn K (.ref S)=some (.type "type"))
  (sb:W.subIn K (.ref A) (.ref S)=some false):W.exmOne K (.ref A) (.ref S)=some false:=by
 obtain ⟨cd,hc,_⟩:=Option.bind_eq_some_iff.mp mo;simp only [W.exmOne,W.kitCls];simp [bs,hc,ty,sb]
end L2
namespace L2
open PySem PySem.Spec PyProof.Rows PySem.W
def xk (P:Program) (w:World) (d:Addr) (kvs:List (Key×V)) (vs:List (Key×Value)) (ep:Nat) (h:Heap):Prop:=kvs.length≤sizeLine∧(d==sysModules)=false∧KV kvs vs∧h.DictAt (cB P w) d vs ep
def FzO (P:Program) (w:World) (d:Addr) (kvs:List (Key×V)) (vs:List (Key×Value)) (ep:Nat):HO:=.ext (xk P w d kvs vs ep)
def vB (P:Program) (w:World) (d:Addr) (kvs:List (Key×V)) (F:HO):Prop:=∃ vs ep,F=FzO P w d kvs vs ep
section
variable {X:Cx} {pins:List (Addr×Obj)} {σ:St} {H:Hp} {s:Shared} {d:Addr} {kvs:List (Key×V)} {vs:List (Key×Value)} {ep:Nat}
theorem Inv.freeze (I:Inv X pins σ H s) (hd:H d=some (.dK kvs)):∃ vs ep,Inv X pins σ (upd H d (FzO X.prog X.w d kvs vs ep)) s∧s.heap.DictAt (cB X.prog X.w) d vs ep:=by
 obtain ⟨z,lo,vs,rel,dd⟩:=oQ I.hok hd;obtain ⟨ep,at'⟩:=dd.dictAt;obtain ⟨o,es,ho,r⟩:=id at';exact ⟨vs,ep,I.write (e:=d) (t':=s.toks) (h':=s.heap) (by rw [hd]; trivial) (.inl rfl) (fun _ _ _ q=>q) ⟨o,ho⟩ ⟨⟨z,lo,rel,at'⟩,⟨o,ho⟩,fun h1 h2 ⟨a1,a2,a3,a4⟩ k=>⟨a1,a2,a3,a4.at' k⟩⟩,at'⟩
theorem Inv.thaw {F:HO} (I:Inv X pins σ H s) (hF:vB X.prog X.w d kvs F) (hd:H d=some F):Inv X pins σ (upd H d (.dK kvs)) s:=by
 obtain ⟨vs,ep,rfl⟩:=hF;obtain ⟨⟨z,lo,rel,at'⟩,⟨o,ho⟩,_⟩:=(show bM X.prog X.w H s.heap d (.ext (xk X.prog X.w d kvs vs ep)) from I.hok d _ hd)
 exact I.write (e:=d) (t':=s.toks) (h':=s.heap) (by rw [hd]; trivial) (.inl rfl) (fun _ _ _ q=>q) ⟨o,ho⟩ ⟨z,lo,vs,rel,at'.dictOf⟩
end
def Dk (P:Program) (w:World) (H1 H2:Hp):Prop:=∃ d kvs F,vB P w d kvs F∧H1 d=some F∧H2=upd H1 d (.dK kvs)
def zG (P:Program) (w:World) (ts:TS):TS:=fun D σ H=>ts { D with nx:=fun σ1 H1=>∃ H2,Dk P w H1 H2∧D.nx σ1 H2 } σ H
theorem Ay {X:Cx} {st:Stmt} {ts:TS} (h:PS X st ts):PS X st (zG X.prog X.w ts):=by
 intro pins s σ H D I q;refine wpAny_mono (h pins s σ H _ I q) (fun f s1 q1=>?_) fun _ _ z=>z
 cases f with
 | next =>
  obtain ⟨σ',H',I',H2,⟨d,kvs,F,hF,hd,rfl⟩,q2⟩:=q1;exact ⟨σ',_,I'.thaw hF hd,q2⟩
 | brk=>exact q1
 | cont=>exact q1
 | ret u=>exact q1
theorem yT {P:Program} {w:World} {ts:TS} {D:cZ} {σ:St} {H:Hp} (h:ts { D with nx:=fun σ1 H1=>∃ H2,Dk P w H1 H2∧D.nx σ1 H2 } σ H):zG P w ts D σ H:=h
section
variable {K:W.Frag} {H:Hp} {Q:VK}
theorem di {a:Addr} {xs:List V} {lo hi:Option Int} (h:H a=some (.lst xs)) (q:∀ p H1,ai H H1→H p=none→H1 p=some (.lst (gp xs lo hi))→Q (.ref p) H1):AD K (.ref a) lo hi H Q:=uv h fun p n=>q p _ (ai.new n) n ae
theorem eK {a b:Addr} {xs zs:List V} (ha:H a=some (.lst xs)) (hb:H b=some (.lst zs)) (z:xs.length+zs.length≤sizeLine) (q:∀ p H1,ai H H1→H p=none→H1 p=some (.lst (xs++zs))→Q (.ref p) H1):CA (.ref a) (.ref b) H Q:=ur ha hb z fun p n=>q p _ (ai.new n) n ae
end
section
variable {K:W.Frag} {σ:St} {H:Hp} {Q:VK} {te:TE} {tt:TT} {cap:List (Option Nat)} {l:Addr}
theorem kM {a:Addr} {xs:List V} (ys:List V) (hy:ys.length=xs.length) (hs:SqL K H a xs) (hz:xs.length≤1000) (hl:H l=none)
  (step:∀ (i:Nat) x y o H' (Q':VK),xs[i]?=some x→ys[i]?=some y→ai H H'→(∀ H5,ai H' H5→Q' y H5)→te (((gm (none::cap) σ).set 0 o).set 0 (some x)) H' Q')
  (fin:∀ H',ai H H'→H' l=some (.lst ys)→Q (.ref l) H'):jC (Itl K a) (eW 0) j0 te (none::cap) l σ H Q:=by
 refine ⟨xs.length,fun i zs σ' H'=>zs=ys.take i∧(∃ o,σ'=(gm (none::cap) σ).set 0 o)∧ai H H'∧H' l=some (.lst zs),⟨rfl,⟨none,rfl⟩,ai.new hl,ae⟩,?_,?_⟩
 ·rintro i zs σ' H' hi ⟨rfl,⟨o,rfl⟩,s,e⟩;refine ⟨⟨xs,xs[i],s.seq hs,by simp [hi]⟩,fun x H2 y=>?_⟩;obtain ⟨e2,y⟩:=y;subst e2;have hx:=y xs (s.seq hs);have hyi:i<ys.length:=by omega
  refine dR (fH (pR ?_));refine step i x ys[i] o H2 _ hx (List.getElem?_eq_getElem hyi) s fun H5 s5=>⟨s5 _ _ e,?_,?_⟩
  ·rw [List.length_take];exact aP (by omega)
  ·exact ⟨List.take_append_getElem hyi,⟨_,List.set_set ..⟩,(s.trans s5).later hl,ae⟩
 ·rintro zs σ' H' ⟨rfl,_,s,e⟩;rw [List.take_of_length_le (by omega)] at e;exact ⟨⟨xs,s.seq hs,Nat.le_refl _⟩,fin H' s e⟩
end
end L2
namespace PySem
end PySem
namespace PyProof.Rows
open PySem PySem.Spec
end PyProof.Rows
namespace PySem
open PySem.Spec PyProof.Rows
end PySem
namespace L2
open PySem PySem.Spec PyProof.Rows PySem.W
end L2
namespace L2
open PySem PySem.Spec PyProof.Rows
section
variable {K:W.Frag} {x qual:Str} {st:Stmt} {f:Addr} {fd:FuncData}
theorem Fun.b1 {p0:Str} (F:Fun K x qual st f fd) (h:∀ (kV doc pm:Value) (an:Option Addr) (cdv ct a0:Value),bindArgs (W.fnOf x qual (eE st) (c7 st) (ao st) .none kV doc pm an cdv ct) ⟨[a0],[]⟩=pure [(p0,a0)]):aK K fd [p0] [] :=
 F.binds fun kV doc pm an cdv ct us hl=>by obtain ⟨a0,rfl⟩:=En hl; exact h kV doc pm an cdv ct a0
theorem Fun.b2 {p0 p1:Str} (F:Fun K x qual st f fd) (h:∀ (kV doc pm:Value) (an:Option Addr) (cdv ct a0 a1:Value),bindArgs (W.fnOf x qual (eE st) (c7 st) (ao st) .none kV doc pm an cdv ct) ⟨[a0,a1],[]⟩=pure [(p0,a0),(p1,a1)]):aK K fd [p0,p1] [] :=
 F.binds fun kV doc pm an cdv ct us hl=>by obtain ⟨a0,a1,rfl⟩:=Eo hl; exact h kV doc pm an cdv ct a0 a1
theorem Fun.b3 {p0 p1 p2:Str} (F:Fun K x qual st f fd) (h:∀ (kV doc pm:Value) (an:Option Addr) (cdv ct a0 a1 a2:Value),bindArgs (W.fnOf x qual (eE st) (c7 st) (ao st) .none kV doc pm an cdv ct) ⟨[a0,a1,a2],[]⟩=pure [(p0,a0),(p1,a1),(p2,a2)]):aK K fd [p0,p1,p2] [] :=
 F.binds fun kV doc pm an cdv ct us hl=>by obtain ⟨a0,a1,a2,rfl⟩:=Ep hl; exact h kV doc pm an cdv ct a0 a1 a2
theorem Fun.b4 {p0 p1 p2 p3:Str} (F:Fun K x qual st f fd) (h:∀ (kV doc pm:Value) (an:Option Addr) (cdv ct a0 a1 a2 a3:Value),bindArgs (W.fnOf x qual (eE st) (c7 st) (ao st) .none kV doc pm an cdv ct) ⟨[a0,a1,a2,a3],[]⟩=pure [(p0,a0),(p1,a1),(p2,a2),(p3,a3)]):aK K fd [p0,p1,p2,p3] [] :=
 F.binds fun kV doc pm an cdv ct us hl=>by obtain ⟨a0,a1,a2,a3,rfl⟩:=Er hl; exact h kV doc pm an cdv ct a0 a1 a2 a3
theorem Fun.b5 {p0 p1 p2 p3 p4:Str} (F:Fun K x qual st f fd) (h:∀ (kV doc pm:Value) (an:Option Addr) (cdv ct a0 a1 a2 a3 a4:Value),bindArgs (W.fnOf x qual (eE st) (c7 st) (ao st) .none kV doc pm an cdv ct) ⟨[a0,a1,a2,a3,a4],[]⟩=pure [(p0,a0),(p1,a1),(p2,a2),(p3,a3),(p4,a4)]):aK K fd [p0,p1,p2,p3,p4] [] :=
 F.binds fun kV doc pm an cdv ct us hl=>by obtain ⟨a0,a1,a2,a3,a4,rfl⟩:=Es hl; exact h kV doc pm an cdv ct a0 a1 a2 a3 a4
theorem Fun.bl {p:Str} (F:Fun K x qual st f fd) (h:∀ (kV doc pm:Value) (an:Option Addr) (cdv ct a:Value),bindArgs (W.fnOf x qual (eE st) (c7 st) (ao st) .none kV doc pm an cdv ct) ⟨[a],[]⟩=pure [(p,a)]) (s:Shared) (v:Value):BindsTo s fd ⟨[v],[]⟩ [(p,v)]:=by
 obtain ⟨_,_,kV,doc,pm,an,cdv,ct,_,rfl,_,_⟩:=F.ex;exact .of_eq (h kV doc pm an cdv ct v)
end
theorem aE.by {N P:List Str} {sc:Scope} (h1:sc.kind=.function:=by rfl) (h2:sc.isCoroutine=false:=by rfl) (h3:sc.isGenerator=false:=by rfl) (h4:N.Nodup:=by decide +kernel) (h5:N.take P.length=P:=by rfl) (h6:∀ x∈P,sc.names.lookup x=some .local∨sc.names.lookup x=some .cell:=by decide +kernel) (h7:∀ y∈sc.names,y.2≠.free:=by decide +kernel):aE N P sc:=⟨h1,h2,h3,h4,h5,h6,h7⟩
end L2
namespace L2
open PySem PySem.Spec PyProof.Rows PySem.W Builtin Builtin.ObjectAttr Builtin.Getset_descriptor
def tX (K:W.Frag) (C:Addr) (line:List Value) (nid:String):Bool :=
 match K.lookup C with
 | some ⟨.type "type",_,.cls k,ss⟩ =>
  match k.mro,ss.toList with
  | .ref D :: up, [_, _, _, _, some (.builtin m), _] => (D == C) && (m == nid) && !k.hasDel && k.hasDict && tailIn K line up
  | _, _ => false
 | _=>false
theorem pP {K:W.Frag} {C:Addr} {line:List Value} {nid:String} (q:tX K C line nid=true):∃ (nm qn:Str) (N:Addr) (bs up:List Value) (sn:List Str) (sub:List Value) (ab:Bool) (col:Option Bool) (dd:Option Addr) (k0 k1 k2 k3 k5:Option Value),
  K.lookup C=some (excClassObj nm qn C N bs up true sn sub ab col dd k0 k1 k2 k3 k5 nid)∧tailIn K line up=true:=by
 unfold tX at q
 split at q
 case h_2=>cases q
 case h_1 dd k ss ho =>
  split at q
  case h_2=>cases q
  case h_1 D up k0 k1 k2 k3 m k5 hm hs =>
   simp only [Bool.and_eq_true,beq_iff_eq,Bool.not_eq_true'] at q;obtain ⟨⟨⟨⟨e1,e2⟩,e3⟩,e4⟩,e5⟩:=q;subst e1 e2;obtain ⟨nm,bs,mro,ns,qn,hd,sn,sub,ab,col,del⟩:=k;simp only at hm e3 e4
   subst hm e3 e4;obtain ⟨l⟩:=ss;simp only at hs
   subst hs;exact ⟨nm,qn,ns,bs,up,sn,sub,ab,col,dd,k0,k1,k2,k3,k5,ho,e5⟩
section
variable {prog:Program} {w:World} {A:Around} {E:Value→Shared→Prop} {K:W.Frag} {h:Heap} {g:Array GenState} {d:Drawn} {t:Nat} {os:OsState} {C fI:Addr} {line:List Value} {B nid iid:String} {dw:List Value}
abbrev w5 (C t:Addr):Obj:={ cls:=.ref C,data:=.fields #[.ref t,.none,.none,.none,.bool false,.none] }
abbrev w6 (dw:List Value):Obj:={ cls:=.type "tuple",data:=.seq dw.toArray }
theorem Eb {Q:Value→Shared→Prop} (X:K.In h) (q:tX K C line nid=true) (F:ExcBaseFacts B nid iid line) (hi:findIn K (.ref C) "__init__"=some (some (.ref fI))) (hf:typeIn K (.ref fI)=some (.type "function")) (hz:dw.length≤sizeLine)
  (k:∀ h' e,Heap.MadeExcOf h h' e (.ref C) dw→wpAny (model prog w) (A.under (.builtin "type.__call__" ⟨.ref C::dw,[]⟩)) (call (.ref fI) (.ref e::dw)) (fun r s'=>r=.none∧Q (.ref e) s') E ⟨h',g,d,t,os⟩) :
  wpAny (model prog w) A (call (.ref C) dw) Q E ⟨h,g,d,t,os⟩:=by
 obtain ⟨nm,qn,N,bs,up,sn,sub,ab,col,dd,k0,k1,k2,k3,k5,hl,tl⟩:=pP q;have cl:=X _ _ hl;have T:=tail_of_in X tl;have c1:=tc_lookup;have c2:=tc_bind (.ref C);have ty:(⟨h,g,d,t,os⟩:Shared).TypeIs (.ref C) "type":=⟨_,cl,rfl⟩
 refine wpAny_call (codeAny_of_tree ?_)
 show wpAny _ _ (callAny (.ref C) _) _ _ _
 repeat (any_goals (first | assumption | with_reducible refine wpAny_loadPart_at cl ?_ | wp_step))
 refine ⟨rfl,?_⟩;refine codeAny_call_builtin_at (Code.quiet_builtin _ (by decide +kernel)) entry_typeCall (wpAny_check_type_call_sub cl ?_)
 show wpAny _ (A.under (.builtin "type.__call__" ⟨.ref C::dw,[]⟩)) (Builtin.«type.__call__» ⟨.ref C::dw,[]⟩) _ _ _
 repeat (first | with_reducible refine wpAny_loadPart_at cl ?_ | with_reducible refine wpAny_madeBy_exc cl ?_ | wp_step)
 refine codeAny_call_builtin_code (Code.quiet_builtin _ F.quiet) (wpAny_check_new_subT F T cl ?_);refine codeAny_exc_new_subT F T cl ?_ hz
 show wpAny _ _ _ _ _ _
 have kp:∀ b o,h.get? b=some o→((h.push (w6 dw)).push (w5 C h.objs.size)).get? b=some o:=fun b o e=>Heap.get?_push_of_some _ (Heap.get?_push_of_some _ e);have X1:K.In ((h.push (w6 dw)).push (w5 C h.objs.size)):=X.keeps kp
 have ge:((h.push (w6 dw)).push (w5 C h.objs.size)).get? (h.objs.size+1)=some (w5 C h.objs.size):=by
  have:=Heap.get?_push_size (h.push (w6 dw)) (o:=w5 C h.objs.size) rfl
  rwa [Heap.size_push] at this
 have gt:((h.push (w6 dw)).push (w5 C h.objs.size)).get? h.objs.size=some (w6 dw):=Heap.get?_push_of_some _ (Heap.get?_push_size h rfl);have own:(Value.ref C::up).contains (.ref C)=true:=by simp
 unfold isInstance;have cl1:=kp _ _ cl
 repeat (first | with_reducible refine wpAny_loadPart_at ge ?_ | (with_reducible refine wpAny_isSubtype_exc cl1 ?_; rw [own]) | wp_step)
 show wpAny _ _ (typeLookup (.ref C) _) _ _ _
 refine (looks_findIn X1 hi).at ?_;refine wpAny_holding (wpAny_bind ((bind_fn X1 (.ref (h.objs.size+1)) hf).at ?_));refine wpAny_bind (wpAny_mono (k _ (h.objs.size+1) ⟨kp,Heap.get?_none_of_le (Nat.le_succ _),h.objs.size,ge,Heap.get?_none_of_le (Nat.le_refl _),gt⟩) (fun r s' hr=>?_) fun _ _ z=>z);obtain ⟨rfl,hQ⟩:=hr
 wp_walk
 exact hQ
end
def cV (e C:Addr) (xo:Option Addr) (h:Heap):Prop:=∃ o a0,h.get? e=some o∧o.cls=.ref C∧o.data=.fields #[a0,.none,.none,.none,.bool false,.none]∧o.dict=xo
def fK (e C:Addr) (xo:Option Addr):HO:=.ext (cV e C xo)
def nG (d:Addr) (fs:List (Str×V)) (h:Heap):Prop:=∃ mA,h.Ns1 d mA∧(∀ f,fM (fs.lookup f) (mA f))∧PySem.Within mA (fs.map (·.1))
def XdO (d:Addr) (fs:List (Str×V)):HO:=.ext (nG d fs)
theorem cV.stay {e C:Addr} {xo:Option Addr}:∀ h1 h2:Heap,cV e C xo h1→(∀ o,h1.get? e=some o→h2.get? e=some o)→cV e C xo h2:=fun _ _ ⟨o,a0,h1,h2⟩ k=>⟨o,a0,k o h1,h2⟩
theorem nG.stay {d:Addr} {fs:List (Str×V)}:∀ h1 h2:Heap,nG d fs h1→(∀ o,h1.get? d=some o→h2.get? d=some o)→nG d fs h2:=fun _ _ ⟨mA,⟨o,es,ep,ho,r⟩,q⟩ k=>⟨mA,⟨o,es,ep,k o ho,r⟩,q⟩
theorem cV.at {e C:Addr} {xo:Option Addr} {h:Heap} (p:cV e C xo h):gS e C h:=let ⟨o,_,h1,h2,_⟩:=p; ⟨o,h1,h2⟩
theorem wD {h:Heap} {line up:List Value} {self:Value} (T:OwnTail h line up) (p:refuseLoop self "__setattr__" line=pure ()):refuseLoop self "__setattr__" up=pure ():=by
 induction T with
 | base=>exact p
 | _=>rw [refuseLoop_ref]; assumption
structure ExI (K:W.Frag) (C:Addr):Prop where
 ex:tX K C [.type "ValueError",.type "Exception",.type "BaseException",.type "object"] "ValueError.__new__"=true
 sa:findIn K (.ref C) "__setattr__"=some (some (.builtin "object.__setattr__"))
 mo:mroIn K C (.type "object")=some true
section
variable {prog:Program} {w:World} {A:Around} {E:Value→Shared→Prop} {K:W.Frag} {s:Shared} {C x:Addr} {name:Str} {v:Value}
theorem ExI.cls (e:ExI K C):∃ cd up,clsIn K C=some cd∧cd.mro=.ref C::up∧cd.hasDict=true∧tailIn K [.type "ValueError",.type "Exception",.type "BaseException",.type "object"] up=true:=by
 obtain ⟨nm,qn,N,bs,up,sn,sub,ab,col,dd,k0,k1,k2,k3,k5,hl,tl⟩:=pP e.ex
 have z:∃ cd,clsIn K C=some cd∧cd.mro=.ref C::up∧cd.hasDict=true:=by
  unfold clsIn;rw [hl];exact ⟨_,rfl,rfl,rfl⟩
 obtain ⟨cd,z1,z2,z3⟩:=z;exact ⟨cd,up,z1,z2,z3,tl⟩
theorem osx {R:Result→Shared→Prop} {tk:Tok} (X:K.In s.heap) (ei:ExI K C) (LT:Looks (model prog w) s.heap (typeOf (.ref x)) (.ref C)) (hn:findIn K (.ref C) name=some none)
  (h:wpAny (model prog w) A.in1 (storeInOwnDict (.ref x) (.ref C) (.str name tk) name v false) (fun fin s'=>match fin with | .done f=>R (.ok f) s' | .again c'=>c'.quiet=true∧codeAny (model prog w) A c' R s') (fun e s'=>R (.error e) s') s) :
  codeAny (model prog w) A (.call (.builtin "object.__setattr__") ⟨[.ref x,.str name tk,v],[]⟩) R s:=by
 have SF:=PySem.F.store_object;obtain ⟨cd,up,hc,hm,hd,tl⟩:=ei.cls;have sub:Looks (model prog w) s.heap (isInstance (.ref x) (.type "object")) true:=LT.andThen (looks_mroIn X ei.mo);have mr:Looks (model prog w) s.heap (mroOf (.ref C)) cd.mro:=(looks_clsIn X hc).andThen .now;refine codeAny_call_builtin SF.slot.plain SF.entry (@check_slot (model prog w) _ _ s "object.__setattr__" "object" "__setattr__" (.ref x) [.str name tk,v] [] _ SF.kind SF.split sub (SF.args (.ref x) (.str name tk) v) ?_);rw [osa_eq,refuse_eq];refine wpAny_bind (wpAny_bind (LT.here (wpAny_bind (mr.here ?_))));rw [hm,refuseLoop_ref,wD (tail_of_in X tl) (PySem.F.store_ValueError.passes (.ref x))];exact wpAny_pure (wpAny_bind (LT.here (wpAny_bind ((looks_findIn X hn).here (wpAny_bind (wpAny_pure h))))))
theorem DX {Q:Unit→Shared→Prop} (X:K.In s.heap) (ei:ExI K C) (LT:Looks (model prog w) s.heap (typeOf (.ref x)) (.ref C)) (hn:findIn K (.ref C) name=some none)
  (h:wpAny (model prog w) A.in1 (storeInOwnDict (.ref x) (.ref C) (.str name s.toks) name v false) (fun fin s'=>match fin with | .done (.ret _)=>Q () s' | _=>False) E { s with toks:=s.toks+1 }) :
  wpAny (model prog w) A (setAttr (.ref x) name v) Q E s:=by
 have c:=osx (A:=A) (R:=fun r s'=>match r with | .ok (.ret _)=>Q () s' | .ok _=>False | .error e=>E e s') (s:={ s with toks:=s.toks+1 }) (tk:=s.toks) (v:=v) X ei LT hn (wpAny_mono h (fun fin s' z=>by
  cases fin with
  | done f => cases f <;> exact z
  | again c => exact z.elim) fun _ _ z => z)
 refine wpAny_bind (wpAny_mkText (wpAny_bind (wpAny_bind (wpAny_bind (LT _ _ _ _ (fun _ _ e=>e) (looks_findIn X ei.sa _ _ _ _ (fun _ _ e=>e) (wpAny_holding ?_)))))));rw [PySem.F.store_object.slot.bind];refine wpAny_bind (wpAny_pure (wpAny_bind (wpAny_call (codeAny_mono c fun r s' z=>?_))));rcases r with e | (v | _ | _ | _)<;>first | exact z | exact wpAny_pure (wpAny_pure z)
end
section
variable {prog:Program} {w:World} {A:Around} {E:Value→Shared→Prop} {K:W.Frag} {s:Shared} {C x:Addr} {name:Str} {v:Value} {tk:Tok} {o:Obj} {vs:Array Value}
theorem uG {Q:Fin→Shared→Prop} (X:K.In s.heap) (ei:ExI K C) (hx:s.heap.get? x=some o) (hc:o.cls=.ref C) (hd:o.data=.fields vs) (hn:o.dict=none)
  (k:∀ h' t',h'.get? x=some { o with dict:=some s.heap.objs.size }→h'.Ns1 s.heap.objs.size (fun y=>if y=name then some v else none)→(∀ b u,b≠x→s.heap.get? b=some u→h'.get? b=some u)→Q (.done (.ret .none)) { s with heap:=h',toks:=t' }) :
  wpAny (model prog w) A (storeInOwnDict (.ref x) (.ref C) (.str name tk) name v false) Q E s:=by
 obtain ⟨cd,up,hcd,_,hh,_⟩:=ei.cls;obtain ⟨oc,od,odt,osl⟩:=o;dsimp only at hc hd hn;subst hc hd hn;have ne:s.heap.objs.size≠x:=Nat.ne_of_gt (Heap.lt_size hx);refine wpAny_bind (wpAny_pure (wpAny_bind (wpAny_bind (wpAny_loadPart hx (wpAny_bind ((looks_clsIn X hcd).here ?_))))));rw [hh]
 show wpAny _ _ (do let d ← alloc { cls:=.type "dict",data:=.dict #[] }; update x fun o=>{ o with dict:=some d }; dictMade (.ref C) x d) _ _ _
 refine wpAny_bind (wpAny_alloc' (wpAny_bind (wpAny_update' (Heap.get?_push_of_some _ hx) ?_)));refine wpAny_pure (a:=some s.heap.objs.size) (wpAny_bind (wpAny_pure (wpAny_bind ?_)))
 have gd:((s.heap.push { cls:=.type "dict",data:=.dict #[] }).update x fun o=>{ o with dict:=some s.heap.objs.size }).get? s.heap.objs.size=some { cls:=.type "dict",data:=.dict #[] }:=by
  rw [Heap.get?_update_other _ _ (Ne.symm ne)];exact Heap.get?_push_size s.heap rfl
 have nd:((s.heap.push { cls:=.type "dict",data:=.dict #[] }).update x fun o=>{ o with dict:=some s.heap.objs.size }).Ns s.heap.objs.size (fun _=>none):=⟨_,#[],_,gd,rfl,(fun e he=>absurd he (by simp)),fun _=>rfl⟩
 refine wpAny_nsSet1 (Heap.Ns1.of_empty nd) fun h' hn' hs=>?_;obtain ⟨oD,esD,epD,hoD,hdD,hcD⟩:=hn'.count (PySem.Within.cons name v PySem.Within.nil);refine wpAny_bind (wpAny_lookBehind hoD (by rw [hdD]; exact pastItsLine_dict (Nat.le_trans hcD (by rw [List.length_cons,List.length_nil,sizeLine_eq]; omega))) ?_);refine wpAny_pure (k h' _ ?_ hn' fun b u hb hu=>?_)
 ·refine (hs.2 x (Ne.symm ne)).trans (Heap.get?_update_self _ (Heap.get?_push_of_some _ hx) rfl)
 ·exact (hs.2 b (Nat.ne_of_lt (Heap.lt_size hu))).trans ((Heap.get?_update_other _ _ (Ne.symm hb)).trans (Heap.get?_push_of_some _ hu))
theorem tJ {Q:Fin→Shared→Prop} {dx:Addr} {mA:Str→Option Value} {ns:List Str} (X:K.In s.heap) (ei:ExI K C) (hx:s.heap.get? x=some o) (hc:o.cls=.ref C) (hd:o.data=.fields vs) (hn:o.dict=some dx) (hns:s.heap.Ns1 dx mA) (hw:PySem.Within mA ns) (hz:ns.length<1000)
  (k:∀ h' t',h'.Ns1 dx (fun y=>if y=name then some v else mA y)→(∀ b u,b≠dx→s.heap.get? b=some u→h'.get? b=some u)→Q (.done (.ret .none)) { s with heap:=h',toks:=t' }) :
  wpAny (model prog w) A (storeInOwnDict (.ref x) (.ref C) (.str name tk) name v false) Q E s:=by
 obtain ⟨cd,up,hcd,_,hh,_⟩:=ei.cls;obtain ⟨oc,od,odt,osl⟩:=o;dsimp only at hc hd hn;subst hc hd hn;refine wpAny_bind (wpAny_pure (wpAny_bind (wpAny_bind (wpAny_loadPart hx (wpAny_bind ((looks_clsIn X hcd).here ?_))))));rw [hh];refine wpAny_pure (a:=some dx) (wpAny_bind (wpAny_pure (wpAny_bind ?_)));refine wpAny_nsSet1 hns fun h' hn' hs=>?_;obtain ⟨oD,esD,epD,hoD,hdD,hcD⟩:=hn'.count (PySem.Within.cons name v hw);refine wpAny_bind (wpAny_lookBehind hoD (by rw [hdD]; exact pastItsLine_dict (Nat.le_trans hcD (by rw [List.length_cons,sizeLine_eq]; omega))) ?_);exact wpAny_pure (k h' _ hn' fun b u hb hu=>(hs.2 b hb).trans hu)
end
section
variable {X:Cx} {pins:List (Addr×Obj)} {σ:St} {H:Hp} {s:Shared} {e C dx:Addr} {fs:List (Str×V)} {f:Str} {y:V} {u:Value} {A:Around} {E:Value→Shared→Prop} {Q:Unit→Shared→Prop}
theorem ze (I:Inv X pins σ H s) (he:H e=some (fK e C none)) (ei:ExI X.K C) (hn:findIn X.K (.ref C) f=some none) (ry:bG y u)
  (k:∀ d s',H d=none→d≠e→Inv X pins σ (upd (upd H d (XdO d [(f,y)])) e (fK e C (some d))) s'→Q () s'):wpAny (model X.prog X.w) A (setAttr (.ref e) f u) Q E s:=by
 have p:cV e C none s.heap:=(show bM X.prog X.w H s.heap e (.ext (cV e C none)) from I.hok e _ he).1;obtain ⟨o,a0,hx,hc,hd,hdn⟩:=id p;refine DX I.kIn ei (gS.looks p.at) hn (uG (s:={ s with toks:=s.toks+1 }) I.kIn ei hx hc hd hdn fun h' t' g1 g2 g3=>?_);have ne:s.heap.objs.size≠e:=Nat.ne_of_gt (Heap.lt_size hx);refine k s.heap.objs.size _ (I.hok.fresh (Nat.le_refl _)) ne ?_
 have xd:nG s.heap.objs.size [(f,y)] h':=by
  refine ⟨_,g2,fun n=>?_,fun n hn=>?_⟩
  ·show fM (List.lookup n [(f,y)]) (if n=f then some u else none)
   rw [List.lookup_cons];by_cases z:n=f
   ·subst z; simp only [beq_self_eq_true,if_true]; exact ry
   ·rw [if_neg z,show (n==f)=false from beq_eq_false_iff_ne.mpr z]; exact True.intro
  ·by_cases z:n=f
   ·subst z; simp
   ·exact absurd (if_neg z) hn
 obtain ⟨od,es,ep,hod,_⟩:=id g2;have fr:od.isFreed=false:=(Heap.get?_some_iff.mp hod).2;have gd:(s.heap.push od).get? s.heap.objs.size=some od:=Heap.get?_push_size s.heap fr
 have I1:Inv X pins σ (upd H s.heap.objs.size (XdO s.heap.objs.size [(f,y)])) { s with heap:=s.heap.push od,toks:=t' } :=
  I.laid (fun b v z=>Heap.get?_push_of_some _ z) (Nat.le_refl _) ⟨nG.stay _ _ xd fun o z=>by rw [hod] at z; cases z; exact gd,⟨_,gd⟩,nG.stay⟩
 refine I1.write (x:=e) (e:=e) (o:=fK e C (some s.heap.objs.size)) (h':=h') (t':=t') (by rw [au (Ne.symm ne),he]; exact True.intro) (.inl rfl) (fun b v hb z=>?_) ⟨_,g1⟩ ⟨⟨_,a0,g1,hc,hd,rfl⟩,⟨_,g1⟩,cV.stay⟩;by_cases q:b=s.heap.objs.size
 ·subst q;rw [show ({ s with heap:=s.heap.push od,toks:=t' }:Shared).heap=s.heap.push od from rfl,gd] at z
  cases z;exact hod
 ·have z':(s.heap.push od).get? b=some v:=z;rcases Heap.get?_push_cases z' with ⟨r,_⟩ | r
  ·exact absurd r q
  ·exact g3 b v hb r
theorem wJ (I:Inv X pins σ H s) (he:H e=some (fK e C (some dx))) (hD:H dx=some (XdO dx fs)) (ei:ExI X.K C) (hn:findIn X.K (.ref C) f=some none) (hl:fs.length<1000) (ry:bG y u)
  (k:∀ s',Inv X pins σ (upd H dx (XdO dx (cG f y fs))) s'→Q () s'):wpAny (model X.prog X.w) A (setAttr (.ref e) f u) Q E s:=by
 have p:cV e C (some dx) s.heap:=(show bM X.prog X.w H s.heap e (.ext (cV e C (some dx))) from I.hok e _ he).1;obtain ⟨o,a0,hx,hc,hd,hdn⟩:=id p;obtain ⟨mA,ns,rel,wi⟩:nG dx fs s.heap:=(show bM X.prog X.w H s.heap dx (.ext (nG dx fs)) from I.hok dx _ hD).1;refine DX I.kIn ei (gS.looks p.at) hn (tJ (s:={ s with toks:=s.toks+1 }) I.kIn ei hx hc hd hdn ns wi (by rw [List.length_map]; exact hl) fun h' t' g2 g3=>?_);have hd':∃ o,h'.get? dx=some o:=let ⟨o,_,_,z,_⟩:=g2; ⟨o,z⟩;refine k _ (I.write (x:=dx) (e:=dx) (by rw [hD]; exact True.intro) (.inl rfl) g3 hd' ⟨⟨_,g2,fun n=>?_,fun n hn=>?_⟩,hd',nG.stay⟩)
 ·show fM ((cG f y fs).lookup n) (if n=f then some u else mA n)
  rw [az];by_cases q:n=f
  ·rw [if_pos q,if_pos q]; exact ry
  ·rw [if_neg q,if_neg q]; exact rel n
 ·by_cases q:n=f
  ·rw [q]; exact (fV f y fs).1
  ·refine (fV f y fs).2 n (wi n fun z=>hn ?_)
   show (if n=f then some u else mA n)=none
   rw [if_neg q]; exact z
end
theorem Dg {H:Hp} {a:Addr} {o:HO} (h:H a=some o):upd H a o=H:=by
 funext b
 unfold upd;by_cases z:b=a
 ·rw [if_pos z,z,h]
 ·rw [if_neg z]
section
variable {X:Cx} {pins:List (Addr×Obj)} {σ:St} {H:Hp} {s:Shared} {e C:Addr} {xo:Option Addr} {u:Value} {A:Around} {E:Value→Shared→Prop} {Q:Value→Shared→Prop}
theorem Ec (I:Inv X pins σ H s) (he:H e=some (fK e C xo)) (ei:ExI X.K C)
  (k:∀ s',Inv X pins σ H s'→Q .none s'):wpAny (model X.prog X.w) A (call (.builtin "ValueError.__init__") [.ref e,u]) Q E s:=by
 have p:cV e C xo s.heap:=(show bM X.prog X.w H s.heap e (.ext (cV e C xo)) from I.hok e _ he).1;obtain ⟨o,a0,hx,hc,hd,hdn⟩:=id p;obtain ⟨nm,qn,N,bs,up,sn,sub,ab,col,dd,k0,k1,k2,k3,k5,hl,tl⟩:=pP ei.ex;have cl:=I.kIn _ _ hl;have T:=tail_of_in I.kIn tl;have F:=PySem.F.excBase_ValueError;obtain ⟨hh,g,d,t,os⟩:=s;refine wpAny_call (codeAny_call_builtin F.init.plain F.initEntry (wpAny_check_init_subT F T cl hx hc ?_));obtain ⟨oc,od,odt,osl⟩:=o;dsimp only at hc hd hdn;subst hc hd hdn
 wp_walk
 have fin:Q Value.none ⟨(hh.push { cls:=.type "tuple",data:=.seq #[u] }).update e (Obj.mapFields fun x=>x.setIfInBounds 0 (.ref hh.objs.size)),g,d,t,os⟩:=by
  have g1:=Heap.get?_update_self (Obj.mapFields fun x=>x.setIfInBounds 0 (.ref hh.objs.size)) (Heap.get?_push_of_some { cls:=.type "tuple",data:=.seq #[u] } hx) rfl;refine k _ ?_;have J:=I.write (x:=e) (e:=e) (o:=fK e C od) (h':=(hh.push { cls:=.type "tuple",data:=.seq #[u] }).update e (Obj.mapFields fun x=>x.setIfInBounds 0 (.ref hh.objs.size))) (t':=t) (by rw [he]; exact True.intro) (.inl rfl) (fun b v hb z=>?_) ⟨_,g1⟩ ⟨⟨_,.ref hh.objs.size,g1,rfl,rfl,rfl⟩,⟨_,g1⟩,cV.stay⟩
  ·rw [Dg he] at J;exact J
  ·rw [Heap.get?_update_other _ _ (Ne.symm hb)];exact Heap.get?_push_of_some _ z
 show wpAny _ _ (match a0 with | .ref a=>letGo [a0] | _=>pure ()) _ _ _
 cases a0<;>first | (refine wpAny_pure (wpAny_pure ?_); exact fin) | (wp_walk; exact fin)
end
structure Bg (K:W.Frag) (S:Addr):Prop where
 ga:specialIn K (.ref S) "__getattribute__"=some (some (.builtin "type.__getattribute__"))
 rd:readsIn K S (.type "type")=true
 at_:findCls K (.ref S) (.type "type") "__init__"=some (.val (.builtin "ValueError.__init__"))
def zB (K:W.Frag) (t:TA):TE:=fun σ H Q=>t σ H fun vs H1=>∃ (e C:Addr) (xo:Option Addr) (y:V),vs=[.ref e,y]∧H1 e=some (fK e C xo)∧ExI K C∧Q .non H1
theorem yE {K:W.Frag} {t:TA} {σ:St} {H:Hp} {Q:VK} (h:t σ H fun vs H1=>∃ (e C:Addr) (xo:Option Addr) (y:V),vs=[.ref e,y]∧H1 e=some (fK e C xo)∧ExI K C∧Q .non H1):zB K t σ H Q:=h
section
variable {X:Cx} {S:Addr} {x:Str} {p pos apos:Pos} {e o:Expr} {es:List Expr} {t:TA}
theorem yd {pl:Sem Bool} (hg:Gl X x) (hm:X.mg x=some (.ref S)) (c:Bg X.K S) (ha:PA X (e::es) t)
  (hdb:(x==("__debug__":Str))=false:=by decide)
  (hst:starEach (e::es) X.env=(false,eval e X.env)::starEach es X.env:=by rfl) (hpl:(backTo pos (starEach es X.env)).any (·.1)=false:=by rfl)
  (ht:eval (.Call (.Attribute (.Name x p) "__init__" apos) (e::es) [] pos) X.env=(do
   let ov ← eval (.Name x p) X.env
   standAt apos.atName
   let (f,first) ← holding [ov] (getMethod ov "__init__" pl)
   callWith pos f first (backTo pos (starEach (e::es) X.env)) (backToKw pos (keywordEach [] X.env))):=by rfl) :
  PE X (.Call (.Attribute (.Name x p) "__init__" apos) (e::es) [] pos) (zB X.K t):=by
 intro pins s σ H Q I h;refine W.methodCall_KW (pl:=pl) (thn ((dA (v:=.ref S) hg hm rfl hdb) pins s σ H (fun x H1=>x=.ref S∧H1=H) I ⟨rfl,rfl⟩) fun u s1 ⟨x,H1,I1,rx,ex,eh⟩=>?_) ht;subst ex; subst eh;obtain rfl:u=Value.ref S:=rx
 refine W.method_cls I1.kIn c.ga (W.cls_value I1.kIn c.rd c.at_ rfl ?_);have I2:=I1.tok (s1.toks+1);have hA:=ha pos pins _ σ H1 _ I2 h;rw [hst] at hA ⊢;refine Calls.callWith_builtin (by show (false||(backTo pos (starEach es X.env)).any (·.1))=false; rw [hpl]<;>rfl) (Calls.evalArgs_plain ?_);refine thn hA fun us s2 ⟨vs,H2,I3,r,q2⟩=>?_;obtain ⟨ee,C,xo,y,rfl,he,ei,q⟩:=q2;obtain ⟨u1,u2,rfl,r1,r2⟩:=r.two
 cases (show u1=Value.ref ee from r1)
 exact Ec I3 he ei fun s' I'=>⟨.non,H2,I',rfl,q⟩
end
def BA (K:W.Frag) (ta tv:TE) (f:Str):TS:=fun D σ H=>tv σ H fun y H1=>ta σ H1 fun x H2=>∃ (e C:Addr),x=.ref e∧ExI K C∧findIn K (.ref C) f=some none ∧
  ((H2 e=some (fK e C none)∧∀ d,H2 d=none→d≠e→D.nx σ (upd (upd H2 d (XdO d [(f,y)])) e (fK e C (some d)))) ∨
   ∃ dx fs,H2 e=some (fK e C (some dx))∧H2 dx=some (XdO dx fs)∧fs.length<1000∧D.nx σ (upd H2 dx (XdO dx (cG f y fs))))
theorem yz {K:W.Frag} {ta tv:TE} {f:Str} {D:cZ} {σ:St} {H:Hp} (h:tv σ H fun y H1=>ta σ H1 fun x H2=>∃ (e C:Addr),x=.ref e∧ExI K C∧findIn K (.ref C) f=some none ∧
  ((H2 e=some (fK e C none)∧∀ d,H2 d=none→d≠e→D.nx σ (upd (upd H2 d (XdO d [(f,y)])) e (fK e C (some d)))) ∨
   ∃ dx fs,H2 e=some (fK e C (some dx))∧H2 dx=some (XdO dx fs)∧fs.length<1000∧D.nx σ (upd H2 dx (XdO dx (cG f y fs))))):BA K ta tv f D σ H:=h
theorem Ax {X:Cx} {ta tv:TE} {f:Str} {o value:Expr} {pos pos':Pos} (ha:PE X o ta) (hv:PE X value tv) (hs:swapsWith value (some (.Attribute o f pos')) pos.line X.env=pure false):PS X (.Assign [.Attribute o f pos'] value pos) (BA X.K ta tv f):=by
 intro pins s σ H D I h;refine plainObj_wpAny_Assign_Attribute (thn (hv pins s σ H _ I h) fun u s1 ⟨y,H1,I1,ry,q⟩=>thn (ha pins s1 σ H1 _ I1 q) fun ov s2 ⟨x,H2,I2,rx,e,C,ex,ei,n,q2⟩=>?_) hs;subst ex;obtain rfl:ov=Value.ref e:=rx
 rcases q2 with ⟨he,k⟩ | ⟨dx,fs,he,hD,hl,k⟩
 ·exact ze I2 he ei n ry fun d s3 hd hne I3=>⟨σ,_,I3,k d hd hne⟩
 ·exact wJ I2 he hD ei n hl ry fun s3 I3=>⟨σ,_,I3,k⟩
def del (H:Hp) (e:Addr):Hp:=fun b=>if b=e then none else H b
theorem kf {H:Hp} {e b:Addr} (h:b≠e):del H e b=H b:=by unfold del; rw [if_neg h]
theorem fU {H:Hp} {e:Addr}:del H e e=none:=by unfold del; rw [if_pos rfl]
theorem Inv.untrack {X:Cx} {pins:List (Addr×Obj)} {σ:St} {H:Hp} {s:Shared} {e:Addr} {φ:Heap→Prop} (I:Inv X pins σ H s) (he:H e=some (.ext φ)):Inv X pins σ (del H e) s:=by
 have nt:∀ b u,H b=some u→(∀ ψ,u≠.ext ψ)→del H e b=some u:=fun b u z n=>by
  rw [kf (fun q=>by subst q; rw [he] at z; cases z; exact n φ rfl)]; exact z
 refine ⟨I.ok,I.os,I.bare,⟨I.base.keep,I.base.slot,fun b o z n hx=>?_,I.base.there,fun b xs z=>?_,fun b o u z=>?_,fun b ps z=>?_⟩,I.loc,I.cell,?_,fun x c z=>?_,fun p hp=>?_,fun b u z=>?_,I.len⟩
 ·by_cases q:b=e
  ·rw [q,fU]
  ·rw [kf q]; exact I.base.free b o z n hx
 ·exact nt b _ (I.base.tups b xs z) (by intro ψ q; cases q)
 ·exact nt b _ (I.base.frzs b o u z) (by intro ψ q; cases q)
 ·obtain ⟨m,q⟩:=I.base.tbls b ps z;exact ⟨m,nt b _ q (by intro ψ q; cases q)⟩
 ·by_cases q:X.env.locals=e
  ·rw [q,fU]
  ·rw [kf q]; exact I.free
 ·by_cases q:c=e
  ·rw [q,fU]
  ·rw [kf q]; exact I.freeC x c z
 ·obtain ⟨a,n,r⟩:=I.pin p hp;refine ⟨a,?_,r⟩;by_cases q:p.1=e
  ·rw [q,fU]
  ·rw [kf q]; exact n
 ·have hb:b≠e:=fun q=>by rw [q,fU] at z; cases z
  rw [kf hb] at z;exact (I.hok b u z).stay (fun _ _ _ w=>w) (fun c w=>nt c _ w (by intro ψ q; cases q)) fun c xs w=>nt c _ w (by intro ψ q; cases q)
section
variable {M:Model} {A:Around} {E:Value→Shared→Prop} {env:Env} {K:W.Frag} {C:Addr}
theorem AF {s:Shared} {x:Sem Value} {Q:Flow→Shared→Prop} (ei:ExI K C) (hh:A.handled=none)
  (h:wpAny M A x (fun v s₁=>∃ e oe a0,v=.ref e∧K.In s₁.heap∧s₁.heap.get? e=some oe∧oe.cls=.ref C∧oe.data=.fields #[a0,.none,.none,.none,.bool false,.none]∧E (.ref e) s₁) E s):wpAny M A (raiseStmt env (some x) none) Q E s:=by
 obtain ⟨nm,qn,N,bs,up,sn,sub,ab,col,dd,k0,k1,k2,k3,k5,hl,tl⟩:=pP ei.ex;unfold raiseStmt;refine wpAny_bind (wpAny_mono h (fun v s₁ h₁=>?_) fun _ _ x=>x);obtain ⟨e,oe,a0,rfl,X,he,hc,hd,hE⟩:=h₁;have cl:=X _ _ hl;have hb:(Value.ref C::up).contains (.type "BaseException")=true:=by rw [List.contains_cons,(tail_of_in X tl).hasType PySem.F.excBase_ValueError.hasBase,Bool.or_true]
 obtain ⟨oc,od,odt,osl⟩:=oe;dsimp only at hc hd;subst hc hd;obtain ⟨hp,g,d,tk,os⟩:=s₁
 repeat (first | with_reducible refine wpAny_loadPart_at he ?_ | with_reducible refine wpAny_loadPart_at cl ?_ | (with_reducible refine wpAny_isSubtype_exc cl ?_; rw [hb]) | wp_step)
 exact wpAny_raiseNew_none hh hE
end
structure MkX (K:W.Frag) (C f:Addr):Prop where
 ei:ExI K C
 init:findIn K (.ref C) "__init__"=some (some (.ref f))
 fn:typeIn K (.ref f)=some (.type "function")
 kp:keepIn K (.ref C)=true
def vw (C:Addr) (sp:Sp) (E:XK) (t:TA):TS:=fun _ σ H=>t σ H fun vs H1=>vs.length≤sizeLine∧∀ e,H1 e=none →
 sp (.ref e::vs) (upd H1 e (fK e C none)) (fun v H2=>v=.non∧∃ xo,H2 e=some (fK e C xo)∧E (.ref C) xo (del H2 e)) E0
theorem wC {C:Addr} {sp:Sp} {E:XK} {t:TA} {D:cZ} {σ:St} {H:Hp} (h:t σ H fun vs H1=>vs.length≤sizeLine∧∀ e,H1 e=none →
 sp (.ref e::vs) (upd H1 e (fK e C none)) (fun v H2=>v=.non∧∃ xo,H2 e=some (fK e C xo)∧E (.ref C) xo (del H2 e)) E0):vw C sp E t D σ H:=h
theorem wm {X:Cx} {E:XK} {x:Str} {C f:Addr} {fd:FuncData} {ps:List Str} {sp:Sp} {k:Nat} {np cpos pos:Pos} {e:Expr} {es:List Expr} {t:TA} (M:MkX X.K C f) (F:aU X.prog X.w X.K X.mg X.base CX0 k f fd ps sp) (hr:cS (k+1) X.A)
  (hg:Gl X x) (hm:X.mg x=some (.ref C)) (hb:aK X.K fd ps []) (hc:X.calm=true) (hex:X.ex=[])
  (hx:∀ (pins:List (Addr×Obj)) (σ:St) (H:Hp) (s:Shared) (e:Addr) (xo:Option Addr) (oe:Obj) (vs:Array Value),Inv X pins σ H s→s.heap.get? e=some oe→oe.cls=.ref C→oe.data=.fields vs→vs[1]?=some .none→X.s₀.heap.get? e=none→H e=none→(∀ dx,xo=some dx→oe.dict=some dx)→E (.ref C) xo H→X.xe (.ref e) s)
  (ha:PA X (e::es) t) (hd:(x==("__debug__":Str))=false:=by decide) (he:starEach (e::es) X.env=(false,eval e X.env)::starEach es X.env:=by rfl) (hpl:(backTo cpos (starEach es X.env)).any (·.1)=false:=by rfl) :
  PS X (.Raise (some (.Call (.Name x np) (e::es) [] cpos)) none pos) (vw C sp E t):=by
 intro pins s σ H D I h;rw [arm_exec_Raise];refine wpAny_bind (wpAny_standAt (AF (K:=X.K) (C:=C) M.ei (I.ok.hd hc) (wpAny_bind (wpAny_mono (wpAny_Call_Name_kw (fc I hg hm ?_ hd)) (fun v s3 h3=>wpAny_bind (wpAny_standAt (wpAny_pure h3))) fun _ _ z=>z))));refine W.callWith_K (h₀:=X.base) I.ok.mod.kin M.kp (thn (ha cpos pins s σ H _ I h) fun us s1 ⟨vs,H1,I1,r,hz,q⟩=>⟨I1.kIn,?_⟩) he hpl;obtain ⟨h1,g1,d1,t1,os1⟩:=s1;rw [List.nil_append];refine Eb I1.kIn M.ei.ex PySem.F.excBase_ValueError M.init M.fn (by rw [← r.length]; exact hz) fun h' a mk=>?_;have nH:H1 a=none:=I1.hok.none_of mk.new
 have n0:X.s₀.heap.get? a=none:=by
  cases z:X.s₀.heap.get? a with
  | none => rfl
  | some o => obtain ⟨o', z'⟩ := I1.base.there a o z (by rw [hex]; intro q; cases q); rw [show h1.get? a = none from mk.new] at z'; cases z'
 obtain ⟨tp,ga,_,_⟩:=mk.there
 have I2:Inv X pins σ (upd H1 a (fK a C none)) ⟨h',g1,d1,t1,os1⟩:=by
  refine (I1.kept (t':=t1) mk.keeps).track nH n0 (fun p hp z=>?_) ⟨_,_,ga,rfl⟩ ⟨_,_,ga,rfl,rfl,rfl⟩ cV.stay;have hp':=(I1.pin p hp).1;rw [z,show h1.get? a=none from mk.new] at hp'
  cases hp'
 have hq:=q a nH;have r2:aV (V.ref a::vs) (Value.ref a::us):=.cons rfl r
 have hl:(Value.ref a::us++[]).length=ps.length:=by
  rw [List.append_nil];have e:=r2.length;rw [F.len _ _ _ _ hq] at e;exact e.symm
 refine wpAny_call (codeAny_mono (F.run _ X.stack _ _ ⟨Value.ref a::us,[]⟩ (Value.ref a::us) _ _ E0 (hr.make C us []) (I2.env0.make C us []) (by have:=hb _ (Value.ref a::us) I2.kIn hl; rw [List.append_nil] at this; exact this) r2 hq) fun r s' hq'=>?_)
 cases r with
 | error e=>exact False.elim hq'
 | ok fl =>
  cases fl with
  | ret u =>
   obtain ⟨v,H',I3,rv,ev,xo,hM,hE⟩:=I2.after hq';subst ev;refine ⟨rv,?_⟩;obtain ⟨o,a0,y1,y2,y3,y4⟩:cV a C xo s'.heap:=(show bM X.prog X.w H' s'.heap a (.ext (cV a C xo)) from I3.hok a _ hM).1;exact ⟨a,o,a0,rfl,I3.kIn,y1,y2,y3,hx pins σ _ s' a xo o _ (I3.untrack hM) y1 y2 y3 rfl n0 fU (fun dx z=>y4.trans z) hE⟩
  | next => exact False.elim hq'
  | brk => exact False.elim hq'
  | cont => exact False.elim hq'
def D2 (ta:TE):TE:=fun σ H Q=>ta σ H fun v H1=>∃ n:Nat,v=.int (n:Int)∧n<100∧∀ x:Str,x.length≤100→Q (.str x) H1
theorem CU {ta:TE} {σ:St} {H:Hp} {Q:VK} (h:ta σ H fun v H1=>∃ n:Nat,v=.int (n:Int)∧n<100∧∀ x:Str,x.length≤100→Q (.str x) H1):D2 ta σ H Q:=h
theorem uJ:∀ n:Fin 100,((toString ((n.val:Nat):Int):String):Str).length≤100:=by decide +kernel
theorem vX:∀ n:Fin 100,(((n.val:Nat):Int)).natAbs.log2<1920:=by decide +kernel
theorem Cq {X:Cx} {e:Expr} {ta:TE} {pos:Pos} (h:PE X e ta):PE X (.FormattedValue e (-1) none pos) (D2 ta):=by
 intro pins s σ H Q I q;refine FormattedValue_plain (thn (h pins s σ H _ I q) fun u s1 ⟨v,H1,I1,r,n,ev,hn,k⟩=>?_);subst ev;obtain ⟨t,rfl⟩:=r;exact formatField_int_small (vX ⟨n,hn⟩) ⟨.str (toString ((n:Nat):Int):String),H1,I1.tok _,⟨_,rfl⟩,k _ (uJ ⟨n,hn⟩)⟩
def tFs:List TE→Nat→St→Hp→(Hp→Prop)→Prop
 | [],_,_,H,R=>R H
 | t::ts,k,σ,H,R=>t σ H fun v H1=>∃ x:Str,v=.str x∧x.length≤100∧tFs ts k σ H1 R
def BG (ts:List TE):TE:=fun σ H Q=>tFs ts 0 σ H fun H1=>∀ x:Str,Q (.str x) H1
inductive PEs (X:Cx):List Expr→List TE→Prop
 | nil:PEs X [] []
 | cons {e:Expr} {es:List Expr} {t:TE} {ts:List TE}:PE X e t→PEs X es ts→PEs X (e::es) (t::ts)
theorem uX {X:Cx} {pins:List (Addr×Obj)} {σ:St} {Q:VK} {k:Nat}:∀ {es:List Expr} {ts:List TE} {s:Shared} {H:Hp} {out:Str},PEs X es ts→out.length+100*es.length≤sizeLine→Inv X pins σ H s →
  tFs ts k σ H (fun H1=>∀ x:Str,Q (.str x) H1)→wpAny (model X.prog X.w) X.A (joinParts out (evalEach es X.env)) (EP X pins σ Q) X.xe s
 | [],_,s,H,out,.nil,hz,I,h=>joinParts_nil ⟨.str out,H,I.tok _,⟨_,rfl⟩,h _⟩ (by simpa using hz)
 | e::es,t::ts,s,H,out,.cons he hs,hz,I,h=>by
  rw [List.length_cons] at hz
  show wpAny _ _ (joinParts out (eval e X.env::evalEach es X.env)) _ _ _
  refine joinParts_cons (thn (he pins s σ H _ I h) fun u s1 ⟨v,H1,I1,r,x,ev,hx,q⟩=>?_);subst ev;obtain ⟨t,rfl⟩:=r;have hl:(out++x).length=out.length+x.length:=strLen_append _ _;exact ⟨by rw [hl]; omega,uX hs (by rw [hl]; omega) I1 q⟩
theorem As {X:Cx} {e1 e2:Expr} {es:List Expr} {ts:List TE} {pos:Pos} (h:PEs X (e1::e2::es) ts) (hz:es.length≤20):PE X (.JoinedStr (e1::e2::es) pos) (BG ts):=fun pins s σ H Q I q =>
 JoinedStr_many (uX (k:=0) (out:=Str.empty) h (by have:(Str.empty).length=0:=rfl; rw [this,List.length_cons,List.length_cons,sizeLine_eq]; omega) I q)
theorem AO {ts:List TE} {σ:St} {H:Hp} {Q:VK} (h:tFs ts 0 σ H fun H1=>∀ x:Str,Q (.str x) H1):BG ts σ H Q:=h
end L2
namespace L2
open PySem PySem.Spec PyProof.Rows PySem.W
theorem exi_mk {K:W.Frag} {C S:Addr} {line:List Value} {nid:String} {dd:Option Addr} {k:ClassData} {ss:Array (Option Value)} {k0 k1 k2 k3 k5:Option Value}
  (hl:K.lookup C=some ⟨.type "type",dd,.cls k,ss⟩) (hm:k.mro=.ref C::.ref S::line) (hs:ss.toList=[k0,k1,k2,k3,some (.builtin nid),k5]) (hdel:k.hasDel=false) (hd:k.hasDict=true) (xs:excIn K S line nid=true):tX K C line nid=true:=by
 have tl:tailIn K line (.ref S::line)=true:=by
  have tt:tailIn K line line=true:=by
   cases line with
   | nil=>rfl
   | cons v r=>unfold tailIn; rw [show ((v::r)==(v::r))=true from beq_self_eq_true _]; rfl
  unfold tailIn;unfold excIn at xs
  split at xs
  case h_2=>cases xs
  case h_1 dd' cd sl ho =>
   split at xs
   case h_2=>cases xs
   case h_1 =>
    simp only [Bool.and_eq_true] at xs;dsimp only;rw [ho];simp only [Bool.or_eq_true,Bool.and_eq_true];exact .inr ⟨⟨xs.1.2,xs.2⟩,tt⟩
 unfold tX;simp only [hl,hm,hs];simp only [hdel,hd,tl,beq_self_eq_true,Bool.not_false,Bool.and_self]
theorem xF {H:Hp} {e d C:Addr} {fs:List (Str×V)} {o1 o2:HO} (he:H e=none) (ne:d≠e):del (upd (upd (upd H e o1) d (XdO d fs)) e o2) e=upd H d (XdO d fs):=by
 funext b
 unfold del upd;by_cases q:b=e
 ·subst q;rw [if_pos rfl,if_neg (Ne.symm ne),he]
 ·rw [if_neg q,if_neg q];by_cases r:b=d
  ·rw [if_pos r,if_pos r]
  ·rw [if_neg r,if_neg r,if_neg q]
theorem h9 {X:Cx} (K:W.Frag) (hK:X.K=K) {T:String} {name:Str} {id:String} {r:V→List V→Hp→VK→Prop} {o e:Expr} {es:List Expr} {to:TE} {t:TA} {apos cpos:Pos} (pa:PlainAttrs T) (slot:Slot T name id) (hty:typeOf (.builtin id)=pure (.type "method_descriptor")) (hm:MtR X id r) (ho:PE X o to) (ha:PA X (e::es) t)
  (hbase:attributeBase o name X.env (eval o X.env)=eval o X.env:=by rfl)
  (hfew:((backTo cpos (starEach (e::es) X.env)).all (fun x=>!x.1)&&(backToKw cpos (keywordEach [] X.env)).all (fun x=>x.1.isSome)
   && decide ((e::es).length+([]:List Keyword).length+(if ([]:List Keyword).isEmpty then 0 else 1)<30))=true:=by rfl)
  (hline:(apos.endLine==cpos.line)=true:=by rfl) (hs:starEach (e::es) X.env=(false,eval e X.env)::starEach es X.env:=by rfl) (hplain:(backTo cpos (starEach es X.env)).any (·.1)=false:=by rfl) :
  PE X (.Call (.Attribute o name apos) (e::es) [] cpos) (tBM K T r to t):=hK ▸ gR pa slot hty hm ho ha hbase hfew hline hs hplain
end L2
namespace L2
open PySem PySem.Spec PyProof.Rows
theorem jk {H:Hp} {Q:VK} {i j:Str} (h:Q (.bl (!decide (i=j))) H):rNe (.str i) (.str j) H Q:=⟨rfl,by
 have e:decide (V.str i=V.str j)=decide (i=j):=by by_cases z:i=j<;>simp [z]
 rw [e]; exact h⟩
end L2
namespace Fc
def it:Nat→Nat→Nat
 | 0,x=>x
 | n+1,x=>it n (5*x+1)
def lp (M:Nat):Nat→Nat×Nat→Nat×Nat
 | 0,q=>q
 | r+1,q=>lp M r ((q.1*5+1+q.2 / 32)%M,q.2 / 32)
end Fc
namespace Fc
open PySem PySem.SetTable
def st (mask:Nat) (q:Nat×Nat):Probe:={ j:=q.1,more:=runEnd mask q.1 - q.1,i:=q.1,perturb:=q.2,dummy:=none }
end Fc
namespace Fc
open PySem PySem.SetTable PyProof.Rows
section
variable {prog:Program} {w:World} {A:Around} {E:Value→Shared→Prop} {s:Shared}
abbrev TK (prog:Program) (w:World) (h:Heap) (q:List Int) (b:Addr):Prop:=IsTupleKey (intKind prog w) h q b
end
end Fc
namespace Fc
open PySem PySem.SetTable PyProof.Rows
section
variable {prog:Program} {w:World} {A:Around} {E:Value→Shared→Prop} {s:Shared}
def Els (prog:Program) (w:World) (h:Heap) (es:Array (Int×Value)) (ks:List (List Int)):Prop:=∀ e∈es.toList,∃ q∈ks,∃ b,e.2=.ref b∧TK prog w h q b
end
end Fc
namespace Fc
open PySem PySem.SetTable PyProof.Rows
end Fc
namespace Fc
open PySem PySem.SetTable PyProof.Rows
section
variable {prog:Program} {w:World} {A:Around} {E:Value→Shared→Prop} {s:Shared}
def xm (prog:Program) (w:World) (h:Heap) (a:Addr) (ks:List (List Int)):Prop:=∃ o es ep t k,h.get? a=some o∧o.ExactSet∧o.data=.set es ep t∧t.mask+1=2 ^ k∧3≤k∧k≤13∧t.dummies=#[]∧t.place.size=es.size∧es.size=ks.length∧es.size*5<t.mask*3∧Els prog w h es ks
end
end Fc
namespace Fc
open PySem PySem.SetTable PyProof.Rows
end Fc
namespace L2
open PySem PySem.Spec PyProof.Rows PySem.W
def sgn (c:Nat):Str:=⟨#[c]⟩
def Itx (x:Str):It:=⟨fun i _=>i<x.cps.size,fun i H v H'=>H'=H∧∃ c,x.cps[i]?=some c∧v=.str (sgn c),fun i _=>x.cps.size≤i⟩
theorem wY {P:Program} {w:World} {K:W.Frag} {tg:Expr} {ty:String} (it:Addr) (x:Str) (t:Tok) (hty:ty="str_ascii_iterator"∨ty="str_iterator"):pF P w K tg (Itx x) [it] it (fun i h=>h.IsStrIter it ty x t i) where
  mem:=by simp
  obj:=fun i h st b hb=>by
    have e:b=it:=by simpa using hb
    subst e;obtain ⟨o,e,c,d⟩:=st;exact ⟨o,e,fun v z=>by rw [d] at z; cases z⟩
  keep:=fun i h h' st k=>let ⟨o,ho,r⟩:=st; ⟨o,k it (by simp) o ho,r⟩
  item:=by
    intro X hP hw hK hc i pins s σ H E I hf st hg;subst hP hw hK;have hg:i<x.cps.size:=hg;obtain ⟨f0,f1,f2,f3,f4,f5⟩:=hf it (by simp);have key:∀ h':Heap,h'.IsStrIter it ty x t (i+1)→Heap.SameBut it s.heap h' →
        ∃ u,some (Value.str ⟨#[x.cps[i]]⟩ s.toks)=some u∧wpAny (model X.prog X.w) X.A (letOwnedTupleGo tg (.ref it) u) (fun _ s2=>∃ x_1 H',Inv X pins σ H' s2∧bG x_1 u∧(Itx x).yld i H x_1 H'∧s2.heap.IsStrIter it ty x t (i+1)∧∀ b∈[it],H' b=none) E { s with heap:=h',toks:=s.toks+1 }:=fun h' st' sb=>by
      have I1:Inv X pins σ H { s with heap:=h',toks:=s.toks+1 }:=I.turned (fun b o hb e=>(sb.2 b hb).trans e) f0 f1 f3 f4 f5;obtain ⟨o,e,c,d⟩:=id st';exact ⟨_,rfl,rY (s:={ s with heap:=h',toks:=s.toks+1 }) e c d (by rcases hty with z | z<;>rw [z]<;>decide) ⟨.str (sgn x.cps[i]),H,I1,⟨_,rfl⟩,⟨rfl,_,by simp [hg],rfl⟩,st',fun b hb=>(hf b hb).1⟩⟩
    rcases hty with z | z
    · subst z
      exact wpAny_pyNext_ascii_item st (c:=x.cps[i]) (by simp [hg]) key
    · subst z
      exact wpAny_pyNext_wide_item st (c:=x.cps[i]) (by simp [hg]) key
  done:=by
    intro X hP hw hK hc i pins s σ H E I hf st hg;subst hP hw hK;have hg:x.cps.size≤i:=hg;obtain ⟨f0,f1,f2,f3,f4,f5⟩:=hf it (by simp);have key:∀ h':Heap,Heap.ExtBut it s.heap h'→(none:Option Value)=none∧Inv X pins σ H { s with heap:=h' }:=fun h' eb=>⟨rfl,I.turned (t':=s.toks) (fun b o hb e=>eb b o hb e) f0 f1 f3 f4 f5⟩
    rcases hty with z | z
    · subst z
      exact wpAny_pyNext_ascii_end (I.ok.hd hc) st (by simp; omega) key
    · subst z
      exact wpAny_pyNext_wide_end (I.ok.hd hc) st (by simp; omega) key
  self:=fun A i s Q E st h=>by
    rcases hty with z | z
    · subst z; exact wpAny_pyIter_striter_ascii st h
    · subst z; exact wpAny_pyIter_striter_wide st h
def Bq (tl:TE):TI:=fun σ H R=>tl σ H fun v H1=>∃ x:Str,v=.str x∧R (Itx x) H1
theorem yF {tl:TE} {σ:St} {H:Hp} {R:It→Hp→Prop} (h:tl σ H fun v H1=>∃ x:Str,v=.str x∧R (Itx x) H1):Bq tl σ H R:=h
theorem u5 {X:Cx} {tg l:Expr} {tl:TE} (hl:PE X l tl):PI X tg l (Bq tl):=by
 intro pins s σ H R I h;refine thn (hl pins s σ H _ I h) fun v s1 ⟨x,H1,I1,r1,q1⟩=>?_;obtain ⟨x,rfl,q⟩:=q1;obtain ⟨t,rfl⟩:=r1;have fin:∀ (ty:String),(ty="str_ascii_iterator"∨ty="str_iterator")→PIE X pins σ tg R (.ref s1.heap.objs.size) { s1 with heap:=s1.heap.push { cls:=.type ty,data:=.fields #[.str x t,.int 0 0] } }:=fun ty hty=>by
  refine ⟨s1.heap.objs.size,[s1.heap.objs.size],_,_,H1,rfl,I1.kept (t':=s1.toks) fun b o e=>Heap.get?_push_of_some _ e,wY _ x t hty,⟨_,Heap.get?_push_size _ rfl,rfl,rfl⟩,fun b hb=>?_,q⟩;have e:b=s1.heap.objs.size:=by simpa using hb
  subst e;exact I1.fpOk (Nat.le_refl _) (I1.hok.fresh (Nat.le_refl _))
 cases ha:x.cps.all (·<128)
 ·exact wpAny_pyIter_wide ha (fin _ (.inr rfl))
 ·exact wpAny_pyIter_ascii ha (fin _ (.inl rfl))
theorem kN {σ:St} {H:Hp} {Q:VK} {te:TE} {cap:List (Option Nat)} {l:Addr} {x:Str} (ys:List V) (hy:ys.length=x.cps.size) (hz:x.cps.size≤1000) (hl:H l=none)
  (step:∀ (i:Nat) c y o H' (Q':VK),x.cps[i]?=some c→ys[i]?=some y→ai H H'→(∀ H5,ai H' H5→Q' y H5)→te (((gm (none::cap) σ).set 0 o).set 0 (some (.str (sgn c)))) H' Q')
  (fin:∀ H',ai H H'→H' l=some (.lst ys)→Q (.ref l) H'):jC (Itx x) (eW 0) j0 te (none::cap) l σ H Q:=by
 refine ⟨x.cps.size,fun i zs σ' H'=>zs=ys.take i∧(∃ o,σ'=(gm (none::cap) σ).set 0 o)∧ai H H'∧H' l=some (.lst zs),⟨rfl,⟨none,rfl⟩,ai.new hl,ae⟩,?_,?_⟩
 ·rintro i zs σ' H' hi ⟨rfl,⟨o,rfl⟩,s,e⟩;refine ⟨hi,fun v H2 y=>?_⟩;obtain ⟨e2,c,hc,rfl⟩:=y;subst e2;have hyi:i<ys.length:=by omega
  refine dR (fH (pR ?_));refine step i c ys[i] o H2 _ hc (List.getElem?_eq_getElem hyi) s fun H5 s5=>⟨s5 _ _ e,?_,?_⟩
  ·rw [List.length_take];exact aP (by omega)
  ·exact ⟨List.take_append_getElem hyi,⟨_,List.set_set ..⟩,(s.trans s5).later hl,ae⟩
 ·rintro zs σ' H' ⟨rfl,_,s,e⟩;rw [List.take_of_length_le (by omega)] at e;exact ⟨Nat.le_refl _,fin H' s e⟩
theorem tK:∀ {xs:List Str} {us:List Value},aV (xs.map V.str) us→∃ l:List (Str×Tok),us=strValues l∧l.map (·.1)=xs
 | [],us,h=>by cases h; exact ⟨[],rfl,rfl⟩
 | x::xs,us,h=>by
  cases h with
  | cons h1 h2 =>
   obtain ⟨t,rfl⟩:=(show ∃ t,_=Value.str x t from h1)
   obtain ⟨l,rfl,rfl⟩:=tK h2;exact ⟨(x,t)::l,rfl,rfl⟩
def DI:V→List V→Hp→VK→Prop:=fun x ys H Q=>∃ (a:Str) (p:Addr) (ts:List Str),x=.str a∧ys=[.ref p]∧H p=some (.lst (ts.map V.str))∧JoinOk a ts=true∧Q (.str (Txt.join a ts)) H
theorem Al {X:Cx}:MtR X "str.join" DI:=by
 intro pins s σ H x ys v us Q I rx rv h;obtain ⟨x,p,ts,rfl,rfl,hp,hok,q⟩:=h;obtain ⟨t,rfl⟩:=rx;obtain ⟨u,rfl,ru⟩:=rv.one
 cases ru;obtain ⟨z,its,n,r,hl,e⟩:=I.lstM hp;obtain ⟨l,rfl,ht⟩:=tK r;exact SC.join (l:=l) ⟨_,e,rfl,n,rfl⟩ ht hok fun t' k=>⟨.str _,H,I.tok _,⟨_,rfl⟩,q⟩
theorem vk {v:Value} {o:Option Int} (h:IsPart v o):∃ p:Option (Int×Tok),v=partValue p∧p.map (·.1)=o:=by
 cases h with
 | none=>exact ⟨none,rfl,rfl⟩
 | int i t=>exact ⟨some (i,t),rfl,rfl⟩
def DL:V→Option Int→Option Int→Hp→VK→Prop:=fun x lo hi H Q=>∃ a:Str,x=.str a∧a.length≤sizeLine∧Q (.str (Txt.slice a lo hi)) H
theorem A8 {X:Cx}:SlR X DL:=by
 intro pins s σ H x v vl vu lo hi sl Q I rx hs pl pu h;obtain ⟨a,rfl,hz,q⟩:=h;obtain ⟨t,rfl⟩:=rx;obtain ⟨l,rfl,rfl⟩:=vk pl;obtain ⟨u,rfl,rfl⟩:=vk pu;refine ⟨"str",_,F.slot_str_getitem.lookup,typeIs_str _ _ _,wpAny_getItem_str_slice (l:=l) (u:=u) (st:=none) hs rfl ?_⟩;exact post_val_or_str ⟨Nat.le_trans (Txt.slice_le a _ _) hz,fun t' k=>⟨.str _,H,I.tok _,⟨_,rfl⟩,q⟩⟩
theorem vg {k:Key} {v:Value} (h:me k v=true):bG (kV k) v:=by
 rcases cu h with ⟨i,t,rfl,rfl⟩ | ⟨x,t,rfl,rfl⟩
 ·exact ⟨t,rfl⟩
 ·exact ⟨t,rfl⟩
def CB:List V→Hp→VK→Prop:=fun xs H Q=>∃ (d:Addr) (kvs:List (Key×V)),xs=[.ref d]∧H d=some (.dK kvs)∧∀ p,H p=none→Q (.ref p) (upd H p (.dK kvs))
theorem jD {X:Cx}:cn X (.type "dict") CB:=by
 intro pins s σ H xs us Q I r h;obtain ⟨d,kvs,rfl,hd,q⟩:=h;obtain ⟨u,rfl,rx⟩:=j7 r
 cases rx;obtain ⟨z,lo,vs,rel,dof⟩:=oQ I.hok hd;have hl:vs.length≤sizeLine:=by rw [← rel.length]; exact z
 refine kt_call_dict (knd:=cB X.prog X.w) lo dof hl fun h' dof' sb=>?_;have big:=I.big;refine ⟨.ref s.heap.objs.size,_,I.laid (a:=s.heap.objs.size) (o:=.dK kvs) (t':=s.toks) (fun b u hb=>(sb.2 b (Nat.ne_of_lt (Heap.lt_size hb))).trans (Heap.get?_push_of_some _ hb)) (Nat.le_refl _) ⟨z,?_,vs,rel,dof'⟩,rfl,q _ (I.hok.fresh (Nat.le_refl _))⟩;rw [beq_eq_false_iff_ne];exact Nat.ne_of_gt big
theorem vy:∀ {xs:List V} {us:List Value},xs.length=us.length→(∀ (i:Nat) x u,xs[i]?=some x→us[i]?=some u→bG x u)→aV xs us
 | [],[],_,_=>.nil
 | [],_::_,h,_=>by simp at h
 | _::_,[],h,_=>by simp at h
 | x::xs,u::us,h,k=>.cons (k 0 x u rfl rfl) (vy (by simpa using h) fun i a b ha hb=>k (i+1) a b (by simpa using ha) (by simpa using hb))
def CG:List V→Hp→VK→Prop:=fun xs H Q=>∃ (d:Addr) (kvs:List (Key×V)),xs=[.ref d]∧H d=some (.dK kvs)∧∀ l,H l=none→Q (.ref l) (upd H l (.lst (kvs.map fun p=>kV p.1)))
theorem fT {X:Cx} (hc:X.calm=true):cn X (.type "list") CG:=by
 intro pins s σ H xs us Q I r h;obtain ⟨d,kvs,rfl,hd,q⟩:=h;obtain ⟨u,rfl,rx⟩:=j7 r
 cases rx;obtain ⟨z,lo,vs,rel,dof⟩:=oQ I.hok hd;obtain ⟨ep,at'⟩:=dof.dictAt;have hl:kvs.length=vs.length:=rel.length;refine kdl_call (kdl_dict (knd:=cB X.prog X.w) (kvs:=vs) (ep:=ep) lo) (I.ok.hd hc) at' (by rw [← hl]; exact z) fun h' tk acc c kp e it=>?_;have la:acc.toList.length=kvs.length:=by rw [Array.length_toList,it.1,hl]
 have rr:aV (kvs.map fun p=>kV p.1) acc.toList:=by
  refine vy (by rw [List.length_map,la]) fun i x v hx hv=>?_;obtain ⟨k,u,h1,h2⟩:=it.2 i v (by rw [← Array.getElem?_toList]; exact hv);obtain ⟨w',h3,_⟩:=ua rel h1;rw [List.getElem?_map,h3] at hx
  cases hx;exact vg h2
 refine ⟨.ref s.heap.objs.size,_,I.laid (a:=s.heap.objs.size) (o:=.lst (kvs.map fun p=>kV p.1)) (t':=tk) kp (Nat.le_refl _) ⟨by rw [List.length_map]; exact z,_,c,rr,?_⟩,rfl,q _ (I.hok.fresh (Nat.le_refl _))⟩;rw [e,Array.toArray_toList]
def Itk (d:Addr) (F:HO) (kvs:List (Key×V)):It :=
 ⟨fun i H=>H d=some F∧i<kvs.length,fun i H x H'=>H'=H∧∃ k v,kvs[i]?=some (k,v)∧x=kV k,fun i H=>H d=some F∧kvs.length≤i⟩
theorem wW {P:Program} {w:World} {K:W.Frag} {tg:Expr} (d it:Addr) (kvs:List (Key×V)) (vs:List (Key×Value)) (ep:Nat) :
  pF P w K tg (Itk d (FzO P w d kvs vs ep) kvs) [it] it (fun i h=>h.IsKeyIter it d i vs.length ep) where
 mem:=by simp
 obj:=fun i h st b hb=>by
  have e:b=it:=by simpa using hb
  subst e;obtain ⟨o,e,c,d⟩:=st;exact ⟨o,e,fun v z=>by rw [d] at z; cases z⟩
 keep:=fun i h h' st k=>st.at fun o e=>k it (by simp) o e
 item:=by
  intro X hP hw hK hc i pins s σ H E I hf st hg;subst hP hw hK;obtain ⟨hd,hi⟩:=hg;obtain ⟨⟨z,lo,rel,at'⟩,_,_⟩:=(show bM X.prog X.w H s.heap d (.ext (xk X.prog X.w d kvs vs ep)) from I.hok d _ hd)
  have hl:i<vs.length:=by rw [← rel.length]; exact hi
  obtain ⟨⟨k,u⟩,hu⟩:∃ q,vs[i]?=some q:=⟨_,List.getElem?_eq_getElem hl⟩
  obtain ⟨x,hx,ru⟩:=ua rel hu;obtain ⟨f0,f1,f2,f3,f4,f5⟩:=hf it (by simp);refine wpAny_pyNext_dict_item st at' hu fun key h' hk st' sb=>?_;have I1:Inv X pins σ H { s with heap:=h' }:=I.turned (t':=s.toks) (fun b o hb e=>(sb.2 b hb).trans e) f0 f1 f3 f4 f5;obtain ⟨o,e,c,dd⟩:=id st';exact ⟨key,rfl,rY (s:={ s with heap:=h' }) e c dd (by decide) ⟨kV k,H,I1,vg hk,⟨rfl,k,x,hx,rfl⟩,st',fun b hb=>(hf b hb).1⟩⟩
 done:=by
  intro X hP hw hK hc i pins s σ H E I hf st hg;subst hP hw hK;obtain ⟨hd,hi⟩:=hg;obtain ⟨⟨z,lo,rel,at'⟩,_,_⟩:=(show bM X.prog X.w H s.heap d (.ext (xk X.prog X.w d kvs vs ep)) from I.hok d _ hd)
  obtain ⟨f0,f1,f2,f3,f4,f5⟩:=hf it (by simp);exact wpAny_pyNext_dict_end (I.ok.hd hc) st at' (List.getElem?_eq_none (by rw [← rel.length]; exact hi)) fun h' eb=>⟨rfl,I.turned (t':=s.toks) (fun b o hb e=>eb b o hb e) f0 f1 f3 f4 f5⟩
 self:=fun _ _ _ _ _ st h=>wpAny_pyIter_keyiter st h
def Bn (P:Program) (w:World) (tl:TE):TI:=fun σ H R=>tl σ H fun x H1=>∃ d kvs,x=.ref d∧H1 d=some (.dK kvs)∧∀ F,vB P w d kvs F→R (Itk d F kvs) (upd H1 d F)
theorem yB {P:Program} {w:World} {tl:TE} {σ:St} {H:Hp} {R:It→Hp→Prop} (h:tl σ H fun x H1=>∃ d kvs,x=.ref d∧H1 d=some (.dK kvs)∧∀ F,vB P w d kvs F→R (Itk d F kvs) (upd H1 d F)):Bn P w tl σ H R:=h
theorem Av {X:Cx} {tg l:Expr} {tl:TE} (hl:PE X l tl):PI X tg l (Bn X.prog X.w tl):=by
 intro pins s σ H R I h;refine thn (hl pins s σ H _ I h) fun v s1 ⟨x,H1,I1,r1,q1⟩=>?_;obtain ⟨d,kvs,e,hd,q⟩:=q1;subst e
 cases r1;obtain ⟨z,lo,_,_,_⟩:=oQ I1.hok hd;obtain ⟨vs,ep,I2,at'⟩:=I1.freeze hd;refine wpAny_pyIter_dict lo at' ?_;refine ⟨s1.heap.objs.size,[s1.heap.objs.size],_,_,_,rfl,I2.kept (t':=s1.toks) fun b o e=>Heap.get?_push_of_some _ e,wW d _ kvs vs ep,⟨_,Heap.get?_push_size _ rfl,rfl,rfl⟩,fun b hb=>?_,q _ ⟨vs,ep,rfl⟩⟩;have e:b=s1.heap.objs.size:=by simpa using hb
 subst e;exact I2.fpOk (Nat.le_refl _) (I2.hok.fresh (Nat.le_refl _))
def DJ:R2:=fun x y H Q=>∃ i j:Str,x=.str i∧y=.str j∧Q (.bl (!decide (j.cps.toList<i.cps.toList))) H
theorem x5 {X:Cx}:OpR X (compareOp .LtE) DJ:=by
 intro pins s σ H x y v u Q I rx ry h;obtain ⟨i,j,rfl,rfl,q⟩:=h;obtain ⟨t,rfl⟩:=rx;obtain ⟨t',rfl⟩:=ry;exact PySem.P.le_str (bK I q rfl)
theorem CY {H:Hp} {Q:VK} {i j:Str} (h:Q (.bl (!decide (j.cps.toList<i.cps.toList))) H):DJ (.str i) (.str j) H Q:=⟨i,j,rfl,rfl,h⟩
def Bu:List V→Hp→VK→Prop:=fun xs H Q=>∃ z:Str,xs=[.str z]∧z.length≤sizeLine∧Q (.int z.length) H
theorem pI {X:Cx}:cn X (.builtin "len") Bu:=pK
theorem qv {H:Hp} {Q:VK} {z:Str} (h:z.length≤sizeLine) (q:Q (.int z.length) H):Bu [.str z] H Q:=⟨z,rfl,h,q⟩
end L2
namespace L2
open PySem PySem.Spec PyProof.Rows
open Builtin Builtin.Str
theorem xx (a b:Str):(a++b).cps.toList=a.cps.toList++b.cps.toList:=Array.toList_append
theorem mI {l:List Nat} {a:Nat}:∀ {m:Nat},a+m≤l.length→((List.range m).map fun k=>a+k).filterMap (l[·]?)=(l.drop a).take m
 | 0,_=>rfl
 | m+1,h=>by
  rw [List.range_succ,List.map_append,List.filterMap_append,mI (m:=m) (by omega),List.take_add_one,List.getElem?_drop,List.map_singleton]
  congr 1
theorem yo {a b:Nat} (h:a≤b):sliceRange (a:Int) (b:Int) 1=(List.range (b - a)).map fun k=>a+k:=by
 unfold sliceRange;dsimp only;rw [if_pos (by decide)];by_cases c:a<b
 ·rw [if_pos (by omega),show (((b:Int) - a+1 - 1) / 1).toNat=b - a by omega];exact List.map_congr_left fun k _=>by omega
 ·rw [if_neg (by omega),show b - a=0 by omega]; rfl
theorem zj {x:Str} {lo hi:Option Int} {a b:Nat} (e:strSliceIndices lo hi 1 x.length=sliceRange (a:Int) (b:Int) 1) (h1:a≤b) (h2:b≤x.cps.size):(Txt.slice x lo hi).cps.toList=(x.cps.toList.drop a).take (b - a):=by
 unfold Txt.slice;rw [e,yo h1];have hl:x.cps.toList.length=x.cps.size:=Array.length_toList
 split
 ·next z =>
  rw [Bool.and_eq_true,beq_iff_eq,beq_iff_eq,List.length_map,List.length_range] at z;have z:=z.2;have:x.length=x.cps.size:=rfl
  rw [show a=0 by omega,List.drop_zero,List.take_of_length_le (by omega)]
 ·rw [List.toList_toArray,← mI (l:=x.cps.toList) (by omega)]
  congr 1
  funext k
  exact Array.getElem?_toList.symm
theorem zk {x:Str} {p:Nat} (h:p≤x.cps.size):(Txt.slice x none (some (p:Int))).cps.toList=x.cps.toList.take p:=by
 rw [zj (a:=0) (b:=p) ?_ (Nat.zero_le _) h,List.drop_zero]; rfl;have:x.length=x.cps.size:=rfl
 unfold strSliceIndices;dsimp only;simp only [show (1:Int) > 0 by decide,if_true];rw [if_neg (show ¬ (p:Int)<0 by omega)]
 congr 1
 omega
theorem zi {x:Str} {p:Nat} (h:p≤x.cps.size):(Txt.slice x (some (p:Int)) none).cps.toList=x.cps.toList.drop p:=by
 have hl:x.cps.toList.length=x.cps.size:=Array.length_toList;rw [zj (a:=p) (b:=x.cps.size) ?_ h (Nat.le_refl _),List.take_of_length_le (by rw [List.length_drop]; omega)];have:x.length=x.cps.size:=rfl
 unfold strSliceIndices;dsimp only;simp only [show (1:Int) > 0 by decide,if_true];rw [if_neg (show ¬ (p:Int)<0 by omega),this]
 congr 1
 omega
theorem xT:∀ cs:List Nat,(Txt.join "" (cs.map sgn)).cps.toList=cs:=by
 intro cs
 show (glued _ _).cps.toList=_
 rw [PySem.StrLaws.glued_eq_join]
 induction cs with
 | nil=>rfl
 | cons c r ih =>
  cases r with
  | nil => rfl
  | cons d r =>
   show ((sgn c++"")++Str.join "" ((d::r).map sgn)).cps.toList=_
   rw [xx,xx,ih]; rfl
theorem tZ {cs:List Nat} (h:cs.length≤1000):JoinOk "" (cs.map sgn)=true:=by
 unfold JoinOk;rw [List.foldl_toArray];have:∀ (cs:List Nat) (a:Nat),(cs.map sgn).foldl (fun x1 x2=>x1+x2.length+("":Str).length) a=a+cs.length:=by
  intro cs
  induction cs with
  | nil => intro a; rfl
  | cons c r ih =>
   intro a;rw [List.map_cons,List.foldl_cons,ih]
   show a+1+0+r.length=a+(r.length+1)
   omega
 rw [this,Nat.zero_add];unfold tooLong;have:(1000:Nat)≤sizeLine:=by decide
 simp only [Bool.not_eq_true',decide_eq_false_iff_not];omega
def yk:R2:=fun x y H Q=>∃ (ds:List PyData) (d:PyData),Rep H (.tuple ds) y∧Rep H d x∧PyData.canLayAll0 ds=true∧d.canLay0=true∧d.depth≤60∧Q (.bl (!ds.any fun y=>PyData.eqv y d)) H
theorem lG {X:Cx} (hu:X.A.units+64<cLine):OpR X (compareOp .NotIn) yk:=by
 intro pins s σ H x y v u Q I rx ry h;obtain ⟨ds,d,h1,h2,s1,s2,s3,q⟩:=h;obtain ⟨as,r1⟩:=h1.reads I ry;obtain ⟨bs,r2⟩:=h2.reads I rx;exact SeqAt.notIn_tuple_reads r1 r2 s1 s2 (by have:=Nat.min_le_right (PyData.depthAll ds) d.depth; omega) ⟨.bl _,H,I,rfl,q⟩
theorem mL {H:Hp} {Q:VK} {x a b:Str} {p:Addr} (hp:H p=some (.tup [.str a,.str b])) (oa:PyData.strOk a=true) (ob:PyData.strOk b=true) (ox:PyData.strOk x=true) (q:Q (.bl (!(decide (a=x)||decide (b=x)))) H):yk (.str x) (.ref p) H Q:=by
  refine ⟨[.str a,.str b],.str x,?_,rfl,by simp [PyData.canLayAll0,PyData.canLay0,oa,ob],ox,by unfold PyData.depth; omega,?_⟩
  · simp only [Rep,RepL]
    exact ⟨p,_,rfl,hp,_,_,rfl,rfl,_,_,rfl,rfl,rfl⟩
  · have e:([PyData.str a,.str b].any fun y=>PyData.eqv y (.str x))=(decide (a=x)||decide (b=x)):=by
      show ((a==x)||((b==x)||false))=_
      rw [Bool.or_false]; rfl
    rw [e]; exact q
theorem yN {H:Hp} {Q:VK} {x:Int} {p:Addr} (hp:H p=some (.tup [.int 0,.int 1])) (q:Q (.bl (!decide (x=0∨x=1))) H):yk (.int x) (.ref p) H Q:=by
  refine ⟨[.int 0,.int 1],.int x,?_,rfl,rfl,rfl,by unfold PyData.depth; omega,?_⟩
  · simp only [Rep,RepL]
    exact ⟨p,_,rfl,hp,_,_,rfl,rfl,_,_,rfl,rfl,rfl⟩
  · have e:([PyData.int 0,.int 1].any fun y=>PyData.eqv y (.int x))=decide (x=0∨x=1):=by
      show (((0:Int)==x)||(((1:Int)==x)||false))=_
      by_cases h0:x=0
      · subst h0; rfl
      · by_cases h1:x=1
        · subst h1; rfl
        · rw [decide_eq_false (fun z=>z.elim h0 h1)]
          have a:((0:Int)==x)=false:=beq_eq_false_iff_ne.mpr fun z=>h0 z.symm;have b:((1:Int)==x)=false:=beq_eq_false_iff_ne.mpr fun z=>h1 z.symm;rw [a,b]; rfl
    rw [e]; exact q
def DK:List V→Hp→VK→Prop:=fun xs H Q=>∃ (d:Addr) (kvs:List (Key×V)),xs=[.ref d]∧H d=some (.dK kvs)∧Q (.int (kvs.length:Nat)) H
theorem uR {X:Cx}:cn X (.builtin "len") DK:=by
 intro pins s σ H xs us Q I r h;obtain ⟨d,kvs,rfl,hd,q⟩:=h
 cases r with
 | cons r rs =>
  cases rs
  cases r;exact Dt I (.inl hd) fun t s' I'=>⟨.int kvs.length,H,I',⟨t,rfl⟩,q⟩
theorem Ah {x:Str} {c:Nat}:(!(Builtin.Str.occurrences x (sgn c) 0 x.length 1).isEmpty)=decide (c∈x.cps.toList):=StrLaws.found_one x c
def BP (d:Addr) (xs:List V) (h:Heap):Prop:=xs.length≤sizeLine∧∃ (its:List Value) (n:Nat),aV xs its∧h.get? d=some { cls:=.type "list",data:=.seq its.toArray n }
def zv (ts:TS):TS:=fun D σ H=>∃ d xs,H d=some (.lst xs)∧∀ φ,ts { D with nx:=fun σ1 H1=>H1 d=some (.ext φ)∧D.nx σ1 (upd H1 d (.lst xs)) } σ (upd H d (.ext φ))
theorem fX {X:Cx} {st:Stmt} {ts:TS} (h:PS X st ts):PS X st (zv ts):=by
 intro pins s σ H D I q;obtain ⟨d,xs,hd,q⟩:=q;have z:=(show bM X.prog X.w H s.heap d (.lst xs) from I.hok d _ hd)
 obtain ⟨lo,its,n,vs,ho⟩:=id z;have I1:Inv X pins σ (upd H d (.ext (BP d xs))) s:=I.write (e:=d) (t':=s.toks) (h':=s.heap) (by rw [hd]; trivial) (.inl rfl) (fun _ _ _ q=>q) ⟨_,ho⟩ ⟨z,⟨_,ho⟩,fun h1 h2 ⟨a1,a2,a3,a4,a5⟩ k=>⟨a1,a2,a3,a4,k _ a5⟩⟩;refine wpAny_mono (h pins s σ _ _ I1 (q (BP d xs))) (fun f s1 q1=>?_) fun _ _ z=>z
 cases f with
 | next =>
  obtain ⟨σ',H',I',hd',q2⟩:=q1;obtain ⟨z,⟨o,ho⟩,_⟩:=(show bM X.prog X.w H' s1.heap d (.ext (BP d xs)) from I'.hok d _ hd')
  exact ⟨σ',_,I'.write (o:=.lst xs) (e:=d) (t':=s1.toks) (h':=s1.heap) (by rw [hd']; trivial) (.inl rfl) (fun _ _ _ q=>q) ⟨o,ho⟩ z,q2⟩
 | brk=>exact q1
 | cont=>exact q1
 | ret u=>exact q1
theorem eM {ts:TS} {D:cZ} {σ:St} {H:Hp} (d:Addr) (xs:List V) (e:H d=some (.lst xs)) (h:∀ φ,ts { D with nx:=fun σ1 H1=>H1 d=some (.ext φ)∧D.nx σ1 (upd H1 d (.lst xs)) } σ (upd H d (.ext φ))):zv ts D σ H:=⟨d,xs,e,h⟩
def CC (neg:Bool):R2:=fun x y H Q=>∃ (a b:Addr) (xs:List V),x=.ref a∧y=.ref b∧H a=some (.lst xs)∧H b=some (.lst [])∧Q (.bl (if neg then !xs.isEmpty else xs.isEmpty)) H
theorem zK {us:List Value} (h:aV [] us):us=[]:=by cases h; rfl
theorem x4 {X:Cx} (hu:X.A.units+64<cLine):OpR X (compareOp .Eq) (CC false):=by
 intro pins s σ H x y v u Q I rx ry h;obtain ⟨a,b,xs,rfl,rfl,ha,hb,q⟩:=h
 cases (show v=Value.ref a from rx)
 cases (show u=Value.ref b from ry)
 obtain ⟨z1,us,n1,r1,o1⟩:=(show bM X.prog X.w H s.heap a (.lst xs) from I.hok a _ ha)
 obtain ⟨z2,ws,n2,r2,o2⟩:=(show bM X.prog X.w H s.heap b (.lst []) from I.hok b _ hb)
 cases zK r2
 have i1:s.heap.IsList a us.toArray:=⟨_,o1,rfl,n1,rfl⟩
 have i2:s.heap.IsList b ([]:List Value).toArray:=⟨_,o2,rfl,n2,rfl⟩
 cases r1 with
 | nil=>exact SeqAt.eq_listAt (e:=fun _=>true) i1 i2 rfl (by omega) (fun j h1 _=>absurd h1 (by simp)) ⟨.bl true,H,I,rfl,q⟩
 | cons r rs=>exact SeqAt.eq_list_lengthsAt i1 i2 (by simp) (by omega) ⟨.bl false,H,I,rfl,q⟩
def Eu:R2:=fun x y H Q=>∃ (p:Addr) (as:List Addr),x=.non∧y=.ref p∧H p=some (.lst (as.map V.ref))∧(∀ a∈as,∃ xs,H a=some (.tup xs))∧Q (.bl false) H
theorem zM {as:List Addr} {us:List Value} (h:aV (as.map V.ref) us):us=as.map Value.ref:=by
 induction as generalizing us with
 | nil=>cases h; rfl
 | cons a r ih=>cases h with | cons h1 h2=>rw [ih h2]; cases (show _=Value.ref a from h1); rfl
theorem Cm {X:Cx} (hu:X.A.units+64<cLine):OpR X (compareOp .In) Eu:=by
 intro pins s σ H x y v u Q I rx ry h;obtain ⟨p,as,rfl,rfl,hp,ht,q⟩:=h
 cases (show v=Value.none from rx)
 cases (show u=Value.ref p from ry)
 obtain ⟨z1,us,n1,r1,o1⟩:=(show bM X.prog X.w H s.heap p (.lst (as.map V.ref)) from I.hok p _ hp)
 have e:=zM r1;subst e;refine SeqAt.in_listAt (fun _=>false) ⟨_,o1,rfl,n1,rfl⟩ (fun y hy=>?_) (by rw [show ((as.map Value.ref).toArray.any fun _=>false)=false by simp]; exact ⟨.bl false,H,I,rfl,q⟩);obtain ⟨a,ha,rfl⟩:=List.mem_map.mp (by simpa using hy);obtain ⟨xs,ea⟩:=ht a ha;obtain ⟨its,rv,pl,_⟩:=I.tuple (SqT.of ea);exact SeqAt.EqAt.tuple_none pl (by have:X.A.in1.units≤X.A.units+1:=Nat.le_refl _; omega)
end L2
namespace My
open PySem PySem.Spec PyProof.Rows L2
def top (i:Nat):Stmt:=PySem.Challenge.pw_sashiko_k53_chests_apart.main.body.getD i (.Pass ⟨0,0,0,0⟩)
abbrev s_a6:Stmt:=(bE (top 11) 0)
abbrev s_a4:Stmt:=(top 14)
abbrev s_aG:Stmt:=(top 15)
abbrev s_bn:Stmt:=(top 16)
abbrev s_a8:Stmt:=(top 17)
abbrev s_bc:Stmt:=(top 18)
abbrev s_a5:Stmt:=(top 19)
abbrev s_aX:Stmt:=(bE (top 21) 0)
abbrev s_aw:Stmt:=(bE (top 22) 0)
abbrev s_ao:Stmt:=(bE (top 22) 1)
abbrev s_ay:Stmt:=(bE (top 21) 1)
abbrev s_aD:Stmt:=(bE (top 21) 2)
abbrev s_au:Stmt:=(bE (top 21) 3)
abbrev s_ar:Stmt:=(bE (top 21) 4)
abbrev s_al:Stmt:=(bE (top 21) 5)
abbrev s_aI:Stmt:=(bE (top 21) 6)
abbrev s_aq:Stmt:=(bE (top 22) 2)
abbrev s_a9:Stmt:=(top 24)
abbrev s_ap:Stmt:=(top 25)
abbrev s_aS:Stmt:=(top 26)
abbrev s_bi:Stmt:=(top 27)
abbrev yY:Stmt:=(top 28)
abbrev yW:Stmt:=(top 30)
abbrev s_aU:Stmt:=(top 32)
abbrev s_bj:Stmt:=(top 33)
abbrev s_aA:Stmt:=(top 34)
abbrev s_az:Stmt:=(top 35)
abbrev s_bl:Stmt:=(top 38)
abbrev s_aQ:Stmt:=(bE (top 39) 0)
abbrev s_aB:Stmt:=(bE (top 39) 1)
abbrev s_am:Stmt:=(bE (top 39) 2)
abbrev s_an:Stmt:=(bE (top 39) 3)
abbrev s_av:Stmt:=(bE (top 39) 4)
abbrev s_aj:Stmt:=(bE (top 39) 5)
abbrev s_a0:Stmt:=(bE (top 39) 6)
abbrev s_aJ:Stmt:=(bE (top 39) 7)
abbrev s_aO:Stmt:=(bE (top 39) 8)
abbrev s_a1:Stmt:=(bE (top 39) 9)
abbrev s_aZ:Stmt:=(bE (top 39) 10)
abbrev s_a2:Stmt:=(bE (top 39) 11)
abbrev s_aE:Stmt:=(bE (top 39) 12)
abbrev s_aP:Stmt:=(bE (top 39) 13)
abbrev s_aN:Stmt:=(bE (top 39) 14)
abbrev s_at:Stmt:=(bE (top 39) 15)
abbrev s_as:Stmt:=(bE (top 39) 16)
abbrev s_aK:Stmt:=(bE (top 39) 18)
abbrev s_bb:Stmt:=(top 58)
abbrev s_a7:Stmt:=(top 59)
abbrev s_bo:Stmt:=(top 44)
abbrev s_bq:Stmt:=(top 41)
abbrev yV:Stmt:=(top 42)
abbrev s_ba:Stmt:=(top 55)
abbrev s_bm:Stmt:=(top 56)
abbrev s_aV:Stmt:=(top 57)
abbrev s_be:Stmt:=(top 46)
abbrev s_bd:Stmt:=(top 47)
abbrev s_aM:Stmt:=(top 48)
abbrev s_aC:Stmt:=(top 45)
abbrev s_aT:Stmt:=(top 49)
abbrev s_aF:Stmt:=(top 50)
abbrev s_aY:Stmt:=(top 51)
abbrev s_bg:Stmt:=(top 52)
abbrev s_aW:Stmt:=(top 53)
abbrev s_aL:Stmt:=(top 54)
abbrev s_ax:Stmt:=(top 43)
abbrev s_aR:Stmt:=(top 60)
abbrev s_aH:Stmt:=(top 61)
abbrev yX:Stmt:=(top 62)
theorem sc_a6:aE ["self","at"] ["self","at"] (ao s_a6):=.by
theorem sc_a4:aE ["value"] ["value"] (ao s_a4):=.by
theorem sc_aG:aE ["value","bound"] ["value","bound"] (ao s_aG):=.by
theorem sc_bn:aE ["value"] ["value"] (ao s_bn):=.by
theorem sc_a8:aE ["values"] ["values"] (ao s_a8):=.by
theorem sc_bc:aE ["count"] ["count"] (ao s_bc):=.by
theorem sc_a5:aE ["board","x","y"] ["board","x","y"] (ao s_a5):=.by
theorem sc_aX:aE ["self","wide","tall","cols","rows"] ["self","wide","tall","cols","rows"] (ao s_aX):=.by
theorem sc_aw:aE ["self","shade","cols","rows"] ["self","shade","cols","rows"] (ao s_aw):=.by
theorem sc_ao:aE ["self"] ["self"] (ao s_ao):=.by
theorem sc_ay:aE ["self"] ["self"] (ao s_ay):=.by
theorem sc_aD:aE ["self"] ["self"] (ao s_aD):=.by
theorem sc_au:aE ["self"] ["self"] (ao s_au):=.by
theorem sc_ar:aE ["self"] ["self"] (ao s_ar):=.by
theorem sc_al:aE ["self","way"] ["self","way"] (ao s_al):=.by
theorem sc_aI:aE ["self","way","k","bits"] ["self","way","k"] (ao s_aI):=.by
theorem sc_aq:aE ["self","x","y","stitches"] ["self","x","y"] (ao s_aq):=.by
theorem sc_a9:aE ["bits","steps"] ["bits","steps"] (ao s_a9):=.by
theorem sc_ap:aE ["cloth"] ["cloth"] (ao s_ap):=.by
theorem sc_aS:aE ["cloth","way","bits"] ["cloth","way","bits"] (ao s_aS):=.by
theorem sc_bi:aE ["cloth","way","k","other","bits"] ["cloth","way","k"] (ao s_bi):=.by
theorem zd:aE ["cloth","way","k","bit","bits"] ["cloth","way","k","bit"] (ao yY):=.by
theorem y9:aE ["cloth","way","k","bits"] ["cloth","way","k"] (ao yW):=.by
theorem sc_aU:aE ["cloth","k","behind","left","right"] ["cloth","k"] (ao s_aU):=.by
theorem sc_bj:aE ["cloth","way","k","parts"] ["cloth","way","k"] (ao s_bj):=.by
theorem sc_aA:aE ["one","other","coming","k","bit","between"] ["one","other"] (ao s_aA):=.by
theorem sc_az:aE ["one","other","way"] ["one","other","way"] (ao s_az):=.by
theorem sc_bl:aE ["name"] ["name"] (ao s_bl):=.by
theorem sc_aQ:aE ["self"] ["self"] (ao s_aQ):=.by
theorem sc_aB:aE ["self"] ["self"] (ao s_aB):=.by
theorem sc_am:aE ["self","name"] ["self","name"] (ao s_am):=.by
theorem sc_an:aE ["self","name"] ["self","name"] (ao s_an):=.by
theorem sc_av:aE ["self","cloths"] ["self","cloths"] (ao s_av):=.by
theorem sc_aj:aE ["self","name","cloth","cloths"] ["self","name","cloth"] (ao s_aj):=.by
theorem sc_a0:aE ["self","name","cloth"] ["self","name","cloth"] (ao s_a0):=.by
theorem sc_aJ:aE ["self","name","cloths"] ["self","name"] (ao s_aJ):=.by
theorem sc_aO:aE ["self","name","way","k"] ["self","name","way","k"] (ao s_aO):=.by
theorem sc_a1:aE ["self","name","way","k","bit"] ["self","name","way","k","bit"] (ao s_a1):=.by
theorem sc_aZ:aE ["self","name","way","k"] ["self","name","way","k"] (ao s_aZ):=.by
theorem sc_a2:aE ["self","name","one","other","way"] ["self","name","one","other","way"] (ao s_a2):=.by
theorem sc_aE:aE ["self","name","way","k","other","whole","parts","cloths"] ["self","name","way","k","other"] (ao s_aE):=.by
theorem sc_aP:aE ["self"] ["self"] (ao s_aP):=.by
theorem sc_aN:aE ["self"] ["self"] (ao s_aN):=.by
theorem sc_at:aE ["self"] ["self"] (ao s_at):=.by
theorem sc_as:aE ["self"] ["self"] (ao s_as):=.by
theorem sc_aK:aE ["self","other"] ["self"] (ao s_aK):=.by
theorem sc_bb:aE ["_law_script","_law_many","_law_rows","_law_mix","_law_cell","_law_rest"] ["_law_script","_law_many"] (ao s_bb):=.by
theorem sc_a7:aE ["_law_some","_law_many","_law_letters","_law_found","_law_at","_law_raw","_law_size","_law_first","_law_by","_law_word","_law_place","_law_step","_law_sign"] ["_law_some","_law_many"] (ao s_a7):=.by
theorem sc_bo:aE ["_law_number","_law_many","_law_row","_law_k"] ["_law_number","_law_many"] (ao s_bo):=.by
theorem sc_bq:aE ["_law_e","_law_found"] ["_law_e"] (ao s_bq):=.by
theorem eD:aE ["_law_chest","_law_deed","_law_told_here","_law_plan","_law_e"] ["_law_chest","_law_deed"] (ao yV):=.by
theorem sc_ba:aE ["_law_told_here","_law_due"] ["_law_told_here","_law_due"] (ao s_ba):=.by
theorem sc_bm:aE ["_law_cloth"] ["_law_cloth"] (ao s_bm):=.by
theorem sc_aV:aE ["_law_chest","_law_book","_law_name"] ["_law_chest","_law_book"] (ao s_aV):=.by
theorem sc_be:aE ["_law_plan","_law_way","_law_bits_here"] ["_law_plan","_law_way","_law_bits_here"] (ao s_be):=.by
theorem sc_bd:aE ["_law_one","_law_other","_law_way","_law_side","_law_wide","_law_between"] ["_law_one","_law_other","_law_way"] (ao s_bd):=.by
theorem sc_aM:aE ["_law_book","_law_pool","_law_some","_law_free","_law_name","_law_other","_law_way","_law_word"] ["_law_book","_law_pool","_law_some"] (ao s_aM):=.by
theorem sc_aC:aE ["_law_some","_law_book","_law_pool","_law_kinds","_law_kind_here","_law_name","_law_way","_law_wide","_law_tall","_law_cols","_law_many","_law_menu","_law_k"] ["_law_some","_law_book","_law_pool"] (ao s_aC):=.by
theorem sc_aT:aE ["_law_some","_law_book","_law_pool","_law_deed","_law_better"] ["_law_some","_law_book","_law_pool"] (ao s_aT):=.by
theorem sc_aF:aE ["_law_book","_law_name","_law_letters"] ["_law_book","_law_name"] (ao s_aF):=.by
theorem sc_aY:aE ["_law_plan","_law_way","_law_k","_law_more"] ["_law_plan","_law_way","_law_k","_law_more"] (ao s_aY):=.by
theorem sc_bg:aE ["_law_plan","_law_way","_law_k","_law_side","_law_first","_law_across","_law_one"] ["_law_plan","_law_way","_law_k"] (ao s_bg):=.by
theorem sc_aW:aE ["_law_fresh","_law_deed","_law_plan","_law_way","_law_k","_law_word","_law_bits_here","_law_one","_law_other"] ["_law_fresh","_law_deed"] (ao s_aW):=.by
theorem sc_aL:aE ["_law_book","_law_deed","_law_fresh","_law_word","_law_made"] ["_law_book","_law_deed"] (ao s_aL):=.by
theorem sc_ax:aE ["_law_chest","_law_word","_law_past","_law_book","_law_ahead","_law_giving","_law_told_here"] ["_law_chest","_law_word","_law_past","_law_book","_law_ahead"] (ao s_ax):=.by
theorem sc_aR:aE ["_law_chest","_law_state","_law_pool","_law_here","_law_word","_law_deed","_law_fresh"] ["_law_chest","_law_state","_law_pool","_law_here"] (ao s_aR):=.by
theorem sc_aH:aE ["_law_chest","_law_state"] ["_law_chest","_law_state"] (ao s_aH):=.by
theorem cY:aE ["_law_script","_law_some","_law_pool","_law_chest","_law_state","_law_turn","_law_here","_law_both","_law_states","_law_kept","_law_bits_here","_law_seldom","_law_at"] ["_law_script"] (ao yX):=.by
abbrev QNs (K:W.Frag) (x:Str) (C:Addr):Prop:=W.nsIn K mainGlobals x=some (some (.ref C))
abbrev QNn (K:W.Frag) (x:Str):Prop:=W.nsIn K mainGlobals x=some none
abbrev QFi (K:W.Frag) (C:Addr) (x:Str) (f:Addr):Prop:=W.findIn K (.ref C) x=some (some (.ref f))
abbrev QFn (K:W.Frag) (C:Addr) (x:Str):Prop:=W.findIn K (.ref C) x=some none
abbrev QIf (K:W.Frag) (f:Addr):Prop:=W.isFn K (.ref f)=true
abbrev QKt (K:W.Frag) (C D:Addr) (b:Bool):Prop:=W.kitOne K (.ref C) (.ref D)=some b
abbrev QXc (K:W.Frag) (C:Addr):Prop:=W.excIn K C [.type "ValueError",.type "Exception",.type "BaseException",.type "object"] "ValueError.__new__"=true
abbrev QXg (K:W.Frag) (C:Addr):Prop:=W.findIn K (.ref C) "__getattribute__"=some (some (.builtin "BaseException.__getattribute__"))∧W.findIn K (.ref C) "__getattr__"=some none∧W.findIn K (.ref C) "__class__"=some (some (.builtin "object.__class__"))∧W.mroIn K C (.type "object")=some true∧W.mroIn K C (.type "BaseException")=some true
set_option genInjectivity false in
set_option genSizeOf false in
structure Ad where
 (a_bs a_ae a_ai f_a6 f_a4 f_aG f_bn f_a8 f_bc f_a5 f_aX f_aw:Addr)
 (f_ao f_ay f_aD f_au f_ar f_al f_aI f_aq f_a9 f_ap f_aS f_bi:Addr)
 (f_put f_cut f_aU f_bj f_aA f_az f_bl f_aQ f_aB f_am f_an f_av:Addr)
 (f_aj f_a0 f_aJ f_aO f_a1 f_aZ f_a2 f_aE f_aP f_aN f_at f_as:Addr)
 (f_aK f_bb f_a7 f_bo f_bq f_Ldo f_ba f_bm f_aV f_be f_bd f_aM:Addr)
 (f_aC f_aT f_aF f_aY f_bg f_aW f_aL f_ax f_aR f_aH f_law a_a3:Addr)
 (a_ag a_ac a_ah a_bp a_af a_ad a_ak a_ab a_aa:Addr)
 (d_a6 d_a4 d_aG d_bn d_a8 d_bc d_a5 d_aX d_aw d_ao d_ay d_aD:FuncData)
 (d_au d_ar d_al d_aI d_aq d_a9 d_ap d_aS d_bi d_put d_cut d_aU:FuncData)
 (d_bj d_aA d_az d_bl d_aQ d_aB d_am d_an d_av d_aj d_a0 d_aJ:FuncData)
 (d_aO d_a1 d_aZ d_a2 d_aE d_aP d_aN d_at d_as d_aK d_bb d_a7:FuncData)
 (d_bo d_bq d_Ldo d_ba d_bm d_aV d_be d_bd d_aM d_aC d_aT d_aF:FuncData)
 (d_aY d_bg d_aW d_aL d_ax d_aR d_aH d_law:FuncData)
 (tk_LONGEST_SIDE tk_LONGEST_NAME:Tok)
structure Txt (K:W.Frag) (mg:Str→Option Value) (t:Ad):Prop where
 mg_bs:mg "Board"=some (.ref t.a_bs)
 mg_ae:mg "Chest"=some (.ref t.a_ae)
 cl_ae:Cls K t.a_ae
 mk_ae:Mk K t.a_ae t.f_aQ
 naC_cloths:cR K t.a_ae "cloths"
 naC_ahead_of_deeds:cR K t.a_ae "ahead_of_deeds"
 naC_behind_undone:cR K t.a_ae "behind_undone"
 mg_ai:mg "Cloth"=some (.ref t.a_ai)
 cl_ai:Cls K t.a_ai
 mk_ai:Mk K t.a_ai t.f_aw
 na_columns_count:cR K t.a_ai "columns_count"
 na_rows_count:cR K t.a_ai "rows_count"
 na_col_bits:cR K t.a_ai "col_bits"
 na_row_bits:cR K t.a_ai "row_bits"
 na_first_colour:cR K t.a_ai "first_colour"
 F_a6:Fun K "__init__" "Unfit.__init__" s_a6 t.f_a6 t.d_a6
 b_a6:aK K t.d_a6 ["self","at"] []
 mx_ag:MkX K t.a_ag t.f_a6
 F_a4:Fun K "is_number" "is_number" s_a4 t.f_a4 t.d_a4
 b_a4:aK K t.d_a4 ["value"] []
 mg_a4:mg "is_number"=some (.ref t.f_a4)
 F_aG:Fun K "is_below" "is_below" s_aG t.f_aG t.d_aG
 b_aG:aK K t.d_aG ["value","bound"] []
 mg_aG:mg "is_below"=some (.ref t.f_aG)
 F_bn:Fun K "is_bit" "is_bit" s_bn t.f_bn t.d_bn
 b_bn:aK K t.d_bn ["value"] []
 mg_bn:mg "is_bit"=some (.ref t.f_bn)
 F_a8:Fun K "all_bits" "all_bits" s_a8 t.f_a8 t.d_a8
 b_a8:aK K t.d_a8 ["values"] []
 mg_a8:mg "all_bits"=some (.ref t.f_a8)
 F_bc:Fun K "is_side" "is_side" s_bc t.f_bc t.d_bc
 b_bc:aK K t.d_bc ["count"] []
 mg_bc:mg "is_side"=some (.ref t.f_bc)
 F_a5:Fun K "need_cell" "need_cell" s_a5 t.f_a5 t.d_a5
 b_a5:aK K t.d_a5 ["board","x","y"] []
 mg_a5:mg "need_cell"=some (.ref t.f_a5)
 F_aX:Fun K "__init__" "Board.__init__" s_aX t.f_aX t.d_aX
 b_aX:aK K t.d_aX ["self","wide","tall","cols","rows"] []
 cf_aX:Bh K t.a_bs "__init__" t.f_aX
 F_aw:Fun K "__init__" "Cloth.__init__" s_aw t.f_aw t.d_aw
 b_aw:aK K t.d_aw ["self","shade","cols","rows"] []
 F_ao:Fun K "shade" "Cloth.shade" s_ao t.f_ao t.d_ao
 b_ao:aK K t.d_ao ["self"] []
 m_ao:dG K t.a_ai "shade" t.f_ao
 F_ay:Fun K "wide" "Board.wide" s_ay t.f_ay t.d_ay
 b_ay:aK K t.d_ay ["self"] []
 m_ay:dG K t.a_ai "wide" t.f_ay
 F_aD:Fun K "tall" "Board.tall" s_aD t.f_aD t.d_aD
 b_aD:aK K t.d_aD ["self"] []
 m_aD:dG K t.a_ai "tall" t.f_aD
 F_au:Fun K "cols" "Board.cols" s_au t.f_au t.d_au
 b_au:aK K t.d_au ["self"] []
 m_au:dG K t.a_ai "cols" t.f_au
 F_ar:Fun K "rows" "Board.rows" s_ar t.f_ar t.d_ar
 b_ar:aK K t.d_ar ["self"] []
 m_ar:dG K t.a_ai "rows" t.f_ar
 F_al:Fun K "bits_along" "Board.bits_along" s_al t.f_al t.d_al
 b_al:aK K t.d_al ["self","way"] []
 m_al:dG K t.a_ai "bits_along" t.f_al
 F_aI:Fun K "bit" "Board.bit" s_aI t.f_aI t.d_aI
 b_aI:aK K t.d_aI ["self","way","k"] []
 m_aI:dG K t.a_ai "bit" t.f_aI
 F_aq:Fun K "colour" "Cloth.colour" s_aq t.f_aq t.d_aq
 b_aq:aK K t.d_aq ["self","x","y"] []
 m_aq:dG K t.a_ai "colour" t.f_aq
 F_a9:Fun K "shifted" "shifted" s_a9 t.f_a9 t.d_a9
 b_a9:aK K t.d_a9 ["bits","steps"] []
 mg_a9:mg "shifted"=some (.ref t.f_a9)
 F_ap:Fun K "transposed" "transposed" s_ap t.f_ap t.d_ap
 b_ap:aK K t.d_ap ["cloth"] []
 mg_ap:mg "transposed"=some (.ref t.f_ap)
 F_aS:Fun K "with_bits" "with_bits" s_aS t.f_aS t.d_aS
 b_aS:aK K t.d_aS ["cloth","way","bits"] []
 mg_aS:mg "with_bits"=some (.ref t.f_aS)
 F_bi:Fun K "turned" "turned" s_bi t.f_bi t.d_bi
 b_bi:aK K t.d_bi ["cloth","way","k"] []
 mg_bi:mg "turned"=some (.ref t.f_bi)
 F_put:Fun K "put" "put" yY t.f_put t.d_put
 b_put:aK K t.d_put ["cloth","way","k","bit"] []
 mg_putsew:mg "put_sew"=some (.ref t.f_put)
 mg_put:mg "put"=some (.ref t.f_put)
 F_cut:Fun K "cut" "cut" yW t.f_cut t.d_cut
 b_cut:aK K t.d_cut ["cloth","way","k"] []
 mg_cutsew:mg "cut_sew"=some (.ref t.f_cut)
 mg_cut:mg "cut"=some (.ref t.f_cut)
 F_aU:Fun K "parted_up" "parted_up" s_aU t.f_aU t.d_aU
 b_aU:aK K t.d_aU ["cloth","k"] []
 mg_aU:mg "parted_up"=some (.ref t.f_aU)
 F_bj:Fun K "parted" "parted" s_bj t.f_bj t.d_bj
 b_bj:aK K t.d_bj ["cloth","way","k"] []
 mg_bj:mg "parted"=some (.ref t.f_bj)
 F_aA:Fun K "sewn_beside" "sewn_beside" s_aA t.f_aA t.d_aA
 b_aA:aK K t.d_aA ["one","other"] []
 mg_aA:mg "sewn_beside"=some (.ref t.f_aA)
 F_az:Fun K "sewn_together" "sewn_together" s_az t.f_az t.d_az
 b_az:aK K t.d_az ["one","other","way"] []
 mg_az:mg "sewn_together"=some (.ref t.f_az)
 F_bl:Fun K "is_name" "is_name" s_bl t.f_bl t.d_bl
 b_bl:aK K t.d_bl ["name"] []
 mg_bl:mg "is_name"=some (.ref t.f_bl)
 F_aQ:Fun K "__init__" "Chest.__init__" s_aQ t.f_aQ t.d_aQ
 b_aQ:aK K t.d_aQ ["self"] []
 F_aB:Fun K "names" "Chest.names" s_aB t.f_aB t.d_aB
 b_aB:aK K t.d_aB ["self"] []
 m_aB:dG K t.a_ae "names" t.f_aB
 F_am:Fun K "cloth" "Chest.cloth" s_am t.f_am t.d_am
 b_am:aK K t.d_am ["self","name"] []
 m_am:dG K t.a_ae "cloth" t.f_am
 F_an:Fun K "need_free" "Chest.need_free" s_an t.f_an t.d_an
 b_an:aK K t.d_an ["self","name"] []
 m_an:dG K t.a_ae "need_free" t.f_an
 F_av:Fun K "become" "Chest.become" s_av t.f_av t.d_av
 b_av:aK K t.d_av ["self","cloths"] []
 m_av:dG K t.a_ae "become" t.f_av
 F_aj:Fun K "become_with" "Chest.become_with" s_aj t.f_aj t.d_aj
 b_aj:aK K t.d_aj ["self","name","cloth"] []
 m_aj:dG K t.a_ae "become_with" t.f_aj
 F_a0:Fun K "lay" "Chest.lay" s_a0 t.f_a0 t.d_a0
 b_a0:aK K t.d_a0 ["self","name","cloth"] []
 m_a0:dG K t.a_ae "lay" t.f_a0
 F_aJ:Fun K "drop" "Chest.drop" s_aJ t.f_aJ t.d_aJ
 b_aJ:aK K t.d_aJ ["self","name"] []
 m_aJ:dG K t.a_ae "drop" t.f_aJ
 F_aO:Fun K "turn" "Chest.turn" s_aO t.f_aO t.d_aO
 b_aO:aK K t.d_aO ["self","name","way","k"] []
 m_aO:dG K t.a_ae "turn" t.f_aO
 F_a1:Fun K "put" "Chest.put" s_a1 t.f_a1 t.d_a1
 b_a1:aK K t.d_a1 ["self","name","way","k","bit"] []
 m_a1:dG K t.a_ae "put" t.f_a1
 F_aZ:Fun K "cut" "Chest.cut" s_aZ t.f_aZ t.d_aZ
 b_aZ:aK K t.d_aZ ["self","name","way","k"] []
 m_aZ:dG K t.a_ae "cut" t.f_aZ
 F_a2:Fun K "sew" "Chest.sew" s_a2 t.f_a2 t.d_a2
 b_a2:aK K t.d_a2 ["self","name","one","other","way"] []
 m_a2:dG K t.a_ae "sew" t.f_a2
 F_aE:Fun K "part" "Chest.part" s_aE t.f_aE t.d_aE
 b_aE:aK K t.d_aE ["self","name","way","k","other"] []
 m_aE:dG K t.a_ae "part" t.f_aE
 F_aP:Fun K "undo" "Chest.undo" s_aP t.f_aP t.d_aP
 b_aP:aK K t.d_aP ["self"] []
 m_aP:dG K t.a_ae "undo" t.f_aP
 F_aN:Fun K "redo" "Chest.redo" s_aN t.f_aN t.d_aN
 b_aN:aK K t.d_aN ["self"] []
 m_aN:dG K t.a_ae "redo" t.f_aN
 F_at:Fun K "undoable" "Chest.undoable" s_at t.f_at t.d_at
 b_at:aK K t.d_at ["self"] []
 m_at:dG K t.a_ae "undoable" t.f_at
 F_as:Fun K "redoable" "Chest.redoable" s_as t.f_as t.d_as
 b_as:aK K t.d_as ["self"] []
 m_as:dG K t.a_ae "redoable" t.f_as
 F_aK:Fun K "twin" "Chest.twin" s_aK t.f_aK t.d_aK
 b_aK:aK K t.d_aK ["self"] []
 m_aK:dG K t.a_ae "twin" t.f_aK
 F_bb:Fun K "_law_draws" "_law_draws" s_bb t.f_bb t.d_bb
 b_bb:aK K t.d_bb ["_law_script","_law_many"] []
 mg_bb:mg "_law_draws"=some (.ref t.f_bb)
 F_a7:Fun K "_law_names" "_law_names" s_a7 t.f_a7 t.d_a7
 b_a7:aK K t.d_a7 ["_law_some","_law_many"] []
 mg_a7:mg "_law_names"=some (.ref t.f_a7)
 F_bo:Fun K "_law_bits" "_law_bits" s_bo t.f_bo t.d_bo
 b_bo:aK K t.d_bo ["_law_number","_law_many"] []
 mg_bo:mg "_law_bits"=some (.ref t.f_bo)
 F_bq:Fun K "_law_kind" "_law_kind" s_bq t.f_bq t.d_bq
 b_bq:aK K t.d_bq ["_law_e"] []
 mg_bq:mg "_law_kind"=some (.ref t.f_bq)
 F_Ldo:Fun K "_law_do" "_law_do" yV t.f_Ldo t.d_Ldo
 b_Ldo:aK K t.d_Ldo ["_law_chest","_law_deed"] []
 mg_Ldo:mg "_law_do"=some (.ref t.f_Ldo)
 F_ba:Fun K "_law_same" "_law_same" s_ba t.f_ba t.d_ba
 b_ba:aK K t.d_ba ["_law_told_here","_law_due"] []
 mg_ba:mg "_law_same"=some (.ref t.f_ba)
 F_bm:Fun K "_law_told" "_law_told" s_bm t.f_bm t.d_bm
 b_bm:aK K t.d_bm ["_law_cloth"] []
 mg_bm:mg "_law_told"=some (.ref t.f_bm)
 F_aV:Fun K "_law_book_fits" "_law_book_fits" s_aV t.f_aV t.d_aV
 b_aV:aK K t.d_aV ["_law_chest","_law_book"] []
 mg_aV:mg "_law_book_fits"=some (.ref t.f_aV)
 F_be:Fun K "_law_with" "_law_with" s_be t.f_be t.d_be
 b_be:aK K t.d_be ["_law_plan","_law_way","_law_bits_here"] []
 mg_be:mg "_law_with"=some (.ref t.f_be)
 F_bd:Fun K "_law_unite" "_law_unite" s_bd t.f_bd t.d_bd
 b_bd:aK K t.d_bd ["_law_one","_law_other","_law_way"] []
 mg_bd:mg "_law_unite"=some (.ref t.f_bd)
 F_aM:Fun K "_law_fresh_sew" "_law_fresh_sew" s_aM t.f_aM t.d_aM
 b_aM:aK K t.d_aM ["_law_book","_law_pool","_law_some"] []
 mg_aM:mg "_law_fresh_sew"=some (.ref t.f_aM)
 F_aC:Fun K "_law_book_deed" "_law_book_deed" s_aC t.f_aC t.d_aC
 b_aC:aK K t.d_aC ["_law_some","_law_book","_law_pool"] []
 mg_aC:mg "_law_book_deed"=some (.ref t.f_aC)
 F_aT:Fun K "_law_book_step" "_law_book_step" s_aT t.f_aT t.d_aT
 b_aT:aK K t.d_aT ["_law_some","_law_book","_law_pool"] []
 mg_aT:mg "_law_book_step"=some (.ref t.f_aT)
 F_aF:Fun K "_law_new_word" "_law_new_word" s_aF t.f_aF t.d_aF
 b_aF:aK K t.d_aF ["_law_book","_law_name"] []
 mg_aF:mg "_law_new_word"=some (.ref t.f_aF)
 F_aY:Fun K "_law_line_word" "_law_line_word" s_aY t.f_aY t.d_aY
 b_aY:aK K t.d_aY ["_law_plan","_law_way","_law_k","_law_more"] []
 mg_aY:mg "_law_line_word"=some (.ref t.f_aY)
 F_bg:Fun K "_law_split" "_law_split" s_bg t.f_bg t.d_bg
 b_bg:aK K t.d_bg ["_law_plan","_law_way","_law_k"] []
 mg_bg:mg "_law_split"=some (.ref t.f_bg)
 F_aW:Fun K "_law_changed" "_law_changed" s_aW t.f_aW t.d_aW
 b_aW:aK K t.d_aW ["_law_fresh","_law_deed"] []
 mg_aW:mg "_law_changed"=some (.ref t.f_aW)
 F_aL:Fun K "_law_book_next" "_law_book_next" s_aL t.f_aL t.d_aL
 b_aL:aK K t.d_aL ["_law_book","_law_deed"] []
 mg_aL:mg "_law_book_next"=some (.ref t.f_aL)
 F_ax:Fun K "_law_moved_state" "_law_moved_state" s_ax t.f_ax t.d_ax
 b_ax:aK K t.d_ax ["_law_chest","_law_word","_law_past","_law_book","_law_ahead"] []
 mg_ax:mg "_law_moved_state"=some (.ref t.f_ax)
 F_aR:Fun K "_law_stepped" "_law_stepped" s_aR t.f_aR t.d_aR
 b_aR:aK K t.d_aR ["_law_chest","_law_state","_law_pool","_law_here"] []
 mg_aR:mg "_law_stepped"=some (.ref t.f_aR)
 F_aH:Fun K "_law_counted" "_law_counted" s_aH t.f_aH t.d_aH
 b_aH:aK K t.d_aH ["_law_chest","_law_state"] []
 mg_aH:mg "_law_counted"=some (.ref t.f_aH)
 F_law:Fun K "law" "law" yX t.f_law t.d_law
 b_law:aK K t.d_law ["_law_script"] []
 mg_law:mg "law"=some (.ref t.f_law)
 mg_a3:mg "SewError"=some (.ref t.a_a3)
 mg_ag:mg "Unfit"=some (.ref t.a_ag)
 mg_ac:mg "BadSize"=some (.ref t.a_ac)
 mg_ah:mg "BadBit"=some (.ref t.a_ah)
 mg_bp:mg "NoCell"=some (.ref t.a_bp)
 mg_af:mg "NoLine"=some (.ref t.a_af)
 mg_ad:mg "BadName"=some (.ref t.a_ad)
 mg_ak:mg "Taken"=some (.ref t.a_ak)
 mg_ab:mg "NoCloth"=some (.ref t.a_ab)
 mg_aa:mg "NothingLeft"=some (.ref t.a_aa)
 x_ac:QXc K t.a_ac
 xi_ac:fi K t.a_ac
 cat_ac:W.exmOne K (.ref t.a_ac) (.ref t.a_a3)=some true
 nc_ac:W.exmOne K (.ref t.a_ac) (.ref t.a_ag)=some false
 kt_ac_ad:QKt K t.a_ac t.a_ad false
 kt_ac_ak:QKt K t.a_ac t.a_ak false
 kt_ac_ab:QKt K t.a_ac t.a_ab false
 kt_ac_af:QKt K t.a_ac t.a_af false
 kt_ac_ah:QKt K t.a_ac t.a_ah false
 kt_ac_ac:QKt K t.a_ac t.a_ac true
 kt_ac_aa:QKt K t.a_ac t.a_aa false
 kt_ac_ag:QKt K t.a_ac t.a_ag false
 kv_ac:W.kitOne K (.ref t.a_ac) (.type "ValueError")=some true
 x_ah:QXc K t.a_ah
 xi_ah:fi K t.a_ah
 cat_ah:W.exmOne K (.ref t.a_ah) (.ref t.a_a3)=some true
 nc_ah:W.exmOne K (.ref t.a_ah) (.ref t.a_ag)=some false
 kt_ah_ad:QKt K t.a_ah t.a_ad false
 kt_ah_ak:QKt K t.a_ah t.a_ak false
 kt_ah_ab:QKt K t.a_ah t.a_ab false
 kt_ah_af:QKt K t.a_ah t.a_af false
 kt_ah_ah:QKt K t.a_ah t.a_ah true
 kt_ah_ac:QKt K t.a_ah t.a_ac false
 kt_ah_aa:QKt K t.a_ah t.a_aa false
 kt_ah_ag:QKt K t.a_ah t.a_ag false
 kv_ah:W.kitOne K (.ref t.a_ah) (.type "ValueError")=some true
 x_bp:QXc K t.a_bp
 xi_bp:fi K t.a_bp
 cat_bp:W.exmOne K (.ref t.a_bp) (.ref t.a_a3)=some true
 x_af:QXc K t.a_af
 xi_af:fi K t.a_af
 cat_af:W.exmOne K (.ref t.a_af) (.ref t.a_a3)=some true
 nc_af:W.exmOne K (.ref t.a_af) (.ref t.a_ag)=some false
 kt_af_ad:QKt K t.a_af t.a_ad false
 kt_af_ak:QKt K t.a_af t.a_ak false
 kt_af_ab:QKt K t.a_af t.a_ab false
 kt_af_af:QKt K t.a_af t.a_af true
 kt_af_ah:QKt K t.a_af t.a_ah false
 kt_af_ac:QKt K t.a_af t.a_ac false
 kt_af_aa:QKt K t.a_af t.a_aa false
 kt_af_ag:QKt K t.a_af t.a_ag false
 kv_af:W.kitOne K (.ref t.a_af) (.type "ValueError")=some true
 x_ad:QXc K t.a_ad
 xi_ad:fi K t.a_ad
 cat_ad:W.exmOne K (.ref t.a_ad) (.ref t.a_a3)=some true
 nc_ad:W.exmOne K (.ref t.a_ad) (.ref t.a_ag)=some false
 kt_ad_ad:QKt K t.a_ad t.a_ad true
 kt_ad_ak:QKt K t.a_ad t.a_ak false
 kt_ad_ab:QKt K t.a_ad t.a_ab false
 kt_ad_af:QKt K t.a_ad t.a_af false
 kt_ad_ah:QKt K t.a_ad t.a_ah false
 kt_ad_ac:QKt K t.a_ad t.a_ac false
 kt_ad_aa:QKt K t.a_ad t.a_aa false
 kt_ad_ag:QKt K t.a_ad t.a_ag false
 kv_ad:W.kitOne K (.ref t.a_ad) (.type "ValueError")=some true
 x_ak:QXc K t.a_ak
 xi_ak:fi K t.a_ak
 cat_ak:W.exmOne K (.ref t.a_ak) (.ref t.a_a3)=some true
 nc_ak:W.exmOne K (.ref t.a_ak) (.ref t.a_ag)=some false
 kt_ak_ad:QKt K t.a_ak t.a_ad false
 kt_ak_ak:QKt K t.a_ak t.a_ak true
 kt_ak_ab:QKt K t.a_ak t.a_ab false
 kt_ak_af:QKt K t.a_ak t.a_af false
 kt_ak_ah:QKt K t.a_ak t.a_ah false
 kt_ak_ac:QKt K t.a_ak t.a_ac false
 kt_ak_aa:QKt K t.a_ak t.a_aa false
 kt_ak_ag:QKt K t.a_ak t.a_ag false
 kv_ak:W.kitOne K (.ref t.a_ak) (.type "ValueError")=some true
 x_ab:QXc K t.a_ab
 xi_ab:fi K t.a_ab
 cat_ab:W.exmOne K (.ref t.a_ab) (.ref t.a_a3)=some true
 nc_ab:W.exmOne K (.ref t.a_ab) (.ref t.a_ag)=some false
 kt_ab_ad:QKt K t.a_ab t.a_ad false
 kt_ab_ak:QKt K t.a_ab t.a_ak false
 kt_ab_ab:QKt K t.a_ab t.a_ab true
 kt_ab_af:QKt K t.a_ab t.a_af false
 kt_ab_ah:QKt K t.a_ab t.a_ah false
 kt_ab_ac:QKt K t.a_ab t.a_ac false
 kt_ab_aa:QKt K t.a_ab t.a_aa false
 kt_ab_ag:QKt K t.a_ab t.a_ag false
 kv_ab:W.kitOne K (.ref t.a_ab) (.type "ValueError")=some true
 x_aa:QXc K t.a_aa
 xi_aa:fi K t.a_aa
 cat_aa:W.exmOne K (.ref t.a_aa) (.ref t.a_a3)=some true
 nc_aa:W.exmOne K (.ref t.a_aa) (.ref t.a_ag)=some false
 kt_aa_ad:QKt K t.a_aa t.a_ad false
 kt_aa_ak:QKt K t.a_aa t.a_ak false
 kt_aa_ab:QKt K t.a_aa t.a_ab false
 kt_aa_af:QKt K t.a_aa t.a_af false
 kt_aa_ah:QKt K t.a_aa t.a_ah false
 kt_aa_ac:QKt K t.a_aa t.a_ac false
 kt_aa_aa:QKt K t.a_aa t.a_aa true
 kt_aa_ag:QKt K t.a_aa t.a_ag false
 kv_aa:W.kitOne K (.ref t.a_aa) (.type "ValueError")=some true
 bi_a3:Bg K t.a_a3
 nx_Unfit_at:QFn K t.a_ag "at"
 xi_ag:fi K t.a_ag
 cat_ag:W.exmOne K (.ref t.a_ag) (.ref t.a_a3)=some true
 ct_ag:W.exmOne K (.ref t.a_ag) (.ref t.a_ag)=some true
 kt_ag_ad:QKt K t.a_ag t.a_ad false
 kt_ag_ak:QKt K t.a_ag t.a_ak false
 kt_ag_ab:QKt K t.a_ag t.a_ab false
 kt_ag_af:QKt K t.a_ag t.a_af false
 kt_ag_ah:QKt K t.a_ag t.a_ah false
 kt_ag_ac:QKt K t.a_ag t.a_ac false
 kt_ag_aa:QKt K t.a_ag t.a_aa false
 kt_ag_ag:QKt K t.a_ag t.a_ag true
 mg_LONGEST_SIDE:mg "LONGEST_SIDE"=some (.int 40 t.tk_LONGEST_SIDE)
 mg_LONGEST_NAME:mg "LONGEST_NAME"=some (.int 12 t.tk_LONGEST_NAME)
 no_bh:mg "isinstance"=none
 no_int:mg "int"=none
 no_bool:mg "bool"=none
 no_all:mg "all"=none
 no_len:mg "len"=none
 no_bf:mg "tuple"=none
 no_list:mg "list"=none
 no_br:mg "range"=none
 no_abs:mg "abs"=none
 no_sum:mg "sum"=none
 no_min:mg "min"=none
 no_max:mg "max"=none
 no_str:mg "str"=none
 no_zip:mg "zip"=none
 no_bt:mg "enumerate"=none
 no_bk:mg "ValueError"=none
 no_dict:mg "dict"=none
theorem txt_mk {K:W.Frag} {h:Heap} {mg:Str→Option Value} (X:K.In h) (G:h.Ns mainGlobals mg) {C_bs C_ae C_ai f_a6 f_a4 f_aG f_bn f_a8 f_bc f_a5 f_aX f_aw:Addr} {f_ao f_ay f_aD f_au f_ar f_al f_aI f_aq f_a9 f_ap f_aS f_bi:Addr} {f_put f_cut f_aU f_bj f_aA f_az f_bl f_aQ f_aB f_am f_an f_av:Addr} {f_aj f_a0 f_aJ f_aO f_a1 f_aZ f_a2 f_aE f_aP f_aN f_at f_as:Addr} {f_aK f_bb f_a7 f_bo f_bq f_Ldo f_ba f_bm f_aV f_be f_bd f_aM:Addr} {f_aC f_aT f_aF f_aY f_bg f_aW f_aL f_ax f_aR f_aH f_law C_a3:Addr} {C_ag C_ac C_ah C_bp C_af C_ad C_ak C_ab C_aa:Addr} {d_a6 d_a4 d_aG d_bn d_a8 d_bc d_a5 d_aX d_aw d_ao d_ay d_aD:FuncData} {d_au d_ar d_al d_aI d_aq d_a9 d_ap d_aS d_bi d_put d_cut d_aU:FuncData} {d_bj d_aA d_az d_bl d_aQ d_aB d_am d_an d_av d_aj d_a0 d_aJ:FuncData} {d_aO d_a1 d_aZ d_a2 d_aE d_aP d_aN d_at d_as d_aK d_bb d_a7:FuncData} {d_bo d_bq d_Ldo d_ba d_bm d_aV d_be d_bd d_aM d_aC d_aT d_aF:FuncData} {d_aY d_bg d_aW d_aL d_ax d_aR d_aH d_law:FuncData} {tk_LONGEST_SIDE tk_LONGEST_NAME:Tok}
  (aC_bs:QNs K "Board" C_bs)
  (ga_bs:W.specialIn K (.ref C_bs) "__getattribute__"=some (some (.builtin "type.__getattribute__")))
  (rd_bs:W.readsIn K C_bs (.type "type")=true)
  (aC_ae:QNs K "Chest" C_ae)
  (pg_ae:W.plainGet K C_ae Str.empty=true)
  (hd_ae:W.hasDictIn K C_ae=true)
  (po_ae:W.plainOver K C_ae=true)
  (sa_ae:W.findIn K (.ref C_ae) "__setattr__"=some (some (.builtin "object.__setattr__")))
  (mk_ae:W.makesIn K C_ae=true)
  (kc_ae:W.keepIn K (.ref C_ae)=true)
  (naC_cloths:QFn K C_ae "cloths")
  (naC_ahead_of_deeds:QFn K C_ae "ahead_of_deeds")
  (naC_behind_undone:QFn K C_ae "behind_undone")
  (aC_ai:QNs K "Cloth" C_ai)
  (pg_ai:W.plainGet K C_ai Str.empty=true)
  (hd_ai:W.hasDictIn K C_ai=true)
  (po_ai:W.plainOver K C_ai=true)
  (sa_ai:W.findIn K (.ref C_ai) "__setattr__"=some (some (.builtin "object.__setattr__")))
  (mk_ai:W.makesIn K C_ai=true)
  (kc_ai:W.keepIn K (.ref C_ai)=true)
  (na_columns_count:QFn K C_ai "columns_count")
  (na_rows_count:QFn K C_ai "rows_count")
  (na_col_bits:QFn K C_ai "col_bits")
  (na_row_bits:QFn K C_ai "row_bits")
  (na_first_colour:QFn K C_ai "first_colour")
  (F_a6:Fun K "__init__" "Unfit.__init__" s_a6 f_a6 d_a6)
  (oi_ag:QFi K C_ag "__init__" f_a6)
  (of_ag:W.typeIn K (.ref f_a6)=some (.type "function"))
  (ok_ag:W.keepIn K (.ref C_ag)=true)
  (os_ag:W.findIn K (.ref C_ag) "__setattr__"=some (some (.builtin "object.__setattr__")))
  (om_ag:W.mroIn K C_ag (.type "object")=some true)
  (ox_ag:tX K C_ag [.type "ValueError",.type "Exception",.type "BaseException",.type "object"] "ValueError.__new__"=true)
  (a_a4:QNs K "is_number" f_a4)
  (F_a4:Fun K "is_number" "is_number" s_a4 f_a4 d_a4)
  (a_aG:QNs K "is_below" f_aG)
  (F_aG:Fun K "is_below" "is_below" s_aG f_aG d_aG)
  (a_bn:QNs K "is_bit" f_bn)
  (F_bn:Fun K "is_bit" "is_bit" s_bn f_bn d_bn)
  (a_a8:QNs K "all_bits" f_a8)
  (F_a8:Fun K "all_bits" "all_bits" s_a8 f_a8 d_a8)
  (a_bc:QNs K "is_side" f_bc)
  (F_bc:Fun K "is_side" "is_side" s_bc f_bc d_bc)
  (a_a5:QNs K "need_cell" f_a5)
  (F_a5:Fun K "need_cell" "need_cell" s_a5 f_a5 d_a5)
  (fc_aX:W.findCls K (.ref C_bs) (.type "type") "__init__"=some (.val (.ref f_aX)))
  (F_aX:Fun K "__init__" "Board.__init__" s_aX f_aX d_aX)
  (a_aw:QFi K C_ai "__init__" f_aw)
  (i_aw:QIf K f_aw)
  (F_aw:Fun K "__init__" "Cloth.__init__" s_aw f_aw d_aw)
  (a_ao:QFi K C_ai "shade" f_ao)
  (i_ao:QIf K f_ao)
  (F_ao:Fun K "shade" "Cloth.shade" s_ao f_ao d_ao)
  (a_ay:QFi K C_ai "wide" f_ay)
  (i_ay:QIf K f_ay)
  (F_ay:Fun K "wide" "Board.wide" s_ay f_ay d_ay)
  (a_aD:QFi K C_ai "tall" f_aD)
  (i_aD:QIf K f_aD)
  (F_aD:Fun K "tall" "Board.tall" s_aD f_aD d_aD)
  (a_au:QFi K C_ai "cols" f_au)
  (i_au:QIf K f_au)
  (F_au:Fun K "cols" "Board.cols" s_au f_au d_au)
  (a_ar:QFi K C_ai "rows" f_ar)
  (i_ar:QIf K f_ar)
  (F_ar:Fun K "rows" "Board.rows" s_ar f_ar d_ar)
  (a_al:QFi K C_ai "bits_along" f_al)
  (i_al:QIf K f_al)
  (F_al:Fun K "bits_along" "Board.bits_along" s_al f_al d_al)
  (a_aI:QFi K C_ai "bit" f_aI)
  (i_aI:QIf K f_aI)
  (F_aI:Fun K "bit" "Board.bit" s_aI f_aI d_aI)
  (a_aq:QFi K C_ai "colour" f_aq)
  (i_aq:QIf K f_aq)
  (F_aq:Fun K "colour" "Cloth.colour" s_aq f_aq d_aq)
  (a_a9:QNs K "shifted" f_a9)
  (F_a9:Fun K "shifted" "shifted" s_a9 f_a9 d_a9)
  (a_ap:QNs K "transposed" f_ap)
  (F_ap:Fun K "transposed" "transposed" s_ap f_ap d_ap)
  (a_aS:QNs K "with_bits" f_aS)
  (F_aS:Fun K "with_bits" "with_bits" s_aS f_aS d_aS)
  (a_bi:QNs K "turned" f_bi)
  (F_bi:Fun K "turned" "turned" s_bi f_bi d_bi)
  (a_put:QNs K "put" f_put)
  (F_put:Fun K "put" "put" yY f_put d_put)
  (a_putsew:QNs K "put_sew" f_put)
  (a_cut:QNs K "cut" f_cut)
  (F_cut:Fun K "cut" "cut" yW f_cut d_cut)
  (a_cutsew:QNs K "cut_sew" f_cut)
  (a_aU:QNs K "parted_up" f_aU)
  (F_aU:Fun K "parted_up" "parted_up" s_aU f_aU d_aU)
  (a_bj:QNs K "parted" f_bj)
  (F_bj:Fun K "parted" "parted" s_bj f_bj d_bj)
  (a_aA:QNs K "sewn_beside" f_aA)
  (F_aA:Fun K "sewn_beside" "sewn_beside" s_aA f_aA d_aA)
  (a_az:QNs K "sewn_together" f_az)
  (F_az:Fun K "sewn_together" "sewn_together" s_az f_az d_az)
  (a_bl:QNs K "is_name" f_bl)
  (F_bl:Fun K "is_name" "is_name" s_bl f_bl d_bl)
  (a_aQ:QFi K C_ae "__init__" f_aQ)
  (i_aQ:QIf K f_aQ)
  (F_aQ:Fun K "__init__" "Chest.__init__" s_aQ f_aQ d_aQ)
  (a_aB:QFi K C_ae "names" f_aB)
  (i_aB:QIf K f_aB)
  (F_aB:Fun K "names" "Chest.names" s_aB f_aB d_aB)
  (a_am:QFi K C_ae "cloth" f_am)
  (i_am:QIf K f_am)
  (F_am:Fun K "cloth" "Chest.cloth" s_am f_am d_am)
  (a_an:QFi K C_ae "need_free" f_an)
  (i_an:QIf K f_an)
  (F_an:Fun K "need_free" "Chest.need_free" s_an f_an d_an)
  (a_av:QFi K C_ae "become" f_av)
  (i_av:QIf K f_av)
  (F_av:Fun K "become" "Chest.become" s_av f_av d_av)
  (a_aj:QFi K C_ae "become_with" f_aj)
  (i_aj:QIf K f_aj)
  (F_aj:Fun K "become_with" "Chest.become_with" s_aj f_aj d_aj)
  (a_a0:QFi K C_ae "lay" f_a0)
  (i_a0:QIf K f_a0)
  (F_a0:Fun K "lay" "Chest.lay" s_a0 f_a0 d_a0)
  (a_aJ:QFi K C_ae "drop" f_aJ)
  (i_aJ:QIf K f_aJ)
  (F_aJ:Fun K "drop" "Chest.drop" s_aJ f_aJ d_aJ)
  (a_aO:QFi K C_ae "turn" f_aO)
  (i_aO:QIf K f_aO)
  (F_aO:Fun K "turn" "Chest.turn" s_aO f_aO d_aO)
  (a_a1:QFi K C_ae "put" f_a1)
  (i_a1:QIf K f_a1)
  (F_a1:Fun K "put" "Chest.put" s_a1 f_a1 d_a1)
  (a_aZ:QFi K C_ae "cut" f_aZ)
  (i_aZ:QIf K f_aZ)
  (F_aZ:Fun K "cut" "Chest.cut" s_aZ f_aZ d_aZ)
  (a_a2:QFi K C_ae "sew" f_a2)
  (i_a2:QIf K f_a2)
  (F_a2:Fun K "sew" "Chest.sew" s_a2 f_a2 d_a2)
  (a_aE:QFi K C_ae "part" f_aE)
  (i_aE:QIf K f_aE)
  (F_aE:Fun K "part" "Chest.part" s_aE f_aE d_aE)
  (a_aP:QFi K C_ae "undo" f_aP)
  (i_aP:QIf K f_aP)
  (F_aP:Fun K "undo" "Chest.undo" s_aP f_aP d_aP)
  (a_aN:QFi K C_ae "redo" f_aN)
  (i_aN:QIf K f_aN)
  (F_aN:Fun K "redo" "Chest.redo" s_aN f_aN d_aN)
  (a_at:QFi K C_ae "undoable" f_at)
  (i_at:QIf K f_at)
  (F_at:Fun K "undoable" "Chest.undoable" s_at f_at d_at)
  (a_as:QFi K C_ae "redoable" f_as)
  (i_as:QIf K f_as)
  (F_as:Fun K "redoable" "Chest.redoable" s_as f_as d_as)
  (a_aK:QFi K C_ae "twin" f_aK)
  (i_aK:QIf K f_aK)
  (F_aK:Fun K "twin" "Chest.twin" s_aK f_aK d_aK)
  (a_bb:QNs K "_law_draws" f_bb)
  (F_bb:Fun K "_law_draws" "_law_draws" s_bb f_bb d_bb)
  (a_a7:QNs K "_law_names" f_a7)
  (F_a7:Fun K "_law_names" "_law_names" s_a7 f_a7 d_a7)
  (a_bo:QNs K "_law_bits" f_bo)
  (F_bo:Fun K "_law_bits" "_law_bits" s_bo f_bo d_bo)
  (a_bq:QNs K "_law_kind" f_bq)
  (F_bq:Fun K "_law_kind" "_law_kind" s_bq f_bq d_bq)
  (a_Ldo:QNs K "_law_do" f_Ldo)
  (F_Ldo:Fun K "_law_do" "_law_do" yV f_Ldo d_Ldo)
  (a_ba:QNs K "_law_same" f_ba)
  (F_ba:Fun K "_law_same" "_law_same" s_ba f_ba d_ba)
  (a_bm:QNs K "_law_told" f_bm)
  (F_bm:Fun K "_law_told" "_law_told" s_bm f_bm d_bm)
  (a_aV:QNs K "_law_book_fits" f_aV)
  (F_aV:Fun K "_law_book_fits" "_law_book_fits" s_aV f_aV d_aV)
  (a_be:QNs K "_law_with" f_be)
  (F_be:Fun K "_law_with" "_law_with" s_be f_be d_be)
  (a_bd:QNs K "_law_unite" f_bd)
  (F_bd:Fun K "_law_unite" "_law_unite" s_bd f_bd d_bd)
  (a_aM:QNs K "_law_fresh_sew" f_aM)
  (F_aM:Fun K "_law_fresh_sew" "_law_fresh_sew" s_aM f_aM d_aM)
  (a_aC:QNs K "_law_book_deed" f_aC)
  (F_aC:Fun K "_law_book_deed" "_law_book_deed" s_aC f_aC d_aC)
  (a_aT:QNs K "_law_book_step" f_aT)
  (F_aT:Fun K "_law_book_step" "_law_book_step" s_aT f_aT d_aT)
  (a_aF:QNs K "_law_new_word" f_aF)
  (F_aF:Fun K "_law_new_word" "_law_new_word" s_aF f_aF d_aF)
  (a_aY:QNs K "_law_line_word" f_aY)
  (F_aY:Fun K "_law_line_word" "_law_line_word" s_aY f_aY d_aY)
  (a_bg:QNs K "_law_split" f_bg)
  (F_bg:Fun K "_law_split" "_law_split" s_bg f_bg d_bg)
  (a_aW:QNs K "_law_changed" f_aW)
  (F_aW:Fun K "_law_changed" "_law_changed" s_aW f_aW d_aW)
  (a_aL:QNs K "_law_book_next" f_aL)
  (F_aL:Fun K "_law_book_next" "_law_book_next" s_aL f_aL d_aL)
  (a_ax:QNs K "_law_moved_state" f_ax)
  (F_ax:Fun K "_law_moved_state" "_law_moved_state" s_ax f_ax d_ax)
  (a_aR:QNs K "_law_stepped" f_aR)
  (F_aR:Fun K "_law_stepped" "_law_stepped" s_aR f_aR d_aR)
  (a_aH:QNs K "_law_counted" f_aH)
  (F_aH:Fun K "_law_counted" "_law_counted" s_aH f_aH d_aH)
  (a_law:QNs K "law" f_law)
  (F_law:Fun K "law" "law" yX f_law d_law)
  (aX_a3:QNs K "SewError" C_a3)
  (aX_ag:QNs K "Unfit" C_ag)
  (aX_ac:QNs K "BadSize" C_ac)
  (aX_ah:QNs K "BadBit" C_ah)
  (aX_bp:QNs K "NoCell" C_bp)
  (aX_af:QNs K "NoLine" C_af)
  (aX_ad:QNs K "BadName" C_ad)
  (aX_ak:QNs K "Taken" C_ak)
  (aX_ab:QNs K "NoCloth" C_ab)
  (aX_aa:QNs K "NothingLeft" C_aa)
  (bb:W.subIn K (.ref C_a3) (.type "BaseException")=some true)
  (bm:W.mroIn K C_a3 (.type "object")=some true)
  (bt:W.typeIn K (.ref C_a3)=some (.type "type"))
  (nb:W.subIn K (.ref C_ag) (.type "BaseException")=some true)
  (nm:W.mroIn K C_ag (.type "object")=some true)
  (nt:W.typeIn K (.ref C_ag)=some (.type "type"))
  (ogs:W.specialIn K (.builtin "object.__class__") "__get__"=some (some (.builtin "getset_descriptor.__get__")))
  (otk:W.takesIn K (.builtin "object.__class__")=some true)
  (x_ac:QXc K C_ac)
  (xg_BadSize:QXg K C_ac)
  (sb_ac:W.subIn K (.ref C_ac) (.ref C_a3)=some true)
  (sn_ac:W.subIn K (.ref C_ac) (.ref C_ag)=some false)
  (kt_ac_ad:QKt K C_ac C_ad false)
  (kt_ac_ak:QKt K C_ac C_ak false)
  (kt_ac_ab:QKt K C_ac C_ab false)
  (kt_ac_af:QKt K C_ac C_af false)
  (kt_ac_ah:QKt K C_ac C_ah false)
  (kt_ac_ac:QKt K C_ac C_ac true)
  (kt_ac_aa:QKt K C_ac C_aa false)
  (kt_ac_ag:QKt K C_ac C_ag false)
  (kv_ac:W.kitOne K (.ref C_ac) (.type "ValueError")=some true)
  (x_ah:QXc K C_ah)
  (xg_BadBit:QXg K C_ah)
  (sb_ah:W.subIn K (.ref C_ah) (.ref C_a3)=some true)
  (sn_ah:W.subIn K (.ref C_ah) (.ref C_ag)=some false)
  (kt_ah_ad:QKt K C_ah C_ad false)
  (kt_ah_ak:QKt K C_ah C_ak false)
  (kt_ah_ab:QKt K C_ah C_ab false)
  (kt_ah_af:QKt K C_ah C_af false)
  (kt_ah_ah:QKt K C_ah C_ah true)
  (kt_ah_ac:QKt K C_ah C_ac false)
  (kt_ah_aa:QKt K C_ah C_aa false)
  (kt_ah_ag:QKt K C_ah C_ag false)
  (kv_ah:W.kitOne K (.ref C_ah) (.type "ValueError")=some true)
  (x_bp:QXc K C_bp)
  (xg_NoCell:QXg K C_bp)
  (sb_bp:W.subIn K (.ref C_bp) (.ref C_a3)=some true)
  (x_af:QXc K C_af)
  (xg_NoLine:QXg K C_af)
  (sb_af:W.subIn K (.ref C_af) (.ref C_a3)=some true)
  (sn_af:W.subIn K (.ref C_af) (.ref C_ag)=some false)
  (kt_af_ad:QKt K C_af C_ad false)
  (kt_af_ak:QKt K C_af C_ak false)
  (kt_af_ab:QKt K C_af C_ab false)
  (kt_af_af:QKt K C_af C_af true)
  (kt_af_ah:QKt K C_af C_ah false)
  (kt_af_ac:QKt K C_af C_ac false)
  (kt_af_aa:QKt K C_af C_aa false)
  (kt_af_ag:QKt K C_af C_ag false)
  (kv_af:W.kitOne K (.ref C_af) (.type "ValueError")=some true)
  (x_ad:QXc K C_ad)
  (xg_BadName:QXg K C_ad)
  (sb_ad:W.subIn K (.ref C_ad) (.ref C_a3)=some true)
  (sn_ad:W.subIn K (.ref C_ad) (.ref C_ag)=some false)
  (kt_ad_ad:QKt K C_ad C_ad true)
  (kt_ad_ak:QKt K C_ad C_ak false)
  (kt_ad_ab:QKt K C_ad C_ab false)
  (kt_ad_af:QKt K C_ad C_af false)
  (kt_ad_ah:QKt K C_ad C_ah false)
  (kt_ad_ac:QKt K C_ad C_ac false)
  (kt_ad_aa:QKt K C_ad C_aa false)
  (kt_ad_ag:QKt K C_ad C_ag false)
  (kv_ad:W.kitOne K (.ref C_ad) (.type "ValueError")=some true)
  (x_ak:QXc K C_ak)
  (xg_Taken:QXg K C_ak)
  (sb_ak:W.subIn K (.ref C_ak) (.ref C_a3)=some true)
  (sn_ak:W.subIn K (.ref C_ak) (.ref C_ag)=some false)
  (kt_ak_ad:QKt K C_ak C_ad false)
  (kt_ak_ak:QKt K C_ak C_ak true)
  (kt_ak_ab:QKt K C_ak C_ab false)
  (kt_ak_af:QKt K C_ak C_af false)
  (kt_ak_ah:QKt K C_ak C_ah false)
  (kt_ak_ac:QKt K C_ak C_ac false)
  (kt_ak_aa:QKt K C_ak C_aa false)
  (kt_ak_ag:QKt K C_ak C_ag false)
  (kv_ak:W.kitOne K (.ref C_ak) (.type "ValueError")=some true)
  (x_ab:QXc K C_ab)
  (xg_NoCloth:QXg K C_ab)
  (sb_ab:W.subIn K (.ref C_ab) (.ref C_a3)=some true)
  (sn_ab:W.subIn K (.ref C_ab) (.ref C_ag)=some false)
  (kt_ab_ad:QKt K C_ab C_ad false)
  (kt_ab_ak:QKt K C_ab C_ak false)
  (kt_ab_ab:QKt K C_ab C_ab true)
  (kt_ab_af:QKt K C_ab C_af false)
  (kt_ab_ah:QKt K C_ab C_ah false)
  (kt_ab_ac:QKt K C_ab C_ac false)
  (kt_ab_aa:QKt K C_ab C_aa false)
  (kt_ab_ag:QKt K C_ab C_ag false)
  (kv_ab:W.kitOne K (.ref C_ab) (.type "ValueError")=some true)
  (x_aa:QXc K C_aa)
  (xg_NothingLeft:QXg K C_aa)
  (sb_aa:W.subIn K (.ref C_aa) (.ref C_a3)=some true)
  (sn_aa:W.subIn K (.ref C_aa) (.ref C_ag)=some false)
  (kt_aa_ad:QKt K C_aa C_ad false)
  (kt_aa_ak:QKt K C_aa C_ak false)
  (kt_aa_ab:QKt K C_aa C_ab false)
  (kt_aa_af:QKt K C_aa C_af false)
  (kt_aa_ah:QKt K C_aa C_ah false)
  (kt_aa_ac:QKt K C_aa C_ac false)
  (kt_aa_aa:QKt K C_aa C_aa true)
  (kt_aa_ag:QKt K C_aa C_ag false)
  (kv_aa:W.kitOne K (.ref C_aa) (.type "ValueError")=some true)
  (bg:W.specialIn K (.ref C_a3) "__getattribute__"=some (some (.builtin "type.__getattribute__")))
  (br:W.readsIn K C_a3 (.type "type")=true)
  (ba:W.findCls K (.ref C_a3) (.type "type") "__init__"=some (.val (.builtin "ValueError.__init__")))
  (nx_Unfit_at:QFn K C_ag "at")
  (xg_Unfit:QXg K C_ag)
  (sb_ag:W.subIn K (.ref C_ag) (.ref C_a3)=some true)
  (sc_ag:W.subIn K (.ref C_ag) (.ref C_ag)=some true)
  (kt_ag_ad:QKt K C_ag C_ad false)
  (kt_ag_ak:QKt K C_ag C_ak false)
  (kt_ag_ab:QKt K C_ag C_ab false)
  (kt_ag_af:QKt K C_ag C_af false)
  (kt_ag_ah:QKt K C_ag C_ah false)
  (kt_ag_ac:QKt K C_ag C_ac false)
  (kt_ag_aa:QKt K C_ag C_aa false)
  (kt_ag_ag:QKt K C_ag C_ag true)
  (v_LONGEST_SIDE:W.nsIn K mainGlobals "LONGEST_SIDE"=some (some (.int 40 tk_LONGEST_SIDE)))
  (v_LONGEST_NAME:W.nsIn K mainGlobals "LONGEST_NAME"=some (some (.int 12 tk_LONGEST_NAME)))
  (z_bh:QNn K "isinstance")
  (z_int:QNn K "int")
  (z_bool:QNn K "bool")
  (z_all:QNn K "all")
  (z_len:QNn K "len")
  (z_bf:QNn K "tuple")
  (z_list:QNn K "list")
  (z_br:QNn K "range")
  (z_abs:QNn K "abs")
  (z_sum:QNn K "sum")
  (z_min:QNn K "min")
  (z_max:QNn K "max")
  (z_str:QNn K "str")
  (z_zip:QNn K "zip")
  (z_bt:QNn K "enumerate")
  (z_bk:QNn K "ValueError")
  (z_dict:QNn K "dict"):∃ t:Ad,Txt K mg t :=
 ⟨{ a_bs:=C_bs,a_ae:=C_ae,a_ai:=C_ai,f_a6:=f_a6,d_a6:=d_a6,f_a4:=f_a4,d_a4:=d_a4,f_aG:=f_aG,d_aG:=d_aG,f_bn:=f_bn,d_bn:=d_bn,f_a8:=f_a8,d_a8:=d_a8,f_bc:=f_bc,d_bc:=d_bc,f_a5:=f_a5,d_a5:=d_a5,f_aX:=f_aX,d_aX:=d_aX,f_aw:=f_aw,d_aw:=d_aw,f_ao:=f_ao,d_ao:=d_ao,f_ay:=f_ay,d_ay:=d_ay,f_aD:=f_aD,d_aD:=d_aD,f_au:=f_au,d_au:=d_au,f_ar:=f_ar,d_ar:=d_ar,f_al:=f_al,d_al:=d_al,f_aI:=f_aI,d_aI:=d_aI,f_aq:=f_aq,d_aq:=d_aq,f_a9:=f_a9,d_a9:=d_a9,f_ap:=f_ap,d_ap:=d_ap,f_aS:=f_aS,d_aS:=d_aS,f_bi:=f_bi,d_bi:=d_bi,f_put:=f_put,d_put:=d_put,f_cut:=f_cut,d_cut:=d_cut,f_aU:=f_aU,d_aU:=d_aU,f_bj:=f_bj,d_bj:=d_bj,f_aA:=f_aA,d_aA:=d_aA,f_az:=f_az,d_az:=d_az,f_bl:=f_bl,d_bl:=d_bl,f_aQ:=f_aQ,d_aQ:=d_aQ,f_aB:=f_aB,d_aB:=d_aB,f_am:=f_am,d_am:=d_am,f_an:=f_an,d_an:=d_an,f_av:=f_av,d_av:=d_av,f_aj:=f_aj,d_aj:=d_aj,f_a0:=f_a0,d_a0:=d_a0,f_aJ:=f_aJ,d_aJ:=d_aJ,f_aO:=f_aO,d_aO:=d_aO,f_a1:=f_a1,d_a1:=d_a1,f_aZ:=f_aZ,d_aZ:=d_aZ,f_a2:=f_a2,d_a2:=d_a2,f_aE:=f_aE,d_aE:=d_aE,f_aP:=f_aP,d_aP:=d_aP,f_aN:=f_aN,d_aN:=d_aN,f_at:=f_at,d_at:=d_at,f_as:=f_as,d_as:=d_as,f_aK:=f_aK,d_aK:=d_aK,f_bb:=f_bb,d_bb:=d_bb,f_a7:=f_a7,d_a7:=d_a7,f_bo:=f_bo,d_bo:=d_bo,f_bq:=f_bq,d_bq:=d_bq,f_Ldo:=f_Ldo,d_Ldo:=d_Ldo,f_ba:=f_ba,d_ba:=d_ba,f_bm:=f_bm,d_bm:=d_bm,f_aV:=f_aV,d_aV:=d_aV,f_be:=f_be,d_be:=d_be,f_bd:=f_bd,d_bd:=d_bd,f_aM:=f_aM,d_aM:=d_aM,f_aC:=f_aC,d_aC:=d_aC,f_aT:=f_aT,d_aT:=d_aT,f_aF:=f_aF,d_aF:=d_aF,f_aY:=f_aY,d_aY:=d_aY,f_bg:=f_bg,d_bg:=d_bg,f_aW:=f_aW,d_aW:=d_aW,f_aL:=f_aL,d_aL:=d_aL,f_ax:=f_ax,d_ax:=d_ax,f_aR:=f_aR,d_aR:=d_aR,f_aH:=f_aH,d_aH:=d_aH,f_law:=f_law,d_law:=d_law,a_a3:=C_a3,a_ag:=C_ag,a_ac:=C_ac,a_ah:=C_ah,a_bp:=C_bp,a_af:=C_af,a_ad:=C_ad,a_ak:=C_ak,a_ab:=C_ab,a_aa:=C_aa,tk_LONGEST_SIDE:=tk_LONGEST_SIDE,tk_LONGEST_NAME:=tk_LONGEST_NAME },⟨W.mg_of X G aC_bs,W.mg_of X G aC_ae,⟨pg_ae,hd_ae,po_ae,sa_ae⟩,⟨mk_ae,a_aQ,i_aQ,kc_ae⟩,naC_cloths,naC_ahead_of_deeds,naC_behind_undone,W.mg_of X G aC_ai,⟨pg_ai,hd_ai,po_ai,sa_ai⟩,⟨mk_ai,a_aw,i_aw,kc_ai⟩,na_columns_count,na_rows_count,na_col_bits,na_row_bits,na_first_colour,F_a6,F_a6.b2 fun _ _ _ _ _ _ _ _=>rfl,⟨⟨ox_ag,os_ag,om_ag⟩,oi_ag,of_ag,ok_ag⟩,F_a4,F_a4.b1 fun _ _ _ _ _ _ _=>rfl,W.mg_of X G a_a4,F_aG,F_aG.b2 fun _ _ _ _ _ _ _ _=>rfl,W.mg_of X G a_aG,F_bn,F_bn.b1 fun _ _ _ _ _ _ _=>rfl,W.mg_of X G a_bn,F_a8,F_a8.b1 fun _ _ _ _ _ _ _=>rfl,W.mg_of X G a_a8,F_bc,F_bc.b1 fun _ _ _ _ _ _ _=>rfl,W.mg_of X G a_bc,F_a5,F_a5.b3 fun _ _ _ _ _ _ _ _ _=>rfl,W.mg_of X G a_a5,F_aX,F_aX.b5 fun _ _ _ _ _ _ _ _ _ _ _=>rfl,⟨ga_bs,rd_bs,fc_aX,F_aX.kp⟩,F_aw,F_aw.b4 fun _ _ _ _ _ _ _ _ _ _=>rfl,F_ao,F_ao.b1 fun _ _ _ _ _ _ _=>rfl,⟨a_ao,i_ao,F_ao.kp⟩,F_ay,F_ay.b1 fun _ _ _ _ _ _ _=>rfl,⟨a_ay,i_ay,F_ay.kp⟩,F_aD,F_aD.b1 fun _ _ _ _ _ _ _=>rfl,⟨a_aD,i_aD,F_aD.kp⟩,F_au,F_au.b1 fun _ _ _ _ _ _ _=>rfl,⟨a_au,i_au,F_au.kp⟩,F_ar,F_ar.b1 fun _ _ _ _ _ _ _=>rfl,⟨a_ar,i_ar,F_ar.kp⟩,F_al,F_al.b2 fun _ _ _ _ _ _ _ _=>rfl,⟨a_al,i_al,F_al.kp⟩,F_aI,F_aI.b3 fun _ _ _ _ _ _ _ _ _=>rfl,⟨a_aI,i_aI,F_aI.kp⟩,F_aq,F_aq.b3 fun _ _ _ _ _ _ _ _ _=>rfl,⟨a_aq,i_aq,F_aq.kp⟩,F_a9,F_a9.b2 fun _ _ _ _ _ _ _ _=>rfl,W.mg_of X G a_a9,F_ap,F_ap.b1 fun _ _ _ _ _ _ _=>rfl,W.mg_of X G a_ap,F_aS,F_aS.b3 fun _ _ _ _ _ _ _ _ _=>rfl,W.mg_of X G a_aS,F_bi,F_bi.b3 fun _ _ _ _ _ _ _ _ _=>rfl,W.mg_of X G a_bi,F_put,F_put.b4 fun _ _ _ _ _ _ _ _ _ _=>rfl,W.mg_of X G a_putsew,W.mg_of X G a_put,F_cut,F_cut.b3 fun _ _ _ _ _ _ _ _ _=>rfl,W.mg_of X G a_cutsew,W.mg_of X G a_cut,F_aU,F_aU.b2 fun _ _ _ _ _ _ _ _=>rfl,W.mg_of X G a_aU,F_bj,F_bj.b3 fun _ _ _ _ _ _ _ _ _=>rfl,W.mg_of X G a_bj,F_aA,F_aA.b2 fun _ _ _ _ _ _ _ _=>rfl,W.mg_of X G a_aA,F_az,F_az.b3 fun _ _ _ _ _ _ _ _ _=>rfl,W.mg_of X G a_az,F_bl,F_bl.b1 fun _ _ _ _ _ _ _=>rfl,W.mg_of X G a_bl,F_aQ,F_aQ.b1 fun _ _ _ _ _ _ _=>rfl,F_aB,F_aB.b1 fun _ _ _ _ _ _ _=>rfl,⟨a_aB,i_aB,F_aB.kp⟩,F_am,F_am.b2 fun _ _ _ _ _ _ _ _=>rfl,⟨a_am,i_am,F_am.kp⟩,F_an,F_an.b2 fun _ _ _ _ _ _ _ _=>rfl,⟨a_an,i_an,F_an.kp⟩,F_av,F_av.b2 fun _ _ _ _ _ _ _ _=>rfl,⟨a_av,i_av,F_av.kp⟩,F_aj,F_aj.b3 fun _ _ _ _ _ _ _ _ _=>rfl,⟨a_aj,i_aj,F_aj.kp⟩,F_a0,F_a0.b3 fun _ _ _ _ _ _ _ _ _=>rfl,⟨a_a0,i_a0,F_a0.kp⟩,F_aJ,F_aJ.b2 fun _ _ _ _ _ _ _ _=>rfl,⟨a_aJ,i_aJ,F_aJ.kp⟩,F_aO,F_aO.b4 fun _ _ _ _ _ _ _ _ _ _=>rfl,⟨a_aO,i_aO,F_aO.kp⟩,F_a1,F_a1.b5 fun _ _ _ _ _ _ _ _ _ _ _=>rfl,⟨a_a1,i_a1,F_a1.kp⟩,F_aZ,F_aZ.b4 fun _ _ _ _ _ _ _ _ _ _=>rfl,⟨a_aZ,i_aZ,F_aZ.kp⟩,F_a2,F_a2.b5 fun _ _ _ _ _ _ _ _ _ _ _=>rfl,⟨a_a2,i_a2,F_a2.kp⟩,F_aE,F_aE.b5 fun _ _ _ _ _ _ _ _ _ _ _=>rfl,⟨a_aE,i_aE,F_aE.kp⟩,F_aP,F_aP.b1 fun _ _ _ _ _ _ _=>rfl,⟨a_aP,i_aP,F_aP.kp⟩,F_aN,F_aN.b1 fun _ _ _ _ _ _ _=>rfl,⟨a_aN,i_aN,F_aN.kp⟩,F_at,F_at.b1 fun _ _ _ _ _ _ _=>rfl,⟨a_at,i_at,F_at.kp⟩,F_as,F_as.b1 fun _ _ _ _ _ _ _=>rfl,⟨a_as,i_as,F_as.kp⟩,F_aK,F_aK.b1 fun _ _ _ _ _ _ _=>rfl,⟨a_aK,i_aK,F_aK.kp⟩,F_bb,F_bb.b2 fun _ _ _ _ _ _ _ _=>rfl,W.mg_of X G a_bb,F_a7,F_a7.b2 fun _ _ _ _ _ _ _ _=>rfl,W.mg_of X G a_a7,F_bo,F_bo.b2 fun _ _ _ _ _ _ _ _=>rfl,W.mg_of X G a_bo,F_bq,F_bq.b1 fun _ _ _ _ _ _ _=>rfl,W.mg_of X G a_bq,F_Ldo,F_Ldo.b2 fun _ _ _ _ _ _ _ _=>rfl,W.mg_of X G a_Ldo,F_ba,F_ba.b2 fun _ _ _ _ _ _ _ _=>rfl,W.mg_of X G a_ba,F_bm,F_bm.b1 fun _ _ _ _ _ _ _=>rfl,W.mg_of X G a_bm,F_aV,F_aV.b2 fun _ _ _ _ _ _ _ _=>rfl,W.mg_of X G a_aV,F_be,F_be.b3 fun _ _ _ _ _ _ _ _ _=>rfl,W.mg_of X G a_be,F_bd,F_bd.b3 fun _ _ _ _ _ _ _ _ _=>rfl,W.mg_of X G a_bd,F_aM,F_aM.b3 fun _ _ _ _ _ _ _ _ _=>rfl,W.mg_of X G a_aM,F_aC,F_aC.b3 fun _ _ _ _ _ _ _ _ _=>rfl,W.mg_of X G a_aC,F_aT,F_aT.b3 fun _ _ _ _ _ _ _ _ _=>rfl,W.mg_of X G a_aT,F_aF,F_aF.b2 fun _ _ _ _ _ _ _ _=>rfl,W.mg_of X G a_aF,F_aY,F_aY.b4 fun _ _ _ _ _ _ _ _ _ _=>rfl,W.mg_of X G a_aY,F_bg,F_bg.b3 fun _ _ _ _ _ _ _ _ _=>rfl,W.mg_of X G a_bg,F_aW,F_aW.b2 fun _ _ _ _ _ _ _ _=>rfl,W.mg_of X G a_aW,F_aL,F_aL.b2 fun _ _ _ _ _ _ _ _=>rfl,W.mg_of X G a_aL,F_ax,F_ax.b5 fun _ _ _ _ _ _ _ _ _ _ _=>rfl,W.mg_of X G a_ax,F_aR,F_aR.b4 fun _ _ _ _ _ _ _ _ _ _=>rfl,W.mg_of X G a_aR,F_aH,F_aH.b2 fun _ _ _ _ _ _ _ _=>rfl,W.mg_of X G a_aH,F_law,F_law.b1 fun _ _ _ _ _ _ _=>rfl,W.mg_of X G a_law,W.mg_of X G aX_a3,W.mg_of X G aX_ag,W.mg_of X G aX_ac,W.mg_of X G aX_ah,W.mg_of X G aX_bp,W.mg_of X G aX_af,W.mg_of X G aX_ad,W.mg_of X G aX_ak,W.mg_of X G aX_ab,W.mg_of X G aX_aa,x_ac,⟨xg_BadSize.1,xg_BadSize.2.1,xg_BadSize.2.2.1,ogs,otk,xg_BadSize.2.2.2.1,xg_BadSize.2.2.2.2⟩,fO bb bm bt sb_ac,jg nb nm nt sn_ac,kt_ac_ad,kt_ac_ak,kt_ac_ab,kt_ac_af,kt_ac_ah,kt_ac_ac,kt_ac_aa,kt_ac_ag,kv_ac,x_ah,⟨xg_BadBit.1,xg_BadBit.2.1,xg_BadBit.2.2.1,ogs,otk,xg_BadBit.2.2.2.1,xg_BadBit.2.2.2.2⟩,fO bb bm bt sb_ah,jg nb nm nt sn_ah,kt_ah_ad,kt_ah_ak,kt_ah_ab,kt_ah_af,kt_ah_ah,kt_ah_ac,kt_ah_aa,kt_ah_ag,kv_ah,x_bp,⟨xg_NoCell.1,xg_NoCell.2.1,xg_NoCell.2.2.1,ogs,otk,xg_NoCell.2.2.2.1,xg_NoCell.2.2.2.2⟩,fO bb bm bt sb_bp,x_af,⟨xg_NoLine.1,xg_NoLine.2.1,xg_NoLine.2.2.1,ogs,otk,xg_NoLine.2.2.2.1,xg_NoLine.2.2.2.2⟩,fO bb bm bt sb_af,jg nb nm nt sn_af,kt_af_ad,kt_af_ak,kt_af_ab,kt_af_af,kt_af_ah,kt_af_ac,kt_af_aa,kt_af_ag,kv_af,x_ad,⟨xg_BadName.1,xg_BadName.2.1,xg_BadName.2.2.1,ogs,otk,xg_BadName.2.2.2.1,xg_BadName.2.2.2.2⟩,fO bb bm bt sb_ad,jg nb nm nt sn_ad,kt_ad_ad,kt_ad_ak,kt_ad_ab,kt_ad_af,kt_ad_ah,kt_ad_ac,kt_ad_aa,kt_ad_ag,kv_ad,x_ak,⟨xg_Taken.1,xg_Taken.2.1,xg_Taken.2.2.1,ogs,otk,xg_Taken.2.2.2.1,xg_Taken.2.2.2.2⟩,fO bb bm bt sb_ak,jg nb nm nt sn_ak,kt_ak_ad,kt_ak_ak,kt_ak_ab,kt_ak_af,kt_ak_ah,kt_ak_ac,kt_ak_aa,kt_ak_ag,kv_ak,x_ab,⟨xg_NoCloth.1,xg_NoCloth.2.1,xg_NoCloth.2.2.1,ogs,otk,xg_NoCloth.2.2.2.1,xg_NoCloth.2.2.2.2⟩,fO bb bm bt sb_ab,jg nb nm nt sn_ab,kt_ab_ad,kt_ab_ak,kt_ab_ab,kt_ab_af,kt_ab_ah,kt_ab_ac,kt_ab_aa,kt_ab_ag,kv_ab,x_aa,⟨xg_NothingLeft.1,xg_NothingLeft.2.1,xg_NothingLeft.2.2.1,ogs,otk,xg_NothingLeft.2.2.2.1,xg_NothingLeft.2.2.2.2⟩,fO bb bm bt sb_aa,jg nb nm nt sn_aa,kt_aa_ad,kt_aa_ak,kt_aa_ab,kt_aa_af,kt_aa_ah,kt_aa_ac,kt_aa_aa,kt_aa_ag,kv_aa,⟨bg,br,ba⟩,nx_Unfit_at,⟨xg_Unfit.1,xg_Unfit.2.1,xg_Unfit.2.2.1,ogs,otk,xg_Unfit.2.2.2.1,xg_Unfit.2.2.2.2⟩,fO bb bm bt sb_ag,fO nb nm nt sc_ag,kt_ag_ad,kt_ag_ak,kt_ag_ab,kt_ag_af,kt_ag_ah,kt_ag_ac,kt_ag_aa,kt_ag_ag,W.mg_of X G v_LONGEST_SIDE,W.mg_of X G v_LONGEST_NAME,W.mg_none_of X G z_bh,W.mg_none_of X G z_int,W.mg_none_of X G z_bool,W.mg_none_of X G z_all,W.mg_none_of X G z_len,W.mg_none_of X G z_bf,W.mg_none_of X G z_list,W.mg_none_of X G z_br,W.mg_none_of X G z_abs,W.mg_none_of X G z_sum,W.mg_none_of X G z_min,W.mg_none_of X G z_max,W.mg_none_of X G z_str,W.mg_none_of X G z_zip,W.mg_none_of X G z_bt,W.mg_none_of X G z_bk,W.mg_none_of X G z_dict⟩⟩
local macro_rules | `(tactic| walk_at "rd1") => `(tactic| first
 | ((with_reducible refine' C7 (v:=?kv) ?ke ?kh); (case ke=>exact rfl))
 | (with_reducible refine jO fun _ _=>?_) | (with_reducible refine CK ?_) | (with_reducible refine dR ?_) | (with_reducible refine C5 ?_) | (with_reducible refine rd_retN ?_) | (with_reducible refine AM ?_)
 | (with_reducible refine CW ?_) | (with_reducible refine DT ?_) | (with_reducible refine yS ?_) | (with_reducible refine AN ?_) | (with_reducible refine EA ?_) | (with_reducible refine DP ?_) | (with_reducible refine DU ?_)
 | (with_reducible refine AG ?_) | (with_reducible refine rd_orV ?_) | (with_reducible refine AY ?_) | (with_reducible refine CJ ?_) | (with_reducible refine DQ ?_) | (with_reducible refine C3 ?_) | (with_reducible refine fH ?_)
 | (with_reducible refine DN ?_) | (with_reducible refine Ez ?_) | (with_reducible refine CQ ?_) | (with_reducible refine C1 ?_) | (with_reducible refine CS ?_) | (with_reducible refine CP ?_) | (with_reducible refine C0 ?_)
 | (with_reducible refine yp ?_) | (with_reducible refine AH ?_) | (with_reducible refine C2 ?_) | (with_reducible refine AJ ?_) | (with_reducible refine DM ?_) | (with_reducible refine C6 ?_) | (with_reducible refine CZ ?_)
 | (with_reducible refine AX ?_) | (with_reducible refine rd_try2 ?_) | (with_reducible refine rd_thawE ?_) | (with_reducible refine yT ?_) | (with_reducible refine yF ?_) | (with_reducible refine yB ?_) | (with_reducible refine CY ?_) | (with_reducible refine rd_ivals ?_) | (with_reducible refine rd_iitems ?_) | ((with_reducible refine' rd_aug (x:=?kv) ?ke ?kh); (case ke=>exact rfl)) | (with_reducible refine rd_ipI ?_) | (with_reducible refine ic ?_) | (with_reducible refine qu ?_) | (with_reducible refine AQ ?_) | (with_reducible refine A1 ?_) | (with_reducible refine yU ?_) | (with_reducible refine AI ?_) | (with_reducible refine CT ?_) | (with_reducible refine AW ?_) | (with_reducible refine AU ?_) | (with_reducible refine yQ ?_) | (with_reducible refine rd_try ?_) | (with_reducible refine rd_callS ?_) | (with_reducible refine yJ ?_) | (with_reducible refine yI ?_) | (with_reducible refine DO ?_) | (with_reducible refine CM ?_) | (with_reducible refine DR ?_) | (with_reducible refine wB ?_) | (with_reducible refine AZ ?_) | (with_reducible refine yv ?_) | (with_reducible refine yy ?_)
 | (with_reducible refine rd_if ?_) | (with_reducible refine rd_augS ?_) | (with_reducible refine AL ?_) | (with_reducible refine CO ?_) | (with_reducible refine wz ?_) | (with_reducible refine rd_dnewT ?_) | (with_reducible refine yr ?_) | (with_reducible refine C4 ?_) | (with_reducible refine AK ?_) | (with_reducible refine rd_disp1 ?_) | (with_reducible refine rd_dget1 ?_) | (with_reducible refine rd_dget2 ?_) | (with_reducible refine yu ?_) | (with_reducible refine rd_rng3 ?_) | (with_reducible refine sQ ?_) | (with_reducible refine CI ?_) | (with_reducible refine rd_min2 ?_) | (with_reducible refine AV ?_) | (with_reducible refine AR ?_) | (with_reducible refine CV ?_) | (with_reducible refine A0 ?_) | (with_reducible refine yD ?_) | (with_reducible refine AS ?_) | (with_reducible refine yG ?_) | (with_reducible refine pR ?_) | (with_reducible refine Ek ?_) | (with_reducible refine if_true_do ?_) | (with_reducible refine Dy ?_) | (with_reducible refine Dz ?_) | (with_reducible refine iteFA ?_) | ((with_reducible refine' CN (r:=?kr) ?ke ?kh); (case ke=>assumption)) | (dsimp only))
local macro_rules | `(tactic| walk_at "") => `(tactic| repeat walk_at "rd1")
local macro_rules | `(tactic| left) => `(tactic| walk_at "")
section
variable {P:Program} {w:World} {K:W.Frag} {mg:Str→Option Value} {base:Heap} {t:Ad}
def cq (i:Int):Bool:=decide (0≤i)&&decide (i<2)
def sp_a4:Sp:=fun vs H Q _=>∃ i,vs=[.int i]∧Q (.bl true) H
theorem ok_a4 (T:Txt K mg t):aU P w K mg base CX0 1 t.f_a4 t.d_a4 ["value"] sp_a4:=by
 refine T.F_a4.ok sc_a4 (fun vs H Q E h=>?_) (fun cdv A outer s H vs Q E hr h=>?_)
 ·obtain ⟨i,rfl,_⟩:=h; rfl
 ·obtain ⟨i,rfl,k⟩:=h;refine ⟨_,(aj (ay (ji (ax (bX K rfl) rfl T.no_bh (by rfl) (aa (pv 0) (aa (cT (v:=.ty "int") rfl T.no_int (by rfl:bootBuiltins "int"=some (.type "int")) rfl) af))) (jj (Cr (ax (bX K rfl) rfl T.no_bh (by rfl) (aa (pv 0) (aa (cT (v:=.ty "bool") rfl T.no_bool (by rfl:bootBuiltins "bool"=some (.type "bool")) rfl) af)))))))),?_⟩;left;refine dD (.int i) Cg ?_;left;refine dD (.int i) Cf ?_;left;exact k
def sp_aG:Sp:=fun vs H Q _=>∃ i b,vs=[.int i,.int b]∧Q (.bl (decide (0≤i)&&decide (i<b))) H
theorem ok_aG (T:Txt K mg t):aU P w K mg base CX0 2 t.f_aG t.d_aG ["value","bound"] sp_aG:=by
 refine T.F_aG.ok sc_aG (fun vs H Q E h=>?_) (fun cdv A outer s H vs Q E hr h=>?_)
 ·obtain ⟨i,b,rfl,_⟩:=h; rfl
 ·obtain ⟨i,b,rfl,k⟩:=h;refine ⟨_,(aj (ay (ji (aC (ok_a4 T) (hr.mono (by first | decide | omega)) rfl T.mg_a4 T.F_a4.kp T.b_a4 .nil aS (aa (pv 0) af)) (jj (mH Bs kS ag (pv 0) (pv 1)))))),?_⟩;left;refine ⟨i,rfl,?_⟩;left;refine eY (fun h0=>?_) (fun h0=>?_)
  ·left;rw [h0] at k;exact k
  ·rw [Bool.not_eq_true] at h0;rw [h0] at k;exact k
def sp_bn:Sp:=fun vs H Q _=>∃ i,vs=[.int i]∧Q (.bl (cq i)) H
theorem ok_bn (T:Txt K mg t):aU P w K mg base CX0 3 t.f_bn t.d_bn ["value"] sp_bn:=by
 refine T.F_bn.ok sc_bn (fun vs H Q E h=>?_) (fun cdv A outer s H vs Q E hr h=>?_)
 ·obtain ⟨i,rfl,_⟩:=h; rfl
 ·obtain ⟨i,rfl,k⟩:=h;refine ⟨_,(aj (ay (aC (ok_aG T) (hr.mono (by first | decide | omega)) rfl T.mg_aG T.F_aG.kp T.b_aG .nil aS (aa (pv 0) (aa ag af))))),?_⟩;left;exact ⟨i,2,rfl,k⟩
def fm (n:Int):Bool:=decide (0<n)&&decide (n<41)
def sp_bc:Sp:=fun vs H Q _=>∃ i,vs=[.int i]∧Q (.bl (fm i)) H
theorem ok_bc (T:Txt K mg t):aU P w K mg base CX0 3 t.f_bc t.d_bc ["count"] sp_bc:=by
  refine T.F_bc.ok sc_bc (fun vs H Q E h=>?_) (fun cdv A outer s H vs Q E hr h=>?_)
  · obtain ⟨i,rfl,_⟩:=h; rfl
  · obtain ⟨i,rfl,k⟩:=h
    refine ⟨_,(aj (ay (ji (aC (ok_aG T) (hr.mono (by first | decide | omega)) rfl T.mg_aG T.F_aG.kp T.b_aG .nil aS (aa (pv 0) (aa (aB aZ (dA (v:=.int 40) rfl T.mg_LONGEST_SIDE ⟨_,rfl⟩) ag) af))) (jj (cO mG (pv 0) ag (aG _)))))),?_⟩;left;refine ⟨i,_,rfl,?_⟩;left;refine eY (fun h0=>?_) (fun h0=>?_)
    · left
      have e:fm i=decide (0<i):=by
        rw [Bool.and_eq_true,decide_eq_true_eq,decide_eq_true_eq] at h0;unfold fm;rw [decide_eq_true (by omega:i<41),Bool.and_true]
      rw [e] at k;exact k
    · have e:fm i=false:=by
        rw [Bool.and_eq_true,decide_eq_true_eq,decide_eq_true_eq] at h0;unfold fm;by_cases hi:0<i
        · rw [decide_eq_false (by omega:¬ i<41),Bool.and_false]
        · rw [decide_eq_false hi,Bool.false_and]
      rw [e] at k;exact k
theorem tm {n:Nat}:fm ((n:Int)+1)=decide (n≤39):=by
 unfold fm;rw [decide_eq_true (by omega:(0:Int)<(n:Int)+1),Bool.true_and];exact decide_eq_decide.mpr (by omega)
def sp_a8:Sp:=fun vs H Q _=>∃ (p:Addr) (ns:List Int),vs=[.ref p]∧H p=some (.lst (ns.map V.int))∧ns.length≤1000∧∀ H',ai H H'→Q (.bl (ns.all cq)) H'
theorem ok_a8 (T:Txt K mg t):aU P w K mg base CX0 4 t.f_a8 t.d_a8 ["values"] sp_a8:=by
 refine T.F_a8.ok sc_a8 (fun vs H Q E h=>?_) (fun cdv A outer s H vs Q E hr h=>?_)
 ·obtain ⟨p,ns,rfl,_⟩:=h; rfl
 ·obtain ⟨p,ns,rfl,hp,hl,k⟩:=h;refine ⟨_,(aj (ay (ax (lA K rfl rfl) rfl T.no_all (by rfl) (aa (fE (N:=["value"]) (cap:=[none]) rfl ⟨rfl,rfl,rfl,rfl,rfl,rfl⟩ (dP (pv 0)) (fun _ _ _=>(bC (i:=0) (show (["value"]:List Str).Nodup by decide +kernel) rfl (Or.inl rfl))) (fun _ _ _=>dQ) (fun _ _ _=>(aC (ok_bn T) (hr.mono (by first | decide | omega)) rfl T.mg_bn T.F_bn.kp T.b_bn .nil aS (aa (pv 0) af)))) af)))),?_⟩;left;refine ⟨⟨_,SqL.of hp⟩,fun l hn=>?_⟩;refine lW (fun v=>match v with | .int i=>.bl (cq i) | _=>.non) (SqL.of hp) (by rw [List.length_map]; exact hl) hn (fun x o H' Q' hx s1 q=>?_) (fun H' s1 e=>?_)
  ·obtain ⟨i,_,rfl⟩:=List.mem_map.mp hx;left;exact ⟨i,rfl,q H' (ai.refl _)⟩
  ·left;have e':H' l=some (.lst ((ns.map cq).map V.bl)):=by rw [e,List.map_map,List.map_map]; rfl
   refine mK e' ?_;rw [List.all_map];exact k H' s1
def bfl (a b:Addr) (w h:Int):List (Str×V):=cG "row_bits" (.ref b) (cG "col_bits" (.ref a) (cG "rows_count" (.int h) (cG "columns_count" (.int w) [])))
def cfl (s:Int) (a b:Addr) (w h:Int):List (Str×V):=cG "first_colour" (.int s) (bfl a b w h)
abbrev NoF (m:Str):Prop:=((¬ m="first_colour")∧¬ m="col_bits")∧(¬ m="row_bits")∧(¬ m="columns_count")∧¬ m="rows_count"
theorem Dp {w h:Int} (a b:Addr):(bfl a b w h).lookup ("columns_count":Str)=some (.int w):=by
 unfold bfl; rw [az,if_neg (by decide +kernel),az,if_neg (by decide +kernel),az,if_neg (by decide +kernel),az,if_pos rfl]
theorem Dm {w h:Int} (a b:Addr):(bfl a b w h).lookup ("rows_count":Str)=some (.int h):=by
 unfold bfl; rw [az,if_neg (by decide +kernel),az,if_neg (by decide +kernel),az,if_pos rfl]
theorem Dl {w h:Int} (a b:Addr):(bfl a b w h).lookup ("col_bits":Str)=some (.ref a):=by
 unfold bfl; rw [az,if_neg (by decide +kernel),az,if_pos rfl]
theorem Dn {w h:Int} (a b:Addr):(bfl a b w h).lookup ("row_bits":Str)=some (.ref b):=by
 unfold bfl; rw [az,if_pos rfl]
theorem BV {w h:Int} (a b:Addr) {m:Str} (n:NoF m):(bfl a b w h).lookup m=none:=by
 obtain ⟨⟨n1,n2⟩,n3,n4,n5⟩:=n;unfold bfl; rw [az,if_neg n3,az,if_neg n2,az,if_neg n5,az,if_neg n4]; rfl
theorem Bi {w h:Int} (s:Int) (a b:Addr):(cfl s a b w h).lookup ("first_colour":Str)=some (.int s):=by
 unfold cfl; rw [az,if_pos rfl]
theorem Ds {w h:Int} (s:Int) (a b:Addr):(cfl s a b w h).lookup ("columns_count":Str)=some (.int w):=by
 unfold cfl; rw [az,if_neg (by decide +kernel),Dp]
theorem Dr {w h:Int} (s:Int) (a b:Addr):(cfl s a b w h).lookup ("rows_count":Str)=some (.int h):=by
 unfold cfl; rw [az,if_neg (by decide +kernel),Dm]
theorem xA {w h:Int} (s:Int) (a b:Addr):(cfl s a b w h).lookup ("col_bits":Str)=some (.ref a):=by
 unfold cfl; rw [az,if_neg (by decide +kernel),Dl]
theorem xB {w h:Int} (s:Int) (a b:Addr):(cfl s a b w h).lookup ("row_bits":Str)=some (.ref b):=by
 unfold cfl; rw [az,if_neg (by decide +kernel),Dn]
theorem dH {w h:Int} (s:Int) (a b:Addr) {m:Str} (n:NoF m):(cfl s a b w h).lookup m=none:=by
 unfold cfl; rw [az,if_neg n.1.1,BV _ _ n]
structure uN (C:Addr) (H:Hp) (p:Addr) (w h:Int) (cs rs:List Int):Prop where
 ob:∃ dx a b,H p=some (.ins C dx (bfl a b w h))∧H a=some (.tup (cs.map V.int))∧H b=some (.tup (rs.map V.int))
structure aR (C:Addr) (H:Hp) (p:Addr) (s:Int) (cs rs:List Int):Prop where
 ob:∃ dx a b,H p=some (.ins C dx (cfl s a b ((cs.length:Int)+1) ((rs.length:Int)+1)))∧H a=some (.tup (cs.map V.int))∧H b=some (.tup (rs.map V.int))
theorem aR.mono {C:Addr} {H H':Hp} {p:Addr} {s:Int} {cs rs:List Int} (e:ai H H') (c:aR C H p s cs rs):aR C H' p s cs rs:=by
 obtain ⟨dx,a,b,h1,h2,h3⟩:=c.ob;exact ⟨dx,a,b,e _ _ h1,e _ _ h2,e _ _ h3⟩
def bA (l:List Int):Prop:=l.length≤39∧∀ z∈l,z=0∨z=1
theorem bA.all {l:List Int} (h:bA l):l.all cq=true:=by
 rw [List.all_eq_true];intro z hz;rcases h.2 z hz with rfl | rfl<;>rfl
def lQ (H:Hp) (p:Addr) (H':Hp):Prop:=∀ b o,H b=some o→b≠p→H' b=some o
def dZ (s:Int) (cs rs:List Int):Bool:=cq s&&(cs.all cq&&rs.all cq)
theorem bA.ok {s:Int} {cs rs:List Int} (hs:s=0∨s=1) (bc:bA cs) (br:bA rs):dZ s cs rs=true:=by
 unfold dZ;rw [bc.all,br.all];rcases hs with rfl | rfl<;>rfl
def oq (C BB:Addr):Sp:=fun vs H Q E=>∃ (p dx c r:Addr) (w h:Int) (cs rs:List Int),vs=[.ref p,.int w,.int h,.ref c,.ref r]∧H p=some (.ins C dx [])∧H c=some (.lst (cs.map V.int))∧H r=some (.lst (rs.map V.int)) ∧
 cs.length≤1000∧rs.length≤1000∧(((cs.all cq&&rs.all cq)=false∧∀ H',ai H H'→E (.ref BB) none H') ∨
  ((cs.all cq&&rs.all cq)=true∧∀ H',lQ H p H'→uN C H' p w h cs rs→Q .non H'))
theorem okx_aX (T:Txt K mg t):aU P w K mg base (CX1 P w) 5 t.f_aX t.d_aX ["self","wide","tall","cols","rows"] (oq t.a_ai t.a_ah):=by
 refine T.F_aX.ok1 sc_aX (fun vs H Q E h=>?_) (fun cdv A outer s H vs Q E hr h=>?_)
 ·obtain ⟨p,dx,c,r,wd,ht,cs,rs,rfl,_⟩:=h; rfl
 ·obtain ⟨p,dx,c,r,wd,ht,cs,rs,rfl,hp,hc,hr',lc,lr,k⟩:=h;refine aI (aL (cJ (PW.pt (eR (bS (aC (ok_a8 T).up (hr.mono (by first | decide | omega)) rfl T.mg_a8 T.F_a8.kp T.b_a8 .nil aN (aa (pv 3) af))) (eJ (bS (aC (ok_a8 T).up (hr.mono (by first | decide | omega)) rfl T.mg_a8 T.F_a8.kp T.b_a8 .nil aN (aa (pv 4) af))))))) (aj (b8 T.mg_ah T.x_ah PySem.F.excBase_ValueError rfl rfl (fun _ _ _ _ _ _ _ _ I m q=>dE I m q) (aa av af))) aA) fun _ _=>aI (dC (pv 0) (pv 1) rfl) fun _ _=>aI (dC (pv 0) (pv 2) rfl) fun _ _=>aI (dC (pv 0) (aW (oO K rfl) rfl T.no_bf (by rfl) (aa (pv 3) af)) rfl) fun _ _=>cK (dC (pv 0) (aW (oO K rfl) rfl T.no_bf (by rfl) (aa (pv 4) af)) rfl) fun _ _=>?_;left;refine ⟨c,cs,rfl,hc,lc,fun H1 s1=>?_⟩
  cases b2:cs.all cq with
  | false =>
   left;refine ⟨by show 1≤sizeLine; decide,?_⟩;rcases k with ⟨_,e⟩ | ⟨y,_⟩
   ·exact e _ s1
   ·rw [b2] at y; cases y
  | true =>
   left;refine ⟨r,rs,rfl,s1 _ _ hr',lr,fun H2 s2=>?_⟩;have s12:=s1.trans s2
   cases b3:rs.all cq with
   | false =>
    left;refine ⟨by show 1≤sizeLine; decide,?_⟩;rcases k with ⟨_,e⟩ | ⟨y,_⟩
    ·exact e _ s12
    ·rw [b2,b3] at y; cases y
   | true =>
    left
    have k:∀ H',lQ H p H'→uN t.a_ai H' p wd ht cs rs→Q .non H':=by
     rcases k with ⟨y,_⟩ | ⟨_,z⟩
     ·rw [b2,b3] at y; cases y
     ·exact z
    have npc:c≠p:=dY hc hp (by intro z; cases z);have npr:r≠p:=dY hr' hp (by intro z; cases z);refine cA (s12 _ _ hp) T.cl_ai T.na_columns_count (by show 0<1000; decide) ?_;left;refine cA ae T.cl_ai T.na_rows_count (Nat.lt_of_le_of_lt (bu _ _ _) (by show 1<1000; decide)) ?_;rw [lN];left;refine pf (by rw [au npc]; exact s12 _ _ hc) fun a ha=>?_;have pa:p≠a:=by intro z; subst z; rw [ae] at ha; cases ha
    left;refine cA (by rw [au pa,ae]) T.cl_ai T.na_col_bits (Nat.lt_of_le_of_lt (bu _ _ _) (Nat.lt_of_le_of_lt (Nat.succ_le_succ (bu _ _ _)) (by show 2<1000; decide))) ?_;left;have ra:r≠a:=by intro z; subst z; rw [au npr,s12 _ _ hr'] at ha; cases ha
    refine pf (by rw [au npr,au ra,au npr]; exact s12 _ _ hr') fun b hb=>?_;have pb:p≠b:=by intro z; subst z; rw [ae] at hb; cases hb
    have ab:a≠b:=by intro z; subst z; rw [au pa.symm,ae] at hb; cases hb
    left;refine cA (by rw [au pb,ae]) T.cl_ai T.na_row_bits (Nat.lt_of_le_of_lt (bu _ _ _) (Nat.lt_of_le_of_lt (Nat.succ_le_succ (bu _ _ _)) (Nat.lt_of_le_of_lt (Nat.succ_le_succ (Nat.succ_le_succ (bu _ _ _))) (by show 3<1000; decide)))) ?_;left;refine k _ (fun x o e hx=>?_) ⟨⟨dx,a,b,ae,?_,?_⟩⟩
    ·have e2:=s12 _ _ e;have xa:x≠a:=by intro z; subst z; rw [au hx,e2] at ha; cases ha
     have xb:x≠b:=by intro z; subst z; rw [au hx,au xa,au hx,e2] at hb; cases hb
     rw [au hx,au xb,au hx,au xa,au hx];exact e2
    ·rw [au pa.symm,au ab,au pa.symm,ae]
    ·rw [au pb.symm,ae]
def oE (C BS BB:Addr):Sp:=fun vs H Q E=>∃ (p dx c r:Addr) (s:Int) (cs rs:List Int),vs=[.ref p,.int s,.ref c,.ref r]∧H p=some (.ins C dx [])∧H c=some (.lst (cs.map V.int))∧H r=some (.lst (rs.map V.int)) ∧
 cs.length≤1000∧rs.length≤1000∧((¬ (cs.length≤39∧rs.length≤39)∧E (.ref BS) none H)∨((cs.length≤39∧rs.length≤39)∧dZ s cs rs=false∧∀ H',lQ H p H'→E (.ref BB) none H') ∨
  ((cs.length≤39∧rs.length≤39)∧dZ s cs rs=true∧∀ H',lQ H p H'→aR C H' p s cs rs→Q .non H'))
theorem okx_aw (T:Txt K mg t):aU P w K mg base (CX1 P w) 6 t.f_aw t.d_aw ["self","shade","cols","rows"] (oE t.a_ai t.a_ac t.a_ah):=by
 refine T.F_aw.ok1 sc_aw (fun vs H Q E h=>?_) (fun cdv A outer s H vs Q E hr h=>?_)
 ·obtain ⟨p,dx,c,r,s,cs,rs,rfl,_⟩:=h; rfl
 ·obtain ⟨p,dx,c,r,s,cs,rs,rfl,hp,hc,hr',lc,lr,k⟩:=h;refine aI (aL (cJ (PW.pt (eR (bS (aC (ok_bc T).up (hr.mono (by first | decide | omega)) rfl T.mg_bc T.F_bc.kp T.b_bc .nil aN (aa (aB aZ (ax (bH K rfl) rfl T.no_len (by rfl) (aa (pv 2) af)) ag) af))) (eJ (bS (aC (ok_bc T).up (hr.mono (by first | decide | omega)) rfl T.mg_bc T.F_bc.kp T.b_bc .nil aN (aa (aB aZ (ax (bH K rfl) rfl T.no_len (by rfl) (aa (pv 3) af)) ag) af))))))) (aj (b8 T.mg_ac T.x_ac PySem.F.excBase_ValueError rfl rfl (fun _ _ _ _ _ _ _ _ I m q=>dE I m q) (aa av af))) aA) fun _ _=>aI (aL (cJ (bS (aC (ok_bn T).up (hr.mono (by first | decide | omega)) rfl T.mg_bn T.F_bn.kp T.b_bn .nil aN (aa (pv 1) af)))) (aj (b8 T.mg_ah T.x_ah PySem.F.excBase_ValueError rfl rfl (fun _ _ _ _ _ _ _ _ I m q=>dE I m q) (aa av af))) aA) fun _ _=>aI (aY (x8 rfl T.mg_bs T.cf_aX (okx_aX T) (hr.mono (by first | decide | omega)) T.b_aX .nil aN (aa (pv 0) (aa (aB aZ (ax (bH K rfl) rfl T.no_len (by rfl) (aa (pv 2) af)) ag) (aa (aB aZ (ax (bH K rfl) rfl T.no_len (by rfl) (aa (pv 3) af)) ag) (aa (pv 2) (aa (pv 3) af))))))) fun _ _=>cK (dC (pv 0) (pv 1) rfl) fun _ _=>?_;left;refine bI hc ?_;left;refine ⟨_,rfl,?_⟩;rw [List.length_map,tm];have sz:(¬ (cs.length≤39∧rs.length≤39)→E (.ref t.a_ac) none H):=fun n=>by
   rcases k with ⟨_,e⟩ | ⟨z,_⟩ | ⟨z,_⟩
   ·exact e
   ·exact absurd z n
   ·exact absurd z n
  by_cases c1:cs.length≤39
  ·rw [decide_eq_true c1];left;refine bI hr' ?_;left;refine ⟨_,rfl,?_⟩;rw [List.length_map,tm];by_cases c2:rs.length≤39
   ·rw [decide_eq_true c2];left
    have k:(dZ s cs rs=false∧∀ H',lQ H p H'→E (.ref t.a_ah) none H')∨(dZ s cs rs=true∧∀ H',lQ H p H'→aR t.a_ai H' p s cs rs→Q .non H'):=by
     rcases k with ⟨z,_⟩ | ⟨_,z⟩ | ⟨_,z⟩
     ·exact absurd ⟨c1,c2⟩ z
     ·exact .inl z
     ·exact .inr z
    have bad:∀ H',dZ s cs rs=false→ai H H'→E (.ref t.a_ah) none H':=fun H' z sm=>by
     rcases k with ⟨_,e⟩ | ⟨y,_⟩
     ·exact e H' fun b o eb _=>sm b o eb
     ·rw [z] at y; cases y
    refine ⟨s,rfl,?_⟩
    cases b1:cq s with
    | false =>
     left;refine ⟨by show 1≤sizeLine; decide,?_⟩;exact bad _ (by unfold dZ; rw [b1]; rfl) (ai.refl _)
    | true =>
     left;refine bI hc ?_;left;refine bI hr' ?_;left;rw [List.length_map,List.length_map];refine ⟨p,dx,c,r,_,_,cs,rs,rfl,hp,hc,hr',lc,lr,?_⟩
     cases b2:(cs.all cq&&rs.all cq) with
     | false=>exact .inl ⟨rfl,fun H' s1=>bad _ (by unfold dZ; rw [b2,Bool.and_false]) s1⟩
     | true =>
      refine .inr ⟨rfl,fun H' kp ⟨dx',a,b,h1,h2,h3⟩=>?_⟩
      have k:∀ H',lQ H p H'→aR t.a_ai H' p s cs rs→Q .non H':=by
       rcases k with ⟨y,_⟩ | ⟨_,z⟩
       ·unfold dZ at y; rw [b1,b2] at y; cases y
       ·exact z
      left;refine cA h1 T.cl_ai T.na_first_colour (by unfold bfl; exact Nat.lt_of_le_of_lt (bu _ _ _) (Nat.lt_of_le_of_lt (Nat.succ_le_succ (bu _ _ _)) (Nat.lt_of_le_of_lt (Nat.succ_le_succ (Nat.succ_le_succ (bu _ _ _))) (Nat.lt_of_le_of_lt (Nat.succ_le_succ (Nat.succ_le_succ (Nat.succ_le_succ (bu _ _ _)))) (by show 4<1000; decide))))) ?_;left;have pa:a≠p:=dY h2 h1 (by intro z; cases z);have pb:b≠p:=dY h3 h1 (by intro z; cases z);refine k _ (fun x o e hx=>?_) ⟨⟨dx',a,b,ae,?_,?_⟩⟩
      ·rw [au hx]; exact kp x o e hx
      ·rw [au pa]; exact h2
      ·rw [au pb]; exact h3
   ·rw [decide_eq_false c2];left;exact ⟨by show 1≤sizeLine; decide,sz fun z=>c2 z.2⟩
  ·rw [decide_eq_false c1];left;exact ⟨by show 1≤sizeLine; decide,sz fun z=>c1 z.1⟩
def sp_aw (C:Addr):Sp:=fun vs H Q _=>∃ (p dx c r:Addr) (s:Int) (cs rs:List Int),vs=[.ref p,.int s,.ref c,.ref r]∧H p=some (.ins C dx [])∧H c=some (.lst (cs.map V.int))∧H r=some (.lst (rs.map V.int)) ∧
 (s=0∨s=1)∧bA cs∧bA rs∧∀ H',(∀ b o,H b=some o→b≠p→H' b=some o)→aR C H' p s cs rs→Q .non H'
theorem ok_aw (T:Txt K mg t):aU P w K mg base CX0 6 t.f_aw t.d_aw ["self","shade","cols","rows"] (sp_aw t.a_ai) :=
 (okx_aw T).down fun vs H Q E hh=>by
  obtain ⟨p,dx,c,r,s,cs,rs,e,hp,hc,hr,hs,bc,br,k⟩:=hh;exact ⟨p,dx,c,r,s,cs,rs,e,hp,hc,hr,by have:=bc.1; omega,by have:=br.1; omega,.inr (.inr ⟨⟨bc.1,br.1⟩,bA.ok hs bc br,k⟩)⟩
def sp_ay (C:Addr):Sp:=fun vs H Q _=>∃ (p:Addr) (s:Int) (cs rs:List Int),vs=[.ref p]∧aR C H p s cs rs∧Q (.int ((cs.length:Int)+1)) H
theorem ok_ay (T:Txt K mg t):aU P w K mg base CX0 1 t.f_ay t.d_ay ["self"] (sp_ay t.a_ai):=by
 refine T.F_ay.ok sc_ay (fun vs H Q E h=>?_) (fun cdv A outer s H vs Q E hr h=>?_)
 ·obtain ⟨p,s,cs,rs,rfl,_⟩:=h; rfl
 ·obtain ⟨p,s,cs,rs,rfl,⟨dx,a,b,h1,h2,h3⟩,k⟩:=h;refine ⟨_,(aj (ay (bB K rfl (pv 0) rfl))),?_⟩;left;refine bD h1 T.cl_ai T.na_columns_count (Ds _ _ _) ?_;left;exact k
def sp_aD (C:Addr):Sp:=fun vs H Q _=>∃ (p:Addr) (s:Int) (cs rs:List Int),vs=[.ref p]∧aR C H p s cs rs∧Q (.int ((rs.length:Int)+1)) H
theorem ok_aD (T:Txt K mg t):aU P w K mg base CX0 1 t.f_aD t.d_aD ["self"] (sp_aD t.a_ai):=by
 refine T.F_aD.ok sc_aD (fun vs H Q E h=>?_) (fun cdv A outer s H vs Q E hr h=>?_)
 ·obtain ⟨p,s,cs,rs,rfl,_⟩:=h; rfl
 ·obtain ⟨p,s,cs,rs,rfl,⟨dx,a,b,h1,h2,h3⟩,k⟩:=h;refine ⟨_,(aj (ay (bB K rfl (pv 0) rfl))),?_⟩;left;refine bD h1 T.cl_ai T.na_rows_count (Dr _ _ _) ?_;left;exact k
def fj (w:Str) (cs rs bs:List Int):Prop:=(w="col"∧bs=cs)∨(w="row"∧bs=rs)
theorem sO:¬ (("row":Str)="col"):=by decide +kernel
def jA (C NL:Addr):Sp:=fun vs H Q E=>∃ (p:Addr) (w:Str) (s:Int) (cs rs:List Int),vs=[.ref p,.str w]∧aR C H p s cs rs ∧
 ((∃ bs,fj w cs rs bs∧∀ a,H a=some (.tup (bs.map V.int))→Q (.ref a) H)∨(¬ w="col"∧¬ w="row"∧E (.ref NL) none H))
theorem okx_al (T:Txt K mg t):aU P w K mg base (CX1 P w) 1 t.f_al t.d_al ["self","way"] (jA t.a_ai t.a_af):=by
 refine T.F_al.ok1 sc_al (fun vs H Q E h=>?_) (fun cdv A outer s H vs Q E hr h=>?_)
 ·obtain ⟨p,w,s,cs,rs,rfl,_⟩:=h; rfl
 ·obtain ⟨p,w,s,cs,rs,rfl,⟨dx,a,b,h1,h2,h3⟩,hw⟩:=h;refine aI (aL (aD bJ (pv 1) av (aG _)) (aj (ay (bB K rfl (pv 0) rfl))) aA) fun _ _=>aI (aL (aD bJ (pv 1) av (aG _)) (aj (ay (bB K rfl (pv 0) rfl))) aA) fun _ _=>cK (b8 T.mg_af T.x_af PySem.F.excBase_ValueError rfl rfl (fun _ _ _ _ _ _ _ _ I m q=>dE I m q) (aa av af)) fun _ _=>?_;left;rcases hw with ⟨bs,⟨rfl,rfl⟩ | ⟨rfl,rfl⟩,k⟩ | ⟨n1,n2,k⟩
  ·rw [decide_eq_true (rfl:("col":Str)="col")];left;refine bD h1 T.cl_ai T.na_col_bits (xA _ _ _) ?_;left;exact k a h2
  ·rw [decide_eq_false sO];left;rw [decide_eq_true (rfl:("row":Str)="row")];left;refine bD h1 T.cl_ai T.na_row_bits (xB _ _ _) ?_;left;exact k b h3
  ·rw [decide_eq_false n1];left;rw [decide_eq_false n2];left;exact ⟨by show 1≤sizeLine; decide,k⟩
def rF (w:Str) (k:Int) (cs rs:List Int):Prop:=(¬ w="col"∧¬ w="row")∨∃ bs,fj w cs rs bs∧¬ (0≤k∧k<bs.length)
def rz (C NL:Addr):Sp:=fun vs H Q E=>∃ (p:Addr) (w:Str) (k s:Int) (cs rs:List Int),vs=[.ref p,.str w,.int k]∧aR C H p s cs rs ∧
 ((∃ bs,fj w cs rs bs∧0≤k∧k<bs.length∧Q (.int (bs.getD k.toNat 0)) H)∨(rF w k cs rs∧E (.ref NL) none H))
theorem okx_aI (T:Txt K mg t):aU P w K mg base (CX1 P w) 3 t.f_aI t.d_aI ["self","way","k"] (rz t.a_ai t.a_af):=by
 refine T.F_aI.ok1 sc_aI (fun vs H Q E h=>?_) (fun cdv A outer s H vs Q E hr h=>?_)
 ·obtain ⟨p,w,k,s,cs,rs,rfl,_⟩:=h; rfl
 ·obtain ⟨p,w,k,s,cs,rs,rfl,hc,h⟩:=h;obtain ⟨dx,a,b,e1,e2,e3⟩:=hc.ob;refine aI (aF (i:=3) sc_aI.nd rfl (Or.inl rfl) (bF (pv 0) T.cl_ai T.m_al (okx_al T) (hr.mono (by first | decide | omega)) T.b_al .nil aN (aa (pv 1) af))) fun _ _=>aI (aL (cJ (bS (aC (ok_aG T).up (hr.mono (by first | decide | omega)) rfl T.mg_aG T.F_aG.kp T.b_aG .nil aN (aa (pv 2) (aa (ax (bH K rfl) rfl T.no_len (by rfl) (aa (pv 3) af)) af))))) (aj (b8 T.mg_af T.x_af PySem.F.excBase_ValueError rfl rfl (fun _ _ _ _ _ _ _ _ I m q=>dE I m q) (aa av af))) aA) fun _ _=>cK (ay (ar (aq K rfl) (pv 3) (pv 2) (fun _ _=>rfl))) fun _ _=>?_;left;refine aw e1 (dH _ _ _ (by decide +kernel)) ?_;left;rcases h with ⟨bs,hw,h0,h1,q⟩ | ⟨⟨n1,n2⟩ | ⟨bs,hw,hn⟩,q⟩
  ·refine ⟨p,w,s,cs,rs,rfl,hc,.inl ⟨bs,hw,fun z hz=>?_⟩⟩;left;refine lI hz ?_;left;refine ⟨k,_,rfl,?_⟩;rw [List.length_map,decide_eq_true h0,decide_eq_true h1];left;refine ak (SqT.of hz) (cw h0 h1) ?_;exact q
  ·exact ⟨p,w,s,cs,rs,rfl,hc,.inr ⟨n1,n2,q⟩⟩
  ·refine ⟨p,w,s,cs,rs,rfl,hc,.inl ⟨bs,hw,fun z hz=>?_⟩⟩;left;refine lI hz ?_;left;refine ⟨k,_,rfl,?_⟩;rw [List.length_map]
   have e:(decide (0≤k)&&decide (k<(bs.length:Int)))=false:=by
    rw [Bool.eq_false_iff];intro z;rw [Bool.and_eq_true,decide_eq_true_eq,decide_eq_true_eq] at z;exact hn z
   rw [e];left;exact ⟨by show 1≤sizeLine; decide,q⟩
theorem xp {l:List Int} (h:∀ z∈l,z=0∨z=1):0≤l.sum∧l.sum≤l.length:=by
 induction l with
 | nil=>exact ⟨Int.le_refl 0,Int.le_refl 0⟩
 | cons z r ih =>
  have:=ih fun y hy=>h y (List.mem_cons_of_mem _ hy)
  rw [List.sum_cons,List.length_cons];rcases h z List.mem_cons_self with rfl | rfl<;>omega
theorem je {l:List Int} (h:∀ z∈l,z=0∨z=1) (hl:l.length≤1000):fS l:=fun k hk=>by
 refine ⟨?_,fun n hn=>?_⟩
 ·have:=xp (l:=l.take k) fun z hz=>h z (List.mem_of_mem_take hz)
  rw [List.length_take] at this;unfold InLong;omega
 ·unfold InLong;rcases h n hn with rfl | rfl<;>decide
theorem dF {zs:List Int} {x:Int} (h:0≤x):gp (zs.map V.int) none (some x)=(zs.take x.toNat).map V.int:=by
 obtain ⟨k,rfl⟩:∃ k:Nat,x=(k:Int):=⟨x.toNat,by omega⟩
 unfold gp;rw [HT.mM,HT.lK,List.drop_zero,Nat.sub_zero,Int.toNat_natCast,← List.map_take]
 congr 1
 rw [List.length_map];rcases Nat.le_total k zs.length with h | h
 ·rw [Nat.min_eq_left h]
 ·rw [Nat.min_eq_right h,List.take_of_length_le (Nat.le_refl _),List.take_of_length_le h]
def Ag (x y:Int) (cs rs:List Int):Prop:=(0≤x∧x<(cs.length:Int)+1)∧0≤y∧y<(rs.length:Int)+1
def rA (C NC:Addr):Sp:=fun vs H Q E=>∃ (p:Addr) (x y s:Int) (cs rs:List Int),vs=[.ref p,.int x,.int y]∧aR C H p s cs rs∧((Ag x y cs rs∧Q .non H)∨(¬ Ag x y cs rs∧E (.ref NC) none H))
theorem lu {x b:Int} (h:0≤x∧x<b):(decide (0≤x)&&decide (x<b))=true:=by rw [decide_eq_true h.1,decide_eq_true h.2]; rfl
theorem pH {x b:Int} (h:¬ (0≤x∧x<b)):(decide (0≤x)&&decide (x<b))=false:=by
 rw [Bool.eq_false_iff];intro z;rw [Bool.and_eq_true,decide_eq_true_eq,decide_eq_true_eq] at z;exact h z
theorem okx_a5 (T:Txt K mg t):aU P w K mg base (CX1 P w) 3 t.f_a5 t.d_a5 ["board","x","y"] (rA t.a_ai t.a_bp):=by
 refine T.F_a5.ok1 sc_a5 (fun vs H Q E h=>?_) (fun cdv A outer s H vs Q E hr h=>?_)
 ·obtain ⟨p,x,y,s,cs,rs,rfl,_⟩:=h; rfl
 ·obtain ⟨p,x,y,s,cs,rs,rfl,hc,h⟩:=h;obtain ⟨dx,a,b,e1,e2,e3⟩:=hc.ob;have nl:∀ {w h:Int} {m:Str},NoF m→(cfl s a b w h).lookup m=none:=fun x=>dH _ _ _ x;refine ⟨_,(aj (aL (PW.pt (jb (cJ (bS (aC (ok_aG T).up (hr.mono (by first | decide | omega)) rfl T.mg_aG T.F_aG.kp T.b_aG .nil aN (aa (pv 1) (aa (aT (pv 0) T.cl_ai T.m_ay (ok_ay T).up (hr.mono (by first | decide | omega)) T.b_ay .nil aN) af))))) (gI (cJ (bS (aC (ok_aG T).up (hr.mono (by first | decide | omega)) rfl T.mg_aG T.F_aG.kp T.b_aG .nil aN (aa (pv 2) (aa (aT (pv 0) T.cl_ai T.m_aD (ok_aD T).up (hr.mono (by first | decide | omega)) T.b_aD .nil aN) af)))))))) (aj (b8 T.mg_bp T.x_bp PySem.F.excBase_ValueError rfl rfl (fun _ _ _ _ _ _ _ _ I m q=>dE I m q) (aa av af))) aA)),?_⟩;left;refine aw e1 (nl (by decide +kernel)) ?_;left;refine ⟨p,s,cs,rs,rfl,hc,?_⟩;left;refine ⟨x,_,rfl,?_⟩;by_cases hx:0≤x∧x<(cs.length:Int)+1
  ·rw [lu hx];left;refine aw e1 (nl (by decide +kernel)) ?_;left;refine ⟨p,s,cs,rs,rfl,hc,?_⟩;left;refine ⟨y,_,rfl,?_⟩;by_cases hy:0≤y∧y<(rs.length:Int)+1
   ·rw [lu hy];left;rcases h with ⟨_,q⟩ | ⟨n,_⟩
    ·exact q
    ·exact absurd ⟨hx,hy⟩ n
   ·rw [pH hy];left;rcases h with ⟨n,_⟩ | ⟨_,q⟩
    ·exact absurd n.2 hy
    ·exact ⟨by show 1≤sizeLine; decide,q⟩
  ·rw [pH hx];left;rcases h with ⟨n,_⟩ | ⟨_,q⟩
   ·exact absurd n.1 hx
   ·exact ⟨by show 1≤sizeLine; decide,q⟩
def fz (s:Int) (cs rs:List Int) (x y:Int):Int:=(s+((cs.take x.toNat).sum+(rs.take y.toNat).sum+x*y))%2
def lg (C NC:Addr):Sp:=fun vs H Q E=>∃ (p:Addr) (x y s:Int) (cs rs:List Int),vs=[.ref p,.int x,.int y]∧aR C H p s cs rs∧bA cs∧bA rs ∧
 ((Ag x y cs rs∧∀ H',ai H H'→Q (.int (fz s cs rs x y)) H')∨(¬ Ag x y cs rs∧E (.ref NC) none H))
theorem okx_aq (T:Txt K mg t):aU P w K mg base (CX1 P w) 4 t.f_aq t.d_aq ["self","x","y"] (lg t.a_ai t.a_bp):=by
 refine T.F_aq.ok1 sc_aq (fun vs H Q E h=>?_) (fun cdv A outer s H vs Q E hr h=>?_)
 ·obtain ⟨p,x,y,s,cs,rs,rfl,_⟩:=h; rfl
 ·obtain ⟨p,x,y,s,cs,rs,rfl,hc,bc,br,h⟩:=h;obtain ⟨dx,a,b,e1,e2,e3⟩:=hc.ob;refine aI (aY (aC (okx_a5 T) (hr.mono (by first | decide | omega)) rfl T.mg_a5 T.F_a5.kp T.b_a5 .nil aN (aa (pv 0) (aa (pv 1) (aa (pv 2) af))))) fun _ _=>aI (aF (i:=3) sc_aq.nd rfl (Or.inl rfl) (aB aZ (aB aZ (ax (lB K rfl rfl) rfl T.no_sum (by rfl) (aa (bQ (vm K rfl) (bB K rfl (pv 0) rfl) cj (bZ (pv 1))) af)) (ax (lB K rfl rfl) rfl T.no_sum (by rfl) (aa (bQ (vm K rfl) (bB K rfl (pv 0) rfl) cj (bZ (pv 2))) af))) (aB gG (pv 1) (pv 2)))) fun _ _=>cK (ay (aB bh (aB aZ (bB K rfl (pv 0) rfl) (pv 3)) ag)) fun _ _=>?_;left;rcases h with ⟨i,k⟩ | ⟨n,q⟩
  ·obtain ⟨⟨x0,x1⟩,y0,y1⟩:=id i;refine ⟨p,x,y,s,cs,rs,rfl,hc,.inl ⟨i,?_⟩⟩;left;refine bD e1 T.cl_ai T.na_col_bits (xA _ _ _) ?_;left;refine yR e2 fun H1 u s1 hu=>?_;rw [dF x0] at hu;left;refine ve hu (je (fun z hz=>bc.2 z (List.mem_of_mem_take hz)) (by rw [List.length_take]; have:=bc.1; omega)) ?_;left;refine bD (s1 _ _ e1) T.cl_ai T.na_row_bits (xB _ _ _) ?_;left;refine yR (s1 _ _ e3) fun H2 v s2 hv=>?_;rw [dF y0] at hv;left;refine ve hv (je (fun z hz=>br.2 z (List.mem_of_mem_take hz)) (by rw [List.length_take]; have:=br.1; omega)) ?_;left;refine bR (.inl ⟨by omega,by have:=bc.1; omega⟩) ?_;left;refine bD (s2 _ _ (s1 _ _ e1)) T.cl_ai T.na_first_colour (Bi _ _ _) ?_;left;refine bR (by decide) ?_;exact k H2 (s1.trans s2)
  ·exact ⟨p,x,y,s,cs,rs,rfl,hc,.inr ⟨n,q⟩⟩
def sp_aq (C:Addr):Sp:=fun vs H Q _=>∃ (p:Addr) (x y s:Int) (cs rs:List Int),vs=[.ref p,.int x,.int y]∧aR C H p s cs rs∧bA cs∧bA rs∧0≤x∧x<cs.length+1∧0≤y∧y<rs.length+1 ∧
 ∀ H',ai H H'→Q (.int (fz s cs rs x y)) H'
theorem ok_aq (T:Txt K mg t):aU P w K mg base CX0 4 t.f_aq t.d_aq ["self","x","y"] (sp_aq t.a_ai) :=
 (okx_aq T).down fun vs H Q E hh=>by
  obtain ⟨p,x,y,s,cs,rs,e,hc,bc,br,x0,x1,y0,y1,k⟩:=hh;exact ⟨p,x,y,s,cs,rs,e,hc,bc,br,.inl ⟨⟨⟨x0,x1⟩,y0,y1⟩,k⟩⟩
def sp_ao (C:Addr):Sp:=fun vs H Q _=>∃ (p:Addr) (s:Int) (cs rs:List Int),vs=[.ref p]∧aR C H p s cs rs∧Q (.int s) H
theorem ok_ao (T:Txt K mg t):aU P w K mg base CX0 1 t.f_ao t.d_ao ["self"] (sp_ao t.a_ai):=by
 refine T.F_ao.ok sc_ao (fun vs H Q E h=>?_) (fun cdv A outer s H vs Q E hr h=>?_)
 ·obtain ⟨p,s,cs,rs,rfl,_⟩:=h; rfl
 ·obtain ⟨p,s,cs,rs,rfl,⟨dx,a,b,h1,h2,h3⟩,k⟩:=h;refine ⟨_,(aj (ay (bB K rfl (pv 0) rfl))),?_⟩;left;refine bD h1 T.cl_ai T.na_first_colour (Bi _ _ _) ?_;exact k
def sp_au (C:Addr):Sp:=fun vs H Q _=>∃ (p:Addr) (s:Int) (cs rs:List Int),vs=[.ref p]∧aR C H p s cs rs∧∀ l,H l=none→Q (.ref l) (upd H l (.lst (cs.map V.int)))
theorem ok_au (T:Txt K mg t):aU P w K mg base CX0 1 t.f_au t.d_au ["self"] (sp_au t.a_ai):=by
 refine T.F_au.ok sc_au (fun vs H Q E h=>?_) (fun cdv A outer s H vs Q E hr h=>?_)
 ·obtain ⟨p,s,cs,rs,rfl,_⟩:=h; rfl
 ·obtain ⟨p,s,cs,rs,rfl,⟨dx,a,b,h1,h2,h3⟩,k⟩:=h;refine ⟨_,(aj (ay (aW (dj K rfl) rfl T.no_list (by rfl) (aa (bB K rfl (pv 0) rfl) af)))),?_⟩;left;refine bD h1 T.cl_ai T.na_col_bits (xA _ _ _) ?_;left;exact ij h2 k
def sp_ar (C:Addr):Sp:=fun vs H Q _=>∃ (p:Addr) (s:Int) (cs rs:List Int),vs=[.ref p]∧aR C H p s cs rs∧∀ l,H l=none→Q (.ref l) (upd H l (.lst (rs.map V.int)))
theorem ok_ar (T:Txt K mg t):aU P w K mg base CX0 1 t.f_ar t.d_ar ["self"] (sp_ar t.a_ai):=by
 refine T.F_ar.ok sc_ar (fun vs H Q E h=>?_) (fun cdv A outer s H vs Q E hr h=>?_)
 ·obtain ⟨p,s,cs,rs,rfl,_⟩:=h; rfl
 ·obtain ⟨p,s,cs,rs,rfl,⟨dx,a,b,h1,h2,h3⟩,k⟩:=h;refine ⟨_,(aj (ay (aW (dj K rfl) rfl T.no_list (by rfl) (aa (bB K rfl (pv 0) rfl) af)))),?_⟩;left;refine bD h1 T.cl_ai T.na_row_bits (xB _ _ _) ?_;left;exact ij h3 k
def Sm (z:Int):Prop:=-1000000000000000000<z∧z<1000000000000000000
theorem lL {zs:List Int} {z:Int} (h:∀ y∈zs,Sm y) (hz:Sm z):∀ y∈zs++[z],Sm y:=fun y hy=>by
 rcases List.mem_append.mp hy with q | q
 ·exact h y q
 ·rw [List.mem_singleton.mp q]; exact hz
theorem uA (r:Int) {m:Int} (h0:0<m) (h1:m≤1000003):Sm (r%m):=by
 have:=Int.emod_nonneg r (by omega:m≠0)
 have:=Int.emod_lt_of_pos r h0
 unfold Sm; omega
def sp_bb (K:W.Frag):Sp:=fun vs H Q _=>∃ (a:Addr) (m:Nat) (ns:List Int),vs=[.ref a,.int m]∧SqL K H a (ns.map V.int)∧ns.length≤63∧m≤200 ∧
 ∀ (l:Addr) (zs:List Int) (H':Hp),ai H H'→H' l=some (.lst (zs.map V.int))→m≤zs.length→zs.length≤300→(∀ z∈zs,Sm z)→Q (.ref l) H'
theorem hG (zs:List Int) (z:Int):zs.map V.int++[V.int z]=(zs++[z]).map V.int:=by simp
theorem ok_bb (T:Txt K mg t):aU P w K mg base CX0 1 t.f_bb t.d_bb ["_law_script","_law_many"] (sp_bb K):=by
 refine T.F_bb.ok sc_bb (fun vs H Q E h=>?_) (fun cdv A outer s H vs Q E hr h=>?_)
 ·obtain ⟨a,m,ns,rfl,_⟩:=h; rfl
 ·obtain ⟨a,m,ns,rfl,hS,hl,hm,k⟩:=h;refine aI (aF (i:=2) sc_bb.nd rfl (Or.inl rfl) (bP af)) fun _ _=>aI (aF (i:=3) sc_bb.nd rfl (Or.inl rfl) ag) fun _ _=>aI (eQ PassesOwn.never rfl (dP (pv 0)) (bC (i:=4) sc_bb.nd rfl (Or.inl rfl)) (aJ (aF (i:=3) sc_bb.nd rfl (Or.inl rfl) (aB bh (aB aZ (aB gG (pv 3) ag) (pv 4)) ag)) (aJ (aF (i:=5) sc_bb.nd rfl (Or.inl rfl) (ax xr rfl T.no_abs (by rfl) (aa (pv 4) af))) (aJ (aL (aD kS (pv 5) (aB Cn ag ag) (aG _)) (aJ (aY (gR PySem.F.plainAttrs_list PySem.F.slot_list_append PySem.F.type_list_append bT (pv 2) (aa (pv 4) af))) (aj (aF (i:=5) sc_bb.nd rfl (Or.inl rfl) ag))) aA) (aj (sL PassesOwn.never (PW.pt (eR (aD mG (pv 5) ag (aG _)) (eJ (aD kS (ax (bH K rfl) rfl T.no_len (by rfl) (aa (pv 2) af)) (pv 1) (aG _))))) (aJ (aY (gR PySem.F.plainAttrs_list PySem.F.slot_list_append PySem.F.type_list_append bT (pv 2) (aa (aB bh (pv 5) ag) af))) (aj (aF (i:=5) sc_bb.nd rfl (Or.inl rfl) (aB gF (pv 5) ag)))))))))) fun _ _=>aI (sL PassesOwn.never (aD kS (ax (bH K rfl) rfl T.no_len (by rfl) (aa (pv 2) af)) (pv 1) (aG _)) (aJ (aF (i:=3) sc_bb.nd rfl (Or.inl rfl) (aB bh (aB aZ (aB gG (pv 3) ag) ag) ag)) (aj (aY (gR PySem.F.plainAttrs_list PySem.F.slot_list_append PySem.F.type_list_append bT (pv 2) (aa (aB bh (aB gG (pv 3) (pv 3)) ag) af)))))) fun _ _=>cK (ay (pv 2)) fun _ _=>?_;left;refine ⟨Nat.zero_le _,fun l hn=>?_⟩;left;have hz:∀ {zs:List Int},zs.length≤300→(zs.map V.int).length<sizeLine:=fun h=>by rw [List.length_map]; exact aP (by omega)
  refine ⟨⟨_,(ai.new hn).seq hS⟩,ki (K:=K) (a:=a) (xs:=ns.map V.int) (fun i σ' H'=>∃ (zs:List Int) (mix:Int) (c r:Option V),σ'=[some (.ref a),some (.int m),some (.ref l),some (.int mix),c,r]∧ai H H'∧H' l=some (.lst (zs.map V.int))∧zs.length≤i+m∧∀ z∈zs,Sm z)
   ⟨[],1,none,none,rfl,ai.new hn,ae,Nat.zero_le _,fun z hz=>by cases hz⟩ (fun i σ' H' _ ⟨_,_,_,_,_,s,_⟩=>s.seq hS) ?_ ?_⟩
  ·rintro i y σ' H' hi ⟨zs,mix,c,r,rfl,s1,e1,lz,sm⟩;have hil:i<ns.length:=by have:=(List.getElem?_eq_some_iff.mp hi).1; rwa [List.length_map] at this
   obtain ⟨z,rfl⟩:∃ z,y=V.int z:=by
    rw [List.getElem?_map] at hi
    cases e:ns[i]? with
    | none=>rw [e] at hi; cases hi
    | some z=>rw [e] at hi; exact ⟨z,(Option.some.inj hi).symm⟩
   left;refine bR (.inr ⟨by decide,by decide⟩) ?_;left;refine bR (by decide) ?_;left;refine bR ⟨by decide,by decide,by decide⟩ ?_;left;refine eY (fun hc=>?_) (fun _=>?_)
   ·have hc:=of_decide_eq_true hc
    have hcz:Sm z:=by
     unfold Sm;have e18:(10:Int) ^ 18=1000000000000000000:=by decide
     by_cases hz0:z<0
     ·rw [if_pos hz0] at hc; change -z<(10:Int) ^ 18 at hc; omega
     ·rw [if_neg hz0] at hc; change z<(10:Int) ^ 18 at hc; omega
    left;refine cF e1 ?_;left;refine bU e1 (hz (by omega)) ?_;rw [hG];left;refine ⟨fun n σ' H'=>∃ (zs:List Int) (mix:Int) (r:Int),σ'=[some (.ref a),some (.int m),some (.ref l),some (.int mix),some (.int z),some (.int r)]∧ai H H'∧H' l=some (.lst (zs.map V.int))∧zs.length≤i+1+m∧n=m - zs.length∧∀ z∈zs,Sm z,
     ⟨_,zs++[z],_,_,rfl,s1.later hn,ae,by rw [List.length_append,List.length_singleton]; omega,rfl,lL sm hcz⟩,?_⟩
    rintro n σ' H' ⟨zs,mix,r,rfl,s1,e1,lz,rfl,sm⟩;left;refine eY (fun _=>?_) (fun _=>?_)
    ·left;refine bI e1 ?_;left;rw [List.length_map];refine eY (fun h2=>?_) (fun h2=>?_)
     ·have h2:=of_decide_eq_true h2;refine ⟨fun σ' H'=>∃ (zs':List Int) (mix:Int) (r:Int),σ'=[some (.ref a),some (.int m),some (.ref l),some (.int mix),some (.int z),some (.int r)]∧ai H H'∧H' l=some (.lst (zs'.map V.int))∧zs'.length=zs.length+1∧∀ z∈zs',Sm z,?_,?_⟩
      ·rintro σ' H' ⟨zs',mix,r,rfl,s1,e1,lz',sm'⟩;exact ⟨m - zs'.length,by omega,zs',mix,r,rfl,s1,e1,by omega,rfl,sm'⟩
      ·left;refine cF e1 ?_;left;refine bR (by decide) ?_;left;refine bU e1 (hz (by omega)) ?_;rw [hG];left;refine bR ⟨by decide,by decide⟩ ?_;left;exact ⟨zs++[r%1000003],mix,_,rfl,s1.later hn,ae,by rw [List.length_append,List.length_singleton],lL sm (uA r (by decide) (by decide))⟩
     ·left;exact ⟨zs,mix,_,_,rfl,s1,e1,lz,sm⟩
    ·left;exact ⟨zs,mix,_,_,rfl,s1,e1,lz,sm⟩
   ·left;refine ⟨fun n σ' H'=>∃ (zs:List Int) (mix:Int) (r:Int),σ'=[some (.ref a),some (.int m),some (.ref l),some (.int mix),some (.int z),some (.int r)]∧ai H H'∧H' l=some (.lst (zs.map V.int))∧zs.length≤i+1+m∧n=m - zs.length∧∀ z∈zs,Sm z,
     ⟨_,zs,_,_,rfl,s1,e1,by omega,rfl,sm⟩,?_⟩
    rintro n σ' H' ⟨zs,mix,r,rfl,s1,e1,lz,rfl,sm⟩;left;refine eY (fun _=>?_) (fun _=>?_)
    ·left;refine bI e1 ?_;left;rw [List.length_map];refine eY (fun h2=>?_) (fun h2=>?_)
     ·have h2:=of_decide_eq_true h2;refine ⟨fun σ' H'=>∃ (zs':List Int) (mix:Int) (r:Int),σ'=[some (.ref a),some (.int m),some (.ref l),some (.int mix),some (.int z),some (.int r)]∧ai H H'∧H' l=some (.lst (zs'.map V.int))∧zs'.length=zs.length+1∧∀ z∈zs',Sm z,?_,?_⟩
      ·rintro σ' H' ⟨zs',mix,r,rfl,s1,e1,lz',sm'⟩;exact ⟨m - zs'.length,by omega,zs',mix,r,rfl,s1,e1,by omega,rfl,sm'⟩
      ·left;refine cF e1 ?_;left;refine bR (by decide) ?_;left;refine bU e1 (hz (by omega)) ?_;rw [hG];left;refine bR ⟨by decide,by decide⟩ ?_;left;exact ⟨zs++[r%1000003],mix,_,rfl,s1.later hn,ae,by rw [List.length_append,List.length_singleton],lL sm (uA r (by decide) (by decide))⟩
     ·left;exact ⟨zs,mix,_,_,rfl,s1,e1,lz,sm⟩
    ·left;exact ⟨zs,mix,_,_,rfl,s1,e1,lz,sm⟩
  ·rintro σ' H' ⟨zs,mix,c,r,rfl,s1,e1,lz,sm⟩;rw [List.length_map] at lz;left;refine ⟨fun n σ' H'=>∃ (zs:List Int) (mix:Int),σ'=[some (.ref a),some (.int m),some (.ref l),some (.int mix),c,r]∧(-(2 ^ 64)<mix∧mix<2 ^ 64∨True)∧ai H H'∧H' l=some (.lst (zs.map V.int))∧zs.length≤300∧n=m - zs.length∧∀ z∈zs,Sm z,
    ⟨_,zs,mix,rfl,.inr trivial,s1,e1,by omega,rfl,sm⟩,?_⟩
   rintro n σ' H' ⟨zs,mix,rfl,_,s1,e1,lz,rfl,sm⟩;left;refine bI e1 ?_;left;rw [List.length_map];refine eY (fun h2=>?_) (fun h2=>?_)
   ·have h2:=of_decide_eq_true h2;refine ⟨fun σ' H'=>∃ (zs':List Int) (mix:Int),σ'=[some (.ref a),some (.int m),some (.ref l),some (.int mix),c,r]∧ai H H'∧H' l=some (.lst (zs'.map V.int))∧zs'.length=zs.length+1∧∀ z∈zs',Sm z,?_,?_⟩
    ·rintro σ' H' ⟨zs',mix,rfl,s1,e1,lz',sm'⟩;exact ⟨m - zs'.length,by omega,zs',mix,rfl,.inr trivial,s1,e1,by omega,rfl,sm'⟩
    ·left;refine bR (.inr ⟨by decide,by decide⟩) ?_;left;refine bR (by decide) ?_;left;refine cF e1 ?_;left;refine bR (.inl ⟨by omega,by omega⟩) ?_;left;refine bR (by decide) ?_;left;refine bU e1 (hz (by omega)) ?_;rw [hG];left;exact ⟨zs++[_],_,rfl,s1.later hn,ae,by rw [List.length_append,List.length_singleton],lL sm (uA _ (by decide) (by decide))⟩
   ·have h2:¬ ((zs.length:Int)<m):=fun z=>h2 (decide_eq_true z);left;exact k l zs H' s1 e1 (by omega) (by omega) sm
def sp_bo:Sp:=fun vs H Q _=>∃ (n:Int) (m:Nat),vs=[.int n,.int m]∧m≤100∧∀ (l:Addr) (bs:List Int) (H':Hp),ai H H'→H l=none→H' l=some (.lst (bs.map V.int))→bs.length=m→(∀ z∈bs,z=0∨z=1)→Q (.ref l) H'
theorem DA (n:Int):n%2=0∨n%2=1:=by omega
theorem ok_bo (T:Txt K mg t):aU P w K mg base CX0 1 t.f_bo t.d_bo ["_law_number","_law_many"] sp_bo:=by
 refine T.F_bo.ok sc_bo (fun vs H Q E h=>?_) (fun cdv A outer s H vs Q E hr h=>?_)
 ·obtain ⟨n,m,rfl,_⟩:=h; rfl
 ·obtain ⟨n,m,rfl,hm,k⟩:=h;refine aI (aF (i:=2) sc_bo.nd rfl (Or.inl rfl) (bP af)) fun _ _=>aI (eQ PassesOwn.never rfl (eB rfl T.no_br (aa (pv 1) af)) (bC (i:=3) sc_bo.nd rfl (Or.inl rfl)) (aJ (aY (gR PySem.F.plainAttrs_list PySem.F.slot_list_append PySem.F.type_list_append bT (pv 2) (aa (aB bh (pv 0) ag) af))) (aj (aF (i:=0) sc_bo.nd rfl (Or.inl rfl) (aB gF (pv 0) ag))))) fun _ _=>cK (ay (pv 2)) fun _ _=>?_;left;refine ⟨Nat.zero_le _,fun l hn=>?_⟩;left;refine ⟨m,rfl,by omega,by omega,?_⟩;rw [Int.toNat_natCast];refine d9 (fun i σ' H'=>∃ (n:Int) (bs:List Int) (c:Option V),σ'=[some (.int n),some (.int m),some (.ref l),c]∧ai H H'∧H' l=some (.lst (bs.map V.int))∧bs.length=i∧∀ z∈bs,z=0∨z=1)
   ⟨n,[],none,rfl,ai.new hn,ae,rfl,fun z hz=>by cases hz⟩ ?_ ?_
  ·rintro i σ' H' hi ⟨n,bs,c,rfl,s1,e1,lb,hb⟩;left;refine cF e1 ?_;left;refine bR (by decide) ?_;left;refine bU e1 (by rw [List.length_map]; exact aP (by omega)) ?_;rw [hG];left;refine bR ⟨by decide,by decide⟩ ?_;left;refine ⟨_,bs++[n%2],_,rfl,s1.later hn,ae,by rw [List.length_append,List.length_singleton]; omega,fun z hz=>?_⟩;rcases List.mem_append.mp hz with h | h
   ·exact hb z h
   ·rw [List.mem_singleton.mp h]; exact DA n
  ·rintro σ' H' ⟨n,bs,c,rfl,s1,e1,lb,hb⟩;left;exact k l bs H' s1 hn e1 lb hb
def Eh (d:PyData):Prop:=(∃ i,d=.int i)∨(∃ b,d=.bool b)∨d=.none∨∃ x,d=.str x∧PyData.strOk x=true
def OkS (S:PyData→Prop) (d:PyData):Prop:=Eh d∨(∃ ds,d=.list ds∧ds.length≤1000∧∀ e∈ds,S e)∨∃ ds,d=.tuple ds∧ds.length≤1000∧∀ e∈ds,S e
def lM (S:PyData→Prop):Sp:=fun vs H Q _=>∃ (x y:V) (d:PyData),vs=[x,y]∧S d∧Rep H d x∧Rep H d y∧∀ H',ai H H'→Q (.bl true) H'
theorem iV {S:PyData→Prop} {n:Nat} (T:Txt K mg t) (G_ba:aU P w K mg base CX0 n t.f_ba t.d_ba ["_law_told_here","_law_due"] (lM S)):aU P w K mg base CX0 (n+1) t.f_ba t.d_ba ["_law_told_here","_law_due"] (lM (OkS S)):=by
 refine T.F_ba.ok sc_ba (fun vs H Q E h=>?_) (fun cdv A outer s H vs Q E hr h=>?_)
 ·obtain ⟨x,y,d,rfl,_⟩:=h; rfl
 ·obtain ⟨x,y,d,rfl,ok,rx,ry,k⟩:=h;refine aI (aL (PW.pt (jb (aD gQ (ax (bX K rfl) rfl T.no_bh (by rfl) (aa (pv 0) (aa (cT (v:=.ty "bool") rfl T.no_bool (by rfl:bootBuiltins "bool"=some (.type "bool")) rfl) af))) (ax (bX K rfl) rfl T.no_bh (by rfl) (aa (pv 1) (aa (cT (v:=.ty "bool") rfl T.no_bool (by rfl:bootBuiltins "bool"=some (.type "bool")) rfl) af))) (aG _)) (gI (aD gQ (ax (bX K rfl) rfl T.no_bh (by rfl) (aa (pv 0) (aa (cT (v:=.ty "int") rfl T.no_int (by rfl:bootBuiltins "int"=some (.type "int")) rfl) af))) (ax (bX K rfl) rfl T.no_bh (by rfl) (aa (pv 1) (aa (cT (v:=.ty "int") rfl T.no_int (by rfl:bootBuiltins "int"=some (.type "int")) rfl) af))) (aG _))))) (aj (ay h8)) aA) fun _ _=>aI (aL (PW.pt (jb (aD gQ (ax (bX K rfl) rfl T.no_bh (by rfl) (aa (pv 0) (aa (cT (v:=.ty "list") rfl T.no_list (by rfl:bootBuiltins "list"=some (.type "list")) rfl) af))) (ax (bX K rfl) rfl T.no_bh (by rfl) (aa (pv 1) (aa (cT (v:=.ty "list") rfl T.no_list (by rfl:bootBuiltins "list"=some (.type "list")) rfl) af))) (aG _)) (gI (aD gQ (ax (bX K rfl) rfl T.no_bh (by rfl) (aa (pv 0) (aa (cT (v:=.ty "tuple") rfl T.no_bf (by rfl:bootBuiltins "tuple"=some (.type "tuple")) rfl) af))) (ax (bX K rfl) rfl T.no_bh (by rfl) (aa (pv 1) (aa (cT (v:=.ty "tuple") rfl T.no_bf (by rfl:bootBuiltins "tuple"=some (.type "tuple")) rfl) af))) (aG _))))) (aj (ay h8)) aA) fun _ _=>aI (aL (PW.pt (eR (cJ (bS (ax (bX K rfl) rfl T.no_bh (by rfl) (aa (pv 1) (aa (cT (v:=.ty "list") rfl T.no_list (by rfl:bootBuiltins "list"=some (.type "list")) rfl) af))))) (eJ (cJ (bS (ax (bX K rfl) rfl T.no_bh (by rfl) (aa (pv 1) (aa (cT (v:=.ty "tuple") rfl T.no_bf (by rfl:bootBuiltins "tuple"=some (.type "tuple")) rfl) af)))))))) (aj (ay (ji (cO bJ (ax (bX K rfl) rfl T.no_bh (by rfl) (aa (pv 0) (aa (cT (v:=.ty "str") rfl T.no_str (by rfl:bootBuiltins "str"=some (.type "str")) rfl) af))) (ax (bX K rfl) rfl T.no_bh (by rfl) (aa (pv 1) (aa (cT (v:=.ty "str") rfl T.no_str (by rfl:bootBuiltins "str"=some (.type "str")) rfl) af))) (aG _)) (jj (cO (Cj hr.units) (pv 0) (pv 1) (aG _)))))) aA) fun _ _=>cK (ay (ji (cO bJ (ax (bH K rfl) rfl T.no_len (by rfl) (aa (pv 0) af)) (ax (bH K rfl) rfl T.no_len (by rfl) (aa (pv 1) af)) (aG _)) (jj (ax (lA K rfl rfl) rfl T.no_all (by rfl) (aa (fE (N:=["_law_one","_law_other"]) (cap:=[none,none]) rfl ⟨rfl,rfl,rfl,rfl,rfl,rfl⟩ (Aw rfl T.no_zip (aa (pv 0) (aa (pv 1) af))) (fun _ _ _=>(jL (n:=2) K rfl rfl (dv (bC (i:=0) (show (["_law_one","_law_other"]:List Str).Nodup by decide +kernel) rfl (Or.inl rfl)) (dv (bC (i:=1) (show (["_law_one","_law_other"]:List Str).Nodup by decide +kernel) rfl (Or.inl rfl)) jM)))) (fun _ _ _=>dQ) (fun _ _ _=>(aC G_ba (hr.mono (by first | decide | omega)) rfl T.mg_ba T.F_ba.kp T.b_ba .nil aS (aa (pv 0) (aa (pv 1) af))))) af))))) fun _ _=>?_;left;refine dD rx.ty (r6 d) ?_;left;refine dD ry.ty (r6 d) ?_;left;rw [decide_eq_true rfl];left;refine dD rx.ty (uY d) ?_;left;refine dD ry.ty (uY d) ?_;left;rw [decide_eq_true rfl];left;refine dD rx.ty (mh d) ?_;left;refine dD ry.ty (mh d) ?_;left;rw [decide_eq_true rfl];left;refine dD rx.ty (iR d) ?_;left;refine dD ry.ty (iR d) ?_;left;rw [decide_eq_true rfl];left;refine dD ry.ty (mh d) ?_;left;rcases ok with sc | ⟨ds,rfl,hl,hS⟩ | ⟨ds,rfl,hl,hS⟩
  ·have e1:isD "list" d=false:=by rcases sc with ⟨i,rfl⟩ | ⟨b,rfl⟩ | rfl | ⟨x,rfl,hx⟩<;>simp [isD]
   have e2:isD "tuple" d=false:=by rcases sc with ⟨i,rfl⟩ | ⟨b,rfl⟩ | rfl | ⟨x,rfl,hx⟩<;>simp [isD]
   rw [e1];left;refine dD ry.ty (iR d) ?_;rw [e2];left;refine dD rx.ty (uZ d) ?_;left;refine dD ry.ty (uZ d) ?_;left;rw [decide_eq_true rfl];left;have sd:SeqAt.shaped d=true:=by rcases sc with ⟨i,rfl⟩ | ⟨b,rfl⟩ | rfl | ⟨x,rfl,hx⟩<;>first | rfl | simp [SeqAt.shaped,PyData.canLay0,PyData.depth,hx]
   refine ⟨d,d,rx,ry,sd,sd,?_⟩;have e3:PyData.eqv d d=true:=by rcases sc with ⟨i,rfl⟩ | ⟨b,rfl⟩ | rfl | ⟨x,rfl,hx⟩<;>simp [PyData.eqv]
   rw [e3];exact k _ (ai.refl _)
  ·have e1:isD "list" (.list ds)=true:=by simp [isD]
   rw [e1];simp only [Rep] at rx ry;obtain ⟨a,xs,rfl,ha,ra⟩:=rx;obtain ⟨b,ys,rfl,hb,rb⟩:=ry;obtain ⟨l1,g1⟩:=il ra;obtain ⟨l2,g2⟩:=il rb;left;refine bI ha ?_;left;refine bI hb ?_;left;rw [decide_eq_true (by omega:(xs.length:Int)=ys.length)];left;refine ⟨a,b,rfl,.inl ⟨⟨_,SqL.of ha⟩,⟨_,SqL.of hb⟩,fun l hn=>?_⟩⟩;refine vJ (fun _=>.bl true) ha hb (by omega) (by omega) hn (fun i x y H' Q' ex ey s1 q=>?_) (fun H' s1 e=>?_)
   ·left;obtain ⟨d,hd,rd⟩:=g1 i x ex;obtain ⟨d',hd',rd'⟩:=g2 i y ey;rw [hd] at hd'
    cases hd';exact ⟨x,y,d,rfl,hS d (List.mem_of_getElem? hd),rd.mono s1,rd'.mono s1,q⟩
   ·left;have e':H' l=some (.lst (((List.range xs.length).map fun _=>true).map V.bl)):=by rw [e,List.map_map]; rfl
    refine mK e' ?_;have e4:((List.range xs.length).map fun _=>true).all id=true:=by simp
    rw [e4];exact k H' s1
  ·have e1:isD "list" (.tuple ds)=false:=by simp [isD]
   have e2:isD "tuple" (.tuple ds)=true:=by simp [isD]
   rw [e1];left;refine dD ry.ty (iR _) ?_;rw [e2];simp only [Rep] at rx ry;obtain ⟨a,xs,rfl,ha,ra⟩:=rx;obtain ⟨b,ys,rfl,hb,rb⟩:=ry;obtain ⟨l1,g1⟩:=il ra;obtain ⟨l2,g2⟩:=il rb;left;refine lI ha ?_;left;refine lI hb ?_;left;rw [decide_eq_true (by omega:(xs.length:Int)=ys.length)];left;refine ⟨a,b,rfl,.inr ⟨⟨_,SqT.of ha⟩,⟨_,SqT.of hb⟩,fun l hn=>?_⟩⟩;refine tU (fun _=>.bl true) ha hb (by omega) (by omega) hn (fun i x y H' Q' ex ey s1 q=>?_) (fun H' s1 e=>?_)
   ·left;obtain ⟨d,hd,rd⟩:=g1 i x ex;obtain ⟨d',hd',rd'⟩:=g2 i y ey;rw [hd] at hd'
    cases hd';exact ⟨x,y,d,rfl,hS d (List.mem_of_getElem? hd),rd.mono s1,rd'.mono s1,q⟩
   ·left;have e':H' l=some (.lst (((List.range xs.length).map fun _=>true).map V.bl)):=by rw [e,List.map_map]; rfl
    refine mK e' ?_;have e4:((List.range xs.length).map fun _=>true).all id=true:=by simp
    rw [e4];exact k H' s1
def Ok3:PyData→Prop:=OkS (OkS (OkS fun _=>False))
theorem ok_ba (T:Txt K mg t):aU P w K mg base CX0 3 t.f_ba t.d_ba ["_law_told_here","_law_due"] (lM Ok3) :=
 iV T (iV T (iV T ⟨fun vs H Q E h=>(by obtain ⟨_,_,_,_,h,_⟩:=h; exact h.elim),fun A outer s H args us vs Q E _ _ _ _ h=>(by obtain ⟨_,_,_,_,h,_⟩:=h; exact h.elim)⟩))
theorem u3 {S:PyData→Prop} (i:Int):OkS S (.int i):=.inl (.inl ⟨i,rfl⟩)
theorem Ao {S:PyData→Prop} {x:Str} (h:PyData.strOk x=true):OkS S (.str x):=.inl (.inr (.inr (.inr ⟨x,rfl,h⟩)))
theorem mn {S:PyData→Prop} {ns:List Int} (h:ns.length≤1000):OkS (OkS S) (.list (ns.map PyData.int)) :=
 .inr (.inl ⟨_,rfl,by rw [List.length_map]; exact h,fun e he=>by obtain ⟨i,_,rfl⟩:=List.mem_map.mp he; exact u3 i⟩)
end
theorem jE (s:Int) (cs rs:List Int) (x y:Int):fz s cs rs x y=0∨fz s cs rs x y=1:=by unfold fz; omega
section
variable {P:Program} {w:World} {K:W.Frag} {mg:Str→Option Value} {base:Heap} {t:Ad}
def shl (bs:List Int) (n:Int):List Int:=bs.map fun b=>(b+n)%2
theorem vj (bs:List Int) (n:Int):(shl bs n).length=bs.length:=by unfold shl; rw [List.length_map]
theorem jW {bs:List Int} (h:bA bs) (n:Int):bA (shl bs n):=⟨by rw [vj]; exact h.1,fun z hz=>by
 unfold shl at hz;obtain ⟨b,_,rfl⟩:=List.mem_map.mp hz;omega⟩
theorem A6 {bs:List Int} {n:Int} {k:Nat} (h:k<bs.length):(shl bs n).getD k 0=(bs.getD k 0+n)%2:=by
 unfold shl;rw [List.getD_eq_getElem?_getD,List.getD_eq_getElem?_getD,List.getElem?_map,List.getElem?_eq_getElem h];rfl
def sp_a9:Sp:=fun vs H Q _=>∃ (a:Addr) (n:Int) (bs:List Int),vs=[.ref a,.int n]∧H a=some (.lst (bs.map V.int))∧bs.length≤1000∧∀ l H',ai H H'→H l=none→H' l=some (.lst ((shl bs n).map V.int))→Q (.ref l) H'
theorem ok_a9 (T:Txt K mg t):aU P w K mg base CX0 1 t.f_a9 t.d_a9 ["bits","steps"] sp_a9:=by
 refine T.F_a9.ok sc_a9 (fun vs H Q E h=>?_) (fun cdv A outer s H vs Q E hr h=>?_)
 ·obtain ⟨a,n,bs,rfl,_⟩:=h; rfl
 ·obtain ⟨a,n,bs,rfl,ha,hl,k⟩:=h;refine ⟨_,(aj (ay (fE (N:=["bit","steps"]) (cap:=[none,some 1]) rfl ⟨rfl,rfl,rfl,rfl,rfl,rfl⟩ (dP (pv 0)) (fun _ _ _=>(bC (i:=0) (show (["bit","steps"]:List Str).Nodup by decide +kernel) rfl (Or.inl rfl))) (fun _ _ _=>dQ) (fun _ _ _=>(aB bh (aB aZ (pv 0) (pv 1)) ag))))),?_⟩;left;refine ⟨⟨_,SqL.of ha⟩,fun l hn=>?_⟩;refine lW (fun v=>match v with | .int i=>.int ((i+n)%2) | _=>.non) (SqL.of ha) (by rw [List.length_map]; exact hl) hn (fun x o H' Q' hx s1 q=>?_) (fun H' s1 e=>?_)
  ·obtain ⟨i,_,rfl⟩:=List.mem_map.mp hx;left;refine bR (by decide) ?_;exact q H' (ai.refl _)
  ·left;exact k l H' s1 hn (by rw [e,List.map_map]; unfold shl; rw [List.map_map]; rfl)
def sp_ap (C:Addr):Sp:=fun vs H Q _=>∃ (p:Addr) (s:Int) (cs rs:List Int),vs=[.ref p]∧aR C H p s cs rs∧(s=0∨s=1)∧bA cs∧bA rs∧∀ x H',ai H H'→aR C H' x s rs cs→Q (.ref x) H'
theorem ok_ap (T:Txt K mg t):aU P w K mg base CX0 8 t.f_ap t.d_ap ["cloth"] (sp_ap t.a_ai):=by
 refine T.F_ap.ok sc_ap (fun vs H Q E h=>?_) (fun cdv A outer s H vs Q E hr h=>?_)
 ·obtain ⟨p,s,cs,rs,rfl,_⟩:=h; rfl
 ·obtain ⟨p,s,cs,rs,rfl,hc,sh,bc,br,k⟩:=h;obtain ⟨dx,a,b,e1,e2,e3⟩:=hc.ob;have nl:∀ {w h:Int} {m:Str},NoF m→(cfl s a b w h).lookup m=none:=fun x=>dH _ _ _ x;refine ⟨_,(aj (ay (iT T.mk_ai (ok_aw T) (hr.mono (by first | decide | omega)) rfl T.mg_ai T.b_aw .nil aS (aa (aT (pv 0) T.cl_ai T.m_ao (ok_ao T) (hr.mono (by first | decide | omega)) T.b_ao .nil aS) (aa (aT (pv 0) T.cl_ai T.m_ar (ok_ar T) (hr.mono (by first | decide | omega)) T.b_ar .nil aS) (aa (aT (pv 0) T.cl_ai T.m_au (ok_au T) (hr.mono (by first | decide | omega)) T.b_au .nil aS) af)))))),?_⟩;left;refine aw e1 (nl (by decide +kernel)) ?_;left;refine ⟨p,s,cs,rs,rfl,hc,?_⟩;left;refine aw e1 (nl (by decide +kernel)) ?_;left;refine ⟨p,s,cs,rs,rfl,hc,fun l1 n1=>?_⟩;have s1:=ai.new (o:=HO.lst (rs.map V.int)) n1;left;refine aw (s1 _ _ e1) (nl (by decide +kernel)) ?_;left;refine ⟨p,s,cs,rs,rfl,hc.mono s1,fun l2 n2=>?_⟩;have s2:=ai.new (o:=HO.lst (cs.map V.int)) n2;left;intro x dx nx ndx nex;have s12:=s1.trans s2;have h1:=s2 _ _ (ae (H:=H) (a:=l1) (o:=HO.lst (rs.map V.int)));have h2:=ae (H:=upd H l1 (HO.lst (rs.map V.int))) (a:=l2) (o:=HO.lst (cs.map V.int));generalize upd (upd H l1 (HO.lst (rs.map V.int))) l2 (HO.lst (cs.map V.int))=H3 at h1 h2 s12 nx ndx ⊢;have s3:ai H3 (upd (upd H3 dx (.own x)) x (.ins t.a_ai dx [])):=(ai.new ndx).later nx;refine ⟨x,dx,l1,l2,s,rs,cs,rfl,ae,s3 _ _ h1,s3 _ _ h2,sh,br,bc,fun H4 kp hC=>⟨rfl,?_⟩⟩;exact k x H4 (fun b o e=>kp b o (s3 b o (s12 b o e)) (cy (s12 b o e) nx)) hC
theorem iS {C p dx c r:Addr} {H1 H4:Hp} (nx:H1 p=none) (ndx:H1 dx=none) (kp:∀ b o,upd (upd H1 dx (.own p)) p (.ins C dx []) b=some o→b≠p→H4 b=some o):ai H1 H4:=fun b o e =>
 kp b o (((ai.new ndx).later nx) b o e) (cy e nx)
theorem iQ {bs:List Int} (h:bA bs) (n:Nat):bA (bs.take n):=⟨by rw [List.length_take]; have:=h.1; omega,fun z hz=>h.2 z (List.mem_of_mem_take hz)⟩
theorem iP {bs:List Int} (h:bA bs) (n:Nat):bA (bs.drop n):=⟨by rw [List.length_drop]; have:=h.1; omega,fun z hz=>h.2 z (List.mem_of_mem_drop hz)⟩
theorem tR {bs:List Int} (h:bA bs) {k:Nat} (hk:k<bs.length):bs.getD k 0=0∨bs.getD k 0=1:=h.2 _ (L2.getD_mem hk)
def lV (w:Str) (cs rs bs cs' rs':List Int):Prop:=(w="col"∧cs'=bs∧rs'=rs)∨(w="row"∧cs'=cs∧rs'=bs)
def rB (C BS:Addr):Sp:=fun vs H Q E=>∃ (p l:Addr) (wy:Str) (s:Int) (cs rs bs cs' rs':List Int),vs=[.ref p,.str wy,.ref l]∧aR C H p s cs rs∧(s=0∨s=1)∧bA cs∧bA rs∧H l=some (.lst (bs.map V.int))∧bs.length≤1000∧(∀ z∈bs,z=0∨z=1)∧lV wy cs rs bs cs' rs' ∧
 ((bs.length≤39∧∀ x H',ai H H'→aR C H' x s cs' rs'→Q (.ref x) H')∨(¬ bs.length≤39∧∀ H',ai H H'→E (.ref BS) none H'))
theorem okx_aS (T:Txt K mg t):aU P w K mg base (CX1 P w) 8 t.f_aS t.d_aS ["cloth","way","bits"] (rB t.a_ai t.a_ac):=by
 refine T.F_aS.ok1 sc_aS (fun vs H Q E h=>?_) (fun cdv A outer s H vs Q E hr h=>?_)
 ·obtain ⟨p,l,wy,s,cs,rs,bs,cs',rs',rfl,_⟩:=h; rfl
 ·obtain ⟨p,l,wy,s,cs,rs,bs,cs',rs',rfl,hc,sh,bc,br,hl,lb,bb,hw,z⟩:=h;obtain ⟨dx,a,b,e1,e2,e3⟩:=hc.ob;have nl:∀ {w h:Int} {m:Str},NoF m→(cfl s a b w h).lookup m=none:=fun x=>dH _ _ _ x
  have ab:bs.all cq=true:=by
   rw [List.all_eq_true];intro z hz;rcases bb z hz with rfl | rfl<;>rfl
  have sb:cq s=true:=by rcases sh with rfl | rfl<;>rfl
  have lc:=bc.1;have lr:=br.1;refine ⟨_,(aJ (aL (aD bJ (pv 1) av (aG _)) (aj (ay (iT T.mk_ai (okx_aw T) (hr.mono (by first | decide | omega)) rfl T.mg_ai T.b_aw .nil aN (aa (aT (pv 0) T.cl_ai T.m_ao (ok_ao T).up (hr.mono (by first | decide | omega)) T.b_ao .nil aN) (aa (pv 2) (aa (aT (pv 0) T.cl_ai T.m_ar (ok_ar T).up (hr.mono (by first | decide | omega)) T.b_ar .nil aN) af)))))) aA) (aj (ay (iT T.mk_ai (okx_aw T) (hr.mono (by first | decide | omega)) rfl T.mg_ai T.b_aw .nil aN (aa (aT (pv 0) T.cl_ai T.m_ao (ok_ao T).up (hr.mono (by first | decide | omega)) T.b_ao .nil aN) (aa (aT (pv 0) T.cl_ai T.m_au (ok_au T).up (hr.mono (by first | decide | omega)) T.b_au .nil aN) (aa (pv 2) af))))))),?_⟩;left;rcases hw with ⟨rfl,rfl,rfl⟩ | ⟨rfl,rfl,rfl⟩
  ·rw [decide_eq_true (rfl:("col":Str)="col")];left;refine aw e1 (nl (by decide +kernel)) ?_;left;refine ⟨p,s,cs,_,rfl,hc,?_⟩;left;refine aw e1 (nl (by decide +kernel)) ?_;left;refine ⟨p,s,cs,_,rfl,hc,fun l1 n1=>?_⟩;have s1:=ai.new (o:=HO.lst (rs'.map V.int)) n1;have q1:=ae (H:=H) (a:=l1) (o:=HO.lst (rs'.map V.int));generalize upd H l1 (HO.lst (rs'.map V.int))=H1 at s1 q1 ⊢;left;intro x dxx nx ndx nex;have sM:ai H1 (upd (upd H1 dxx (.own x)) x (.ins t.a_ai dxx [])):=(ai.new ndx).later nx;refine ⟨x,dxx,l,l1,s,cs',rs',rfl,ae,sM _ _ (s1 _ _ hl),sM _ _ q1,lb,by omega,?_⟩;rcases z with ⟨l39,z⟩ | ⟨l39,z⟩
   ·refine .inr (.inr ⟨⟨l39,lr⟩,by unfold dZ; rw [sb,ab,br.all]; rfl,fun H4 kp hC=>⟨rfl,?_⟩⟩);exact z x H4 (s1.trans (iS (c:=0) (r:=0) nx ndx kp)) hC
   ·exact .inl ⟨fun q=>l39 q.1,z _ (s1.trans sM)⟩
  ·rw [decide_eq_false sO];left;refine aw e1 (nl (by decide +kernel)) ?_;left;refine ⟨p,s,_,rs,rfl,hc,?_⟩;left;refine aw e1 (nl (by decide +kernel)) ?_;left;refine ⟨p,s,_,rs,rfl,hc,fun l1 n1=>?_⟩;have s1:=ai.new (o:=HO.lst (cs'.map V.int)) n1;have q1:=ae (H:=H) (a:=l1) (o:=HO.lst (cs'.map V.int));generalize upd H l1 (HO.lst (cs'.map V.int))=H1 at s1 q1 ⊢;left;intro x dxx nx ndx nex;have sM:ai H1 (upd (upd H1 dxx (.own x)) x (.ins t.a_ai dxx [])):=(ai.new ndx).later nx;refine ⟨x,dxx,l1,l,s,cs',rs',rfl,ae,sM _ _ q1,sM _ _ (s1 _ _ hl),by omega,lb,?_⟩;rcases z with ⟨l39,z⟩ | ⟨l39,z⟩
   ·refine .inr (.inr ⟨⟨lc,l39⟩,by unfold dZ; rw [sb,ab,bc.all]; rfl,fun H4 kp hC=>⟨rfl,?_⟩⟩);exact z x H4 (s1.trans (iS (c:=0) (r:=0) nx ndx kp)) hC
   ·exact .inl ⟨fun q=>l39 q.2,z _ (s1.trans sM)⟩
theorem lV.of {w:Str} {cs rs bs:List Int} (h:fj w cs rs bs) (ns:List Int):∃ cs' rs',lV w cs rs ns cs' rs':=by
 rcases h with ⟨rfl,_⟩ | ⟨rfl,_⟩
 ·exact ⟨ns,rs,.inl ⟨rfl,rfl,rfl⟩⟩
 ·exact ⟨cs,ns,.inr ⟨rfl,rfl,rfl⟩⟩
theorem fj.bits {w:Str} {cs rs bs:List Int} (h:fj w cs rs bs) (bc:bA cs) (br:bA rs):bA bs:=by
 rcases h with ⟨_,rfl⟩ | ⟨_,rfl⟩
 ·exact bc
 ·exact br
def lZ (bs:List Int) (k:Nat):List Int:=bs.set k (1 - bs.getD k 0)
theorem oS {bs:List Int} {k:Nat} (h:bA bs) (hk:k<bs.length):bA (lZ bs k):=by
 unfold lZ;refine ⟨by rw [List.length_set]; exact h.1,fun z hz=>?_⟩;rcases List.mem_or_eq_of_mem_set hz with q | rfl
 ·exact h.2 z q
 ·rcases tR h hk with q | q<;>rw [q]<;>decide
def uF (C NL:Addr):Sp:=fun vs H Q E=>∃ (p:Addr) (wy:Str) (k s:Int) (cs rs:List Int),vs=[.ref p,.str wy,.int k]∧aR C H p s cs rs∧(s=0∨s=1)∧bA cs∧bA rs ∧
 ((∃ bs cs' rs',fj wy cs rs bs∧0≤k∧k<bs.length∧lV wy cs rs (lZ bs k.toNat) cs' rs'∧∀ x H',ai H H'→aR C H' x s cs' rs'→Q (.ref x) H')∨(rF wy k cs rs∧E (.ref NL) none H))
theorem okx_bi (T:Txt K mg t):aU P w K mg base (CX1 P w) 9 t.f_bi t.d_bi ["cloth","way","k"] (uF t.a_ai t.a_af):=by
 refine T.F_bi.ok1 sc_bi (fun vs H Q E h=>?_) (fun cdv A outer s H vs Q E hr h=>?_)
 ·obtain ⟨p,wy,k,s,cs,rs,rfl,_⟩:=h; rfl
 ·obtain ⟨p,wy,k,s,cs,rs,rfl,hc,sh,bc,br,h⟩:=h;obtain ⟨dx,a,b,e1,e2,e3⟩:=hc.ob;have nl:∀ {w h:Int} {m:Str},NoF m→(cfl s a b w h).lookup m=none:=fun x=>dH _ _ _ x;refine aI (aF (i:=3) sc_bi.nd rfl (Or.inl rfl) (aB fq ag (bF (pv 0) T.cl_ai T.m_aI (okx_aI T) (hr.mono (by first | decide | omega)) T.b_aI .nil aN (aa (pv 1) (aa (pv 2) af))))) fun _ _=>aI (aF (i:=4) sc_bi.nd rfl (Or.inl rfl) (aW (dj K rfl) rfl T.no_list (by rfl) (aa (bF (pv 0) T.cl_ai T.m_al (okx_al T) (hr.mono (by first | decide | omega)) T.b_al .nil aN (aa (pv 1) af)) af))) fun _ _=>aI (ky (pv 3) (uj (pv 4) (pv 2) mX)) fun _ _=>cK (ay (aC (okx_aS T) (hr.mono (by first | decide | omega)) rfl T.mg_aS T.F_aS.kp T.b_aS .nil aN (aa (pv 0) (aa (pv 1) (aa (pv 4) af))))) fun _ _=>?_;left;refine aw e1 (nl (by decide +kernel)) ?_;left;rcases h with ⟨bs,cs',rs',hw,h0,h1,w2,z⟩ | ⟨n,q⟩
  ·have bb:=hw.bits bc br;have lb:=bb.1;refine ⟨p,wy,k,s,cs,rs,rfl,hc,.inl ⟨bs,hw,h0,h1,?_⟩⟩;left;refine aw e1 (nl (by decide +kernel)) ?_;left;refine ⟨p,wy,s,cs,rs,rfl,hc,.inl ⟨bs,hw,fun ta hta=>?_⟩⟩;left;refine ij hta fun l1 n1=>?_;have s1:=ai.new (o:=HO.lst (bs.map V.int)) n1;left;have ik:ixN (bs.map V.int).length k=some k.toNat:=by unfold ixN; rw [if_pos h0,List.length_map,if_pos h1]
   refine lJ ae ik ?_;left;have e4:(bs.map V.int).set k.toNat (V.int (1 - bs.getD k.toNat 0))=(lZ bs k.toNat).map V.int:=by unfold lZ; rw [List.map_set]
   rw [lN,e4];have s2:=ai.new (o:=HO.lst ((lZ bs k.toNat).map V.int)) n1;have fb:=oS (k:=k.toNat) bb (by omega);exact ⟨p,l1,wy,s,cs,rs,_,cs',rs',rfl,hc.mono s2,sh,bc,br,ae,by have:=fb.1; omega,fb.2,w2,.inl ⟨fb.1,fun x H' s3 hX=>z x H' (s2.trans s3) hX⟩⟩
  ·exact ⟨p,wy,k,s,cs,rs,rfl,hc,.inr ⟨n,q⟩⟩
def fF (bs:List Int) (k:Nat) (b:Int):List Int:=bs.take k++b::bs.drop k
theorem wo (bs:List Int) (k:Nat) (b:Int) (h:k≤bs.length):(fF bs k b).length=bs.length+1:=by
 unfold fF;rw [List.length_append,List.length_take,List.length_cons,List.length_drop]; omega
theorem o8 {bs:List Int} {k:Nat} {b:Int} (h:∀ z∈bs,z=0∨z=1) (hb:b=0∨b=1):∀ z∈fF bs k b,z=0∨z=1:=fun z hz=>by
 unfold fF at hz;rcases List.mem_append.mp hz with q | q
 ·exact h z (List.mem_of_mem_take q)
 ·rcases List.mem_cons.mp q with rfl | q
  ·exact hb
  ·exact h z (List.mem_of_mem_drop q)
def Bc (C NL BB BS:Addr):Sp:=fun vs H Q E=>∃ (p:Addr) (wy:Str) (k bt s:Int) (cs rs:List Int),vs=[.ref p,.str wy,.int k,.int bt]∧aR C H p s cs rs∧(s=0∨s=1)∧bA cs∧bA rs ∧
  (((¬ wy="col"∧¬ wy="row")∧E (.ref NL) none H)∨∃ bs,fj wy cs rs bs ∧
    ((¬ (0≤k∧k<(bs.length:Int)+1)∧∀ H',ai H H'→E (.ref NL) none H')∨((0≤k∧k<(bs.length:Int)+1)∧cq bt=false∧∀ H',ai H H'→E (.ref BB) none H') ∨
     ((0≤k∧k<(bs.length:Int)+1)∧cq bt=true∧bs.length=39∧∀ H',ai H H'→E (.ref BS) none H') ∨
     ((0≤k∧k<(bs.length:Int)+1)∧cq bt=true∧bs.length<39∧∃ cs' rs',lV wy cs rs (fF bs k.toNat bt) cs' rs'∧∀ x H',ai H H'→aR C H' x s cs' rs'→Q (.ref x) H')))
theorem r0 {b:Int} (h:cq b=true):b=0∨b=1:=by
 unfold cq at h;rw [Bool.and_eq_true,decide_eq_true_eq,decide_eq_true_eq] at h;omega
theorem Aq (T:Txt K mg t):aU P w K mg base (CX1 P w) 9 t.f_put t.d_put ["cloth","way","k","bit"] (Bc t.a_ai t.a_af t.a_ah t.a_ac):=by
 refine T.F_put.ok1 zd (fun vs H Q E h=>?_) (fun cdv A outer s H vs Q E hr h=>?_)
 ·obtain ⟨p,wy,k,bt,s,cs,rs,rfl,_⟩:=h; rfl
 ·obtain ⟨p,wy,k,bt,s,cs,rs,rfl,hc,sh,bc,br,h⟩:=h;obtain ⟨dx,a,b,e1,e2,e3⟩:=hc.ob;have nl:∀ {w h:Int} {m:Str},NoF m→(cfl s a b w h).lookup m=none:=fun x=>dH _ _ _ x;refine aI (aF (i:=4) zd.nd rfl (Or.inl rfl) (aW (dj K rfl) rfl T.no_list (by rfl) (aa (bF (pv 0) T.cl_ai T.m_al (okx_al T) (hr.mono (by first | decide | omega)) T.b_al .nil aN (aa (pv 1) af)) af))) fun _ _=>aI (aL (cJ (bS (aC (ok_aG T).up (hr.mono (by first | decide | omega)) rfl T.mg_aG T.F_aG.kp T.b_aG .nil aN (aa (pv 2) (aa (aB aZ (ax (bH K rfl) rfl T.no_len (by rfl) (aa (pv 4) af)) ag) af))))) (aj (b8 T.mg_af T.x_af PySem.F.excBase_ValueError rfl rfl (fun _ _ _ _ _ _ _ _ I m q=>dE I m q) (aa av af))) aA) fun _ _=>aI (aL (cJ (bS (aC (ok_bn T).up (hr.mono (by first | decide | omega)) rfl T.mg_bn T.F_bn.kp T.b_bn .nil aN (aa (pv 3) af)))) (aj (b8 T.mg_ah T.x_ah PySem.F.excBase_ValueError rfl rfl (fun _ _ _ _ _ _ _ _ I m q=>dE I m q) (aa av af))) aA) fun _ _=>aI (aY (gR PySem.F.plainAttrs_list PySem.F.slot_list_insert PySem.F.type_list_insert v3 (pv 4) (aa (pv 2) (aa (pv 3) af)))) fun _ _=>cK (ay (aC (okx_aS T) (hr.mono (by first | decide | omega)) rfl T.mg_aS T.F_aS.kp T.b_aS .nil aN (aa (pv 0) (aa (pv 1) (aa (pv 4) af))))) fun _ _=>?_;left;refine aw e1 (nl (by decide +kernel)) ?_;left;rcases h with ⟨n,q⟩ | ⟨bs,hw,h⟩
  ·exact ⟨p,wy,s,cs,rs,rfl,hc,.inr ⟨n.1,n.2,q⟩⟩
  ·have bb:=hw.bits bc br;have lb:=bb.1;refine ⟨p,wy,s,cs,rs,rfl,hc,.inl ⟨bs,hw,fun ta hta=>?_⟩⟩;left;refine ij hta fun l1 n1=>?_;have s1:=ai.new (o:=HO.lst (bs.map V.int)) n1;left;refine bI ae ?_;rw [List.length_map];left;refine ⟨k,_,rfl,?_⟩;rcases h with ⟨n,q⟩ | ⟨hk,nb,q⟩ | ⟨hk,nb,l39,q⟩ | ⟨hk,nb,l39,cs',rs',w2,z⟩
   ·rw [pH n];left;exact ⟨by show 1≤sizeLine; decide,q _ s1⟩
   ·rw [lu hk];left;refine ⟨bt,rfl,?_⟩;rw [nb];left;exact ⟨by show 1≤sizeLine; decide,q _ s1⟩
   all_goals
    rw [lu hk];left;refine ⟨bt,rfl,?_⟩;rw [nb];left;refine cF ae ?_;left;obtain ⟨j,rfl⟩:∃ j:Nat,k=(j:Int):=⟨k.toNat,by omega⟩
    refine wA ae (by rw [List.length_map]; omega) (by rw [List.length_map]; omega) ?_;have e4:(bs.map V.int).take j++V.int bt::(bs.map V.int).drop j=(fF bs j bt).map V.int:=by unfold fF; rw [List.map_append,List.map_take,List.map_cons,List.map_drop]
    rw [lN,e4];left;have s2:=ai.new (o:=HO.lst ((fF bs j bt).map V.int)) n1;have pl:=wo bs j bt (by omega)
   ·obtain ⟨cs',rs',w2⟩:=lV.of hw (fF bs j bt);exact ⟨p,l1,wy,s,cs,rs,_,cs',rs',rfl,hc.mono s2,sh,bc,br,ae,by omega,o8 bb.2 (r0 nb),w2,.inr ⟨by omega,fun H' s3=>q H' (s2.trans s3)⟩⟩
   ·exact ⟨p,l1,wy,s,cs,rs,_,cs',rs',rfl,hc.mono s2,sh,bc,br,ae,by omega,o8 bb.2 (r0 nb),w2,.inl ⟨by omega,fun x H' s3 hX=>z x H' (s2.trans s3) hX⟩⟩
def Bb (C NL:Addr):Sp:=fun vs H Q E=>∃ (p:Addr) (wy:Str) (k s:Int) (cs rs:List Int),vs=[.ref p,.str wy,.int k]∧aR C H p s cs rs∧(s=0∨s=1)∧bA cs∧bA rs ∧
 ((∃ bs cs' rs',fj wy cs rs bs∧0≤k∧k<bs.length∧lV wy cs rs (bs.eraseIdx k.toNat) cs' rs'∧∀ x H',ai H H'→aR C H' x s cs' rs'→Q (.ref x) H')∨(rF wy k cs rs∧E (.ref NL) none H))
theorem Ap (T:Txt K mg t):aU P w K mg base (CX1 P w) 9 t.f_cut t.d_cut ["cloth","way","k"] (Bb t.a_ai t.a_af):=by
 refine T.F_cut.ok1 y9 (fun vs H Q E h=>?_) (fun cdv A outer s H vs Q E hr h=>?_)
 ·obtain ⟨p,wy,k,s,cs,rs,rfl,_⟩:=h; rfl
 ·obtain ⟨p,wy,k,s,cs,rs,rfl,hc,sh,bc,br,h⟩:=h;obtain ⟨dx,a,b,e1,e2,e3⟩:=hc.ob;have nl:∀ {w h:Int} {m:Str},NoF m→(cfl s a b w h).lookup m=none:=fun x=>dH _ _ _ x;refine aI (aY (bF (pv 0) T.cl_ai T.m_aI (okx_aI T) (hr.mono (by first | decide | omega)) T.b_aI .nil aN (aa (pv 1) (aa (pv 2) af)))) fun _ _=>aI (aF (i:=3) y9.nd rfl (Or.inl rfl) (aW (dj K rfl) rfl T.no_list (by rfl) (aa (bF (pv 0) T.cl_ai T.m_al (okx_al T) (hr.mono (by first | decide | omega)) T.b_al .nil aN (aa (pv 1) af)) af))) fun _ _=>aI (aY (gR PySem.F.plainAttrs_list PySem.F.slot_list_pop PySem.F.type_list_pop xX (pv 3) (aa (pv 2) af))) fun _ _=>cK (ay (aC (okx_aS T) (hr.mono (by first | decide | omega)) rfl T.mg_aS T.F_aS.kp T.b_aS .nil aN (aa (pv 0) (aa (pv 1) (aa (pv 3) af))))) fun _ _=>?_;left;refine aw e1 (nl (by decide +kernel)) ?_;left;rcases h with ⟨bs,cs',rs',hw,h0,h1,w2,z⟩ | ⟨n,q⟩
  ·have bb:=hw.bits bc br;have lb:=bb.1;refine ⟨p,wy,k,s,cs,rs,rfl,hc,.inl ⟨bs,hw,h0,h1,?_⟩⟩;left;refine aw e1 (nl (by decide +kernel)) ?_;left;refine ⟨p,wy,s,cs,rs,rfl,hc,.inl ⟨bs,hw,fun ta hta=>?_⟩⟩;left;refine ij hta fun l1 n1=>?_;left;refine cF ae ?_;left;obtain ⟨j,rfl⟩:∃ j:Nat,k=(j:Int):=⟨k.toNat,by omega⟩
   have hj:j<bs.length:=by omega
   refine yO ae (y:=V.int bs[j]) (by rw [List.getElem?_map,List.getElem?_eq_getElem hj]; rfl) (by rw [List.length_map]; omega) ?_;have e4:(bs.map V.int).eraseIdx j=(bs.eraseIdx j).map V.int:=(by rw [List.eraseIdx_eq_take_drop_succ,List.eraseIdx_eq_take_drop_succ,List.map_append,List.map_take,List.map_drop])
   rw [lN,e4];left;have s2:=ai.new (o:=HO.lst ((bs.eraseIdx j).map V.int)) n1;have le:(bs.eraseIdx j).length≤bs.length:=List.length_eraseIdx_le ..;have lb2:∀ z∈bs.eraseIdx j,z=0∨z=1:=fun z hz=>bb.2 z (List.mem_of_mem_eraseIdx hz);exact ⟨p,l1,wy,s,cs,rs,_,cs',rs',rfl,hc.mono s2,sh,bc,br,ae,by omega,lb2,w2,.inl ⟨by omega,fun x H' s3 hX=>z x H' (s2.trans s3) hX⟩⟩
  ·exact ⟨p,wy,k,s,cs,rs,rfl,hc,.inr ⟨n,q⟩⟩
def sp_aU (C:Addr):Sp:=fun vs H Q _=>∃ (p:Addr) (k:Nat) (s:Int) (cs rs:List Int),vs=[.ref p,.int k]∧aR C H p s cs rs∧(s=0∨s=1)∧bA cs∧bA rs∧k<cs.length ∧
 ∀ tp x y H',ai H H'→H' tp=some (.tup [.ref x,.ref y])→aR C H' x s (cs.take k) rs→aR C H' y (fz s cs rs ((k+1:Nat):Int) 0) (cs.drop (k+1)) (shl rs ((k+1:Nat):Int))→Q (.ref tp) H'
theorem ok_aU (T:Txt K mg t):aU P w K mg base CX0 9 t.f_aU t.d_aU ["cloth","k"] (sp_aU t.a_ai):=by
 refine T.F_aU.ok sc_aU (fun vs H Q E h=>?_) (fun cdv A outer s H vs Q E hr h=>?_)
 ·obtain ⟨p,k,s,cs,rs,rfl,_⟩:=h; rfl
 ·obtain ⟨p,k,s,cs,rs,rfl,hc,sh,bc,br,hk,z⟩:=h;have lc:=bc.1;have lr:=br.1;obtain ⟨dx,a,b,e1,e2,e3⟩:=hc.ob;have nl:∀ {w h:Int} {m:Str},NoF m→(cfl s a b w h).lookup m=none:=fun x=>dH _ _ _ x;refine aI (aF (i:=2) sc_aU.nd rfl (Or.inl rfl) (aB aZ (pv 1) ag)) fun _ _=>aI (aF (i:=3) sc_aU.nd rfl (Or.inl rfl) (iT T.mk_ai (ok_aw T) (hr.mono (by first | decide | omega)) rfl T.mg_ai T.b_aw .nil aS (aa (aT (pv 0) T.cl_ai T.m_ao (ok_ao T) (hr.mono (by first | decide | omega)) T.b_ao .nil aS) (aa (bQ (cf K rfl) (aT (pv 0) T.cl_ai T.m_au (ok_au T) (hr.mono (by first | decide | omega)) T.b_au .nil aS) cj (bZ (pv 1))) (aa (aT (pv 0) T.cl_ai T.m_ar (ok_ar T) (hr.mono (by first | decide | omega)) T.b_ar .nil aS) af))))) fun _ _=>aI (aF (i:=4) sc_aU.nd rfl (Or.inl rfl) (iT T.mk_ai (ok_aw T) (hr.mono (by first | decide | omega)) rfl T.mg_ai T.b_aw .nil aS (aa (bF (pv 0) T.cl_ai T.m_aq (ok_aq T) (hr.mono (by first | decide | omega)) T.b_aq .nil aS (aa (pv 2) (aa ag af))) (aa (bQ (cf K rfl) (aT (pv 0) T.cl_ai T.m_au (ok_au T) (hr.mono (by first | decide | omega)) T.b_au .nil aS) (bZ (pv 2)) cj) (aa (aC (ok_a9 T) (hr.mono (by first | decide | omega)) rfl T.mg_a9 T.F_a9.kp T.b_a9 .nil aS (aa (aT (pv 0) T.cl_ai T.m_ar (ok_ar T) (hr.mono (by first | decide | omega)) T.b_ar .nil aS) (aa (pv 2) af))) af))))) fun _ _=>cK (ay (bq (aa (pv 3) (aa (pv 4) af)))) fun _ _=>?_;left;rw [show ((k:Int)+1)=((k+1:Nat):Int) by omega];refine aw e1 (nl (by decide +kernel)) ?_;left;refine ⟨p,s,cs,rs,rfl,hc,?_⟩;left;refine aw e1 (nl (by decide +kernel)) ?_;left;refine ⟨p,s,cs,rs,rfl,hc,fun l1 n1=>?_⟩;have s1:=ai.new (o:=HO.lst (cs.map V.int)) n1;left;refine uv ae fun l2 n2=>?_;rw [dF (by omega:(0:Int)≤(k:Int)),Int.toNat_natCast];have s2:=ai.new (o:=HO.lst ((cs.take k).map V.int)) n2;have s12:=s1.trans s2;have q2:=ae (H:=upd H l1 (HO.lst (cs.map V.int))) (a:=l2) (o:=HO.lst ((cs.take k).map V.int));generalize upd (upd H l1 (HO.lst (cs.map V.int))) l2 (HO.lst ((cs.take k).map V.int))=H2 at s12 q2 ⊢;left;refine aw (s12 _ _ e1) (nl (by decide +kernel)) ?_;left;refine ⟨p,s,cs,rs,rfl,hc.mono s12,fun l3 n3=>?_⟩;have s3:=ai.new (o:=HO.lst (rs.map V.int)) n3;left;intro x dxx nx ndx nex;have sM:ai (upd H2 l3 (HO.lst (rs.map V.int))) (upd (upd (upd H2 l3 (HO.lst (rs.map V.int))) dxx (.own x)) x (.ins t.a_ai dxx [])):=(ai.new ndx).later nx;refine ⟨x,dxx,l2,l3,s,cs.take k,rs,rfl,ae,sM _ _ (s3 _ _ q2),sM _ _ ae,sh,iQ bc k,br,fun H4 kp hX=>⟨rfl,?_⟩⟩;have s4:ai H H4:=s12.trans (s3.trans (iS (c:=0) (r:=0) nx ndx kp));have hc4:=hc.mono s4;clear s1 s2 s12 s3 sM q2 kp nx ndx n1 n2 n3;left;have e14:=s4 _ _ e1;refine aw e14 (nl (by decide +kernel)) ?_;left;refine ⟨p,_,0,s,cs,rs,rfl,hc4,bc,br,by omega,by omega,by decide,by omega,fun H5 s5=>?_⟩;left;have s45:=s4.trans s5;refine aw (s5 _ _ e14) (nl (by decide +kernel)) ?_;left;refine ⟨p,s,cs,rs,rfl,hc4.mono s5,fun l5 n5=>?_⟩;have s6:=ai.new (o:=HO.lst (cs.map V.int)) n5;left;refine uv ae fun l6 n6=>?_;rw [c6];have s7:=ai.new (o:=HO.lst ((cs.drop (k+1)).map V.int)) n6;have s67:=s6.trans s7;have q6:=ae (H:=upd H5 l5 (HO.lst (cs.map V.int))) (a:=l6) (o:=HO.lst ((cs.drop (k+1)).map V.int));generalize upd (upd H5 l5 (HO.lst (cs.map V.int))) l6 (HO.lst ((cs.drop (k+1)).map V.int))=H7 at s67 q6 ⊢;left;refine aw (s67 _ _ (s5 _ _ e14)) (nl (by decide +kernel)) ?_;left;refine ⟨p,s,cs,rs,rfl,(hc4.mono s5).mono s67,fun l8 n8=>?_⟩;have s8:=ai.new (o:=HO.lst (rs.map V.int)) n8;left;refine ⟨l8,_,rs,rfl,ae,by omega,fun l9 H9 s9 n9 q9=>?_⟩;left;intro y dy ny ndy ney;have sN:ai H9 (upd (upd H9 dy (.own y)) y (.ins t.a_ai dy [])):=(ai.new ndy).later ny;refine ⟨y,dy,l6,l9,_,cs.drop (k+1),shl rs ((k+1:Nat):Int),rfl,ae,sN _ _ (s9 _ _ (s8 _ _ q6)),sN _ _ q9,jE _ _ _ _ _,iP bc (k+1),jW br _,fun HA kp hY=>⟨rfl,?_⟩⟩;have sA:ai H4 HA:=s5.trans (s67.trans (s8.trans (s9.trans (iS (c:=0) (r:=0) ny ndy kp))));left;refine ⟨by show 2≤sizeLine; decide,fun tp ntp=>?_⟩;have sB:=ai.new (o:=HO.tup [V.ref x,V.ref y]) ntp;exact z tp x y _ (s4.trans (sA.trans sB)) ae (hX.mono (sA.trans sB)) (hY.mono sB)
def uE (C NL:Addr):Sp:=fun vs H Q E=>∃ (p:Addr) (wy:Str) (k s:Int) (cs rs:List Int),vs=[.ref p,.str wy,.int k]∧aR C H p s cs rs∧(s=0∨s=1)∧bA cs∧bA rs ∧
 ((∃ bs,fj wy cs rs bs∧0≤k∧k<bs.length∧∀ tp x y H',ai H H'→H' tp=some (.tup [.ref x,.ref y])→(wy="col"→aR C H' x s (cs.take k.toNat) rs∧aR C H' y (fz s cs rs (k+1) 0) (cs.drop (k.toNat+1)) (shl rs (k+1)))→(wy="row"→aR C H' x s cs (rs.take k.toNat)∧aR C H' y (fz s rs cs (k+1) 0) (shl cs (k+1)) (rs.drop (k.toNat+1)))→Q (.ref tp) H')∨(rF wy k cs rs∧E (.ref NL) none H))
theorem okx_bj (T:Txt K mg t):aU P w K mg base (CX1 P w) 10 t.f_bj t.d_bj ["cloth","way","k"] (uE t.a_ai t.a_af):=by
 refine T.F_bj.ok1 sc_bj (fun vs H Q E h=>?_) (fun cdv A outer s H vs Q E hr h=>?_)
 ·obtain ⟨p,wy,k,s,cs,rs,rfl,_⟩:=h; rfl
 ·obtain ⟨p,wy,k,s,cs,rs,rfl,hc,sh,bc,br,h⟩:=h;obtain ⟨dx,a,b,e1,e2,e3⟩:=hc.ob;refine aI (aY (bF (pv 0) T.cl_ai T.m_aI (okx_aI T) (hr.mono (by first | decide | omega)) T.b_aI .nil aN (aa (pv 1) (aa (pv 2) af)))) fun _ _=>aI (aL (aD bJ (pv 1) av (aG _)) (aj (ay (aC (ok_aU T).up (hr.mono (by first | decide | omega)) rfl T.mg_aU T.F_aU.kp T.b_aU .nil aN (aa (pv 0) (aa (pv 2) af))))) aA) fun _ _=>aI (aF (i:=3) sc_bj.nd rfl (Or.inl rfl) (aC (ok_aU T).up (hr.mono (by first | decide | omega)) rfl T.mg_aU T.F_aU.kp T.b_aU .nil aN (aa (aC (ok_ap T).up (hr.mono (by first | decide | omega)) rfl T.mg_ap T.F_ap.kp T.b_ap .nil aN (aa (pv 0) af)) (aa (pv 2) af)))) fun _ _=>cK (ay (bq (aa (aC (ok_ap T).up (hr.mono (by first | decide | omega)) rfl T.mg_ap T.F_ap.kp T.b_ap .nil aN (aa (ar (aq K rfl) (pv 3) ag (fun _ _=>rfl)) af)) (aa (aC (ok_ap T).up (hr.mono (by first | decide | omega)) rfl T.mg_ap T.F_ap.kp T.b_ap .nil aN (aa (ar (aq K rfl) (pv 3) ag (fun _ _=>rfl)) af)) af)))) fun _ _=>?_;left;refine aw e1 (dH _ _ _ (by decide +kernel)) ?_;left;rcases h with ⟨bs,hw,h0,h1,z⟩ | ⟨n,q⟩
  ·refine ⟨p,wy,k,s,cs,rs,rfl,hc,.inl ⟨bs,hw,h0,h1,?_⟩⟩;obtain ⟨j,rfl⟩:∃ j:Nat,k=(j:Int):=⟨k.toNat,by omega⟩
   left;rcases hw with ⟨rfl,rfl⟩ | ⟨rfl,rfl⟩
   ·rw [decide_eq_true (rfl:("col":Str)="col")];left;exact ⟨p,j,s,_,rs,rfl,hc,sh,bc,br,by omega,fun tp x y H' s1 et hx hy=>z tp x y H' s1 et (fun _=>⟨hx,hy⟩) fun e=>absurd e.symm sO⟩
   ·rw [decide_eq_false sO];left;refine ⟨p,s,cs,_,rfl,hc,sh,bc,br,fun q H1 s1 hq=>?_⟩;left;refine ⟨q,j,s,_,cs,rfl,hq,sh,br,bc,by omega,fun tp x y H2 s2 et hx hy=>?_⟩;left;refine ak (SqT.of et) (v:=.ref x) rfl ?_;left;refine ⟨x,s,_,cs,rfl,hx,sh,iQ br j,bc,fun x' H3 s3 hx'=>?_⟩;left;refine ak (SqT.of (s3 _ _ et)) (v:=.ref y) rfl ?_;left;refine ⟨y,_,_,_,rfl,hy.mono s3,jE _ _ _ _ _,iP br (j+1),jW bc _,fun y' H4 s4 hy'=>?_⟩;left;refine ⟨by show 2≤sizeLine; decide,fun tq ntq=>?_⟩;have s5:=ai.new (o:=HO.tup [V.ref x',V.ref y']) ntq;exact z tq x' y' _ (s1.trans (s2.trans (s3.trans (s4.trans s5)))) ae (fun e=>absurd e sO) fun _=>⟨hx'.mono (s4.trans s5),hy'.mono s5⟩
  ·exact ⟨p,wy,k,s,cs,rs,rfl,hc,.inr ⟨n,q⟩⟩
def sp_a6 (C:Addr):Sp:=fun vs H Q _=>∃ (e:Addr) (n:Nat),vs=[.ref e,.int (n:Int)]∧n<100∧H e=some (fK e C none) ∧
 ∀ d,H d=none→d≠e→Q .non (upd (upd H d (XdO d [("at",.int (n:Int))])) e (fK e C (some d)))
theorem ok_a6 (T:Txt K mg t):aU P w K mg base CX0 1 t.f_a6 t.d_a6 ["self","at"] (sp_a6 t.a_ag):=by
 refine T.F_a6.ok sc_a6 (fun vs H Q E h=>?_) (fun cdv A outer s H vs Q E hr h=>?_)
 ·obtain ⟨e,n,rfl,_⟩:=h; rfl
 ·obtain ⟨e,n,rfl,hn,he,k⟩:=h;refine ⟨_,(aJ (aY (yd rfl T.mg_a3 T.bi_a3 (aa (pv 0) (aa (As (PEs.cons av (PEs.cons (Cq (pv 1)) (PEs.cons av PEs.nil))) (by decide)) af)))) (aj (Ax (pv 0) (pv 1) rfl))),?_⟩;left;refine yE ?_;left;refine AO ?_;refine ⟨_,rfl,by decide,?_⟩;refine CU ?_;left;refine ⟨n,rfl,hn,fun x1 l1=>⟨x1,rfl,l1,?_⟩⟩;refine ⟨_,rfl,by decide,fun x2=>?_⟩;left;refine ⟨e,t.a_ag,none,_,rfl,he,T.mx_ag.ei,?_⟩;left;refine yz ?_;left;exact ⟨e,t.a_ag,rfl,T.mx_ag.ei,T.nx_Unfit_at,.inl ⟨he,fun d hd ne=>k d hd ne⟩⟩
def gT (rs rs2:List Int) (n:Int) (k:Nat):Bool:=decide ((rs.getD k 0+n+rs2.getD k 0)%2=1)
theorem zV {rs rs2:List Int} {n:Int} {k:Nat} (b1:bA rs) (b2:bA rs2) (h1:k<rs.length) (h2:k<rs2.length):gT rs rs2 n k=!decide (rs2.getD k 0=(shl rs n).getD k 0):=by
 unfold gT;rw [A6 h1];have p:=tR b1 h1;have q:=tR b2 h2;generalize rs.getD k 0=x at p ⊢;generalize rs2.getD k 0=y at q ⊢;rw [← decide_not];exact decide_eq_decide.mpr (by omega)
def BR (cs rs cs2 rs2:List Int):Prop:=rs.length=rs2.length∧cs.length+cs2.length+1≤39
theorem oN {cs cs2:List Int} {b:Int} (h:bA cs) (h2:bA cs2) (hb:b=0∨b=1) (hl:cs.length+cs2.length+1≤39):bA (cs++b::cs2):=⟨by rw [List.length_append,List.length_cons]; omega,fun z hz=>by
 rcases List.mem_append.mp hz with q | q
 ·exact h.2 z q
 ·rcases List.mem_cons.mp q with rfl | q
  ·exact hb
  ·exact h2.2 z q⟩
def lT (BS UF:Addr) (s:Int) (cs rs:List Int) (s2:Int) (cs2 rs2:List Int) (H:Hp) (Q:List Int→Hp→Addr→Prop) (E:XK):Prop :=
 (¬ BR cs rs cs2 rs2→∀ H',ai H H'→E (.ref BS) none H') ∧
 (BR cs rs cs2 rs2→∀ k:Nat,k<rs.length→gT rs rs2 ((cs.length:Int)+1) k=true→(∀ j:Nat,j<k→gT rs rs2 ((cs.length:Int)+1) j=false)→∀ d H',ai H H'→H' d=some (XdO d [("at",.int (k:Int))])→E (.ref UF) (some d) H') ∧
 (BR cs rs cs2 rs2→(∀ j:Nat,j<rs.length→gT rs rs2 ((cs.length:Int)+1) j=false)→∀ x H',ai H H'→Q (cs++(fz s cs rs (cs.length:Nat) 0+s2)%2::cs2) H' x)
def ni (C BS UF:Addr):Sp:=fun vs H Q E=>∃ (p q:Addr) (s s2:Int) (cs rs cs2 rs2:List Int),vs=[.ref p,.ref q]∧aR C H p s cs rs∧aR C H q s2 cs2 rs2∧(s=0∨s=1)∧bA cs∧bA rs∧bA cs2∧bA rs2 ∧
 lT BS UF s cs rs s2 cs2 rs2 H (fun cs' H' x=>aR C H' x s cs' rs→Q (.ref x) H') E
theorem okx_aA (T:Txt K mg t):aU P w K mg base (CX1 P w) 9 t.f_aA t.d_aA ["one","other"] (ni t.a_ai t.a_ac t.a_ag):=by
  refine T.F_aA.ok1 sc_aA (fun vs H Q E h=>?_) (fun cdv A outer s H vs Q E hr h=>?_)
  · obtain ⟨p,q,s,s2,cs,rs,cs2,rs2,rfl,_⟩:=h; rfl
  · obtain ⟨p,q,s,s2,cs,rs,cs2,rs2,rfl,hp,hq,sh,bc,br,bc2,br2,zs,zu,z⟩:=h
    have lc:=bc.1;have lr:=br.1;have lc2:=bc2.1;have lr2:=br2.1;obtain ⟨dx,a,b,e1,e2,e3⟩:=hp.ob;obtain ⟨dx',a',b',f1,f2,f3⟩:=hq.ob;have nl:∀ {s:Int} {a b:Addr} {w h:Int} {m:Str},NoF m→(cfl s a b w h).lookup m=none:=fun x=>dH _ _ _ x;refine aI (aL (PW.pt (jb (aD gQ (aT (pv 0) T.cl_ai T.m_aD (ok_aD T).up (hr.mono (by first | decide | omega)) T.b_aD .nil aN) (aT (pv 1) T.cl_ai T.m_aD (ok_aD T).up (hr.mono (by first | decide | omega)) T.b_aD .nil aN) (aG _)) (gI (cJ (bS (aC (ok_bc T).up (hr.mono (by first | decide | omega)) rfl T.mg_bc T.F_bc.kp T.b_bc .nil aN (aa (aB aZ (aT (pv 0) T.cl_ai T.m_ay (ok_ay T).up (hr.mono (by first | decide | omega)) T.b_ay .nil aN) (aT (pv 1) T.cl_ai T.m_ay (ok_ay T).up (hr.mono (by first | decide | omega)) T.b_ay .nil aN)) af))))))) (aj (b8 T.mg_ac T.x_ac PySem.F.excBase_ValueError rfl rfl (fun _ _ _ _ _ _ _ _ I m q=>dE I m q) (aa av af))) aA) fun _ _=>aI (aF (i:=2) sc_aA.nd rfl (Or.inl rfl) (aC (ok_a9 T).up (hr.mono (by first | decide | omega)) rfl T.mg_a9 T.F_a9.kp T.b_a9 .nil aN (aa (aT (pv 0) T.cl_ai T.m_ar (ok_ar T).up (hr.mono (by first | decide | omega)) T.b_ar .nil aN) (aa (aT (pv 0) T.cl_ai T.m_ay (ok_ay T).up (hr.mono (by first | decide | omega)) T.b_ay .nil aN) af)))) fun _ _=>aI (eQ PassesOwn.leaving rfl (Au rfl T.no_bt (aa (aT (pv 1) T.cl_ai T.m_ar (ok_ar T).up (hr.mono (by first | decide | omega)) T.b_ar .nil aN) af)) (jL (n:=2) K rfl rfl (dv (bC (i:=3) sc_aA.nd rfl (Or.inl rfl)) (dv (bC (i:=4) sc_aA.nd rfl (Or.inl rfl)) jM))) (aj (aL (aD gQ (pv 4) (ar (aH K rfl) (pv 2) (pv 3) (fun _ _=>rfl)) (aG _)) (aj (wm T.mx_ag (ok_a6 T) (hr.mono (by first | decide | omega)) rfl T.mg_ag T.b_a6 rfl rfl (fun _ _ _ _ _ _ _ _ I a b c d e f g h=>vz I a b c d e f g h) (aa (pv 3) af))) aA))) fun _ _=>aI (aF (i:=5) sc_aA.nd rfl (Or.inl rfl) (aB bh (aB aZ (bF (pv 0) T.cl_ai T.m_aq (okx_aq T) (hr.mono (by first | decide | omega)) T.b_aq .nil aN (aa (aB fq (aT (pv 0) T.cl_ai T.m_ay (ok_ay T).up (hr.mono (by first | decide | omega)) T.b_ay .nil aN) ag) (aa ag af))) (aT (pv 1) T.cl_ai T.m_ao (ok_ao T).up (hr.mono (by first | decide | omega)) T.b_ao .nil aN)) ag)) fun _ _=>cK (ay (iT T.mk_ai (okx_aw T) (hr.mono (by first | decide | omega)) rfl T.mg_ai T.b_aw .nil aN (aa (aT (pv 0) T.cl_ai T.m_ao (ok_ao T).up (hr.mono (by first | decide | omega)) T.b_ao .nil aN) (aa (aB eP (aB eP (aT (pv 0) T.cl_ai T.m_au (ok_au T).up (hr.mono (by first | decide | omega)) T.b_au .nil aN) (bP (aa (pv 5) af))) (aT (pv 1) T.cl_ai T.m_au (ok_au T).up (hr.mono (by first | decide | omega)) T.b_au .nil aN)) (aa (aT (pv 0) T.cl_ai T.m_ar (ok_ar T).up (hr.mono (by first | decide | omega)) T.b_ar .nil aN) af))))) fun _ _=>?_;left;refine aw e1 (nl (by decide +kernel)) ?_;left;refine ⟨p,s,cs,rs,rfl,hp,?_⟩;left;refine aw f1 (nl (by decide +kernel)) ?_;left;refine ⟨q,s2,cs2,_,rfl,hq,?_⟩;left;by_cases hr2:rs.length=rs2.length
    rotate_left
    · rw [decide_eq_false (by omega:¬ ((rs.length:Int)+1=(rs2.length:Int)+1))]
      left;exact ⟨by show 1≤sizeLine; decide,zs (fun x=>hr2 x.1) _ (ai.refl _)⟩
    rw [decide_eq_true (by omega:((rs.length:Int)+1=(rs2.length:Int)+1))];left;refine aw e1 (nl (by decide +kernel)) ?_;left;refine ⟨p,s,cs,rs,rfl,hp,?_⟩;left;refine aw f1 (nl (by decide +kernel)) ?_;left;refine ⟨q,s2,cs2,_,rfl,hq,?_⟩;left;refine ⟨_,rfl,?_⟩;by_cases lj:cs.length+cs2.length+1≤39
    rotate_left
    · have es:fm ((cs.length:Int)+1+((cs2.length:Int)+1))=false:=by
        unfold fm;rw [decide_eq_false (by omega:¬ (cs.length:Int)+1+((cs2.length:Int)+1)<41),Bool.and_false]
      rw [es];left;exact ⟨by show 1≤sizeLine; decide,zs (fun x=>lj x.2) _ (ai.refl _)⟩
    have zu:=zu ⟨hr2,lj⟩;have z:=z ⟨hr2,lj⟩;clear zs
    have es:fm ((cs.length:Int)+1+((cs2.length:Int)+1))=true:=by
      unfold fm;rw [decide_eq_true (by omega),decide_eq_true (by omega)]; rfl
    rw [es];left;refine aw e1 (nl (by decide +kernel)) ?_;left;refine ⟨p,s,cs,rs,rfl,hp,fun l1 n1=>?_⟩;have s1:=ai.new (o:=HO.lst (rs.map V.int)) n1;left;refine aw (s1 _ _ e1) (nl (by decide +kernel)) ?_;left;refine ⟨p,s,cs,rs,rfl,hp.mono s1,?_⟩;left;refine ⟨l1,_,rs,rfl,ae,by omega,fun l2 H2 s2' n2 q2=>?_⟩;have s12:=s1.trans s2';clear s1 s2' n1 n2;left
    first | refine sQ ?_ | skip
    left;refine aw (s12 _ _ f1) (nl (by decide +kernel)) ?_;left;refine ⟨q,_,cs2,_,rfl,hq.mono s12,fun l3 n3=>?_⟩;have s3:=ai.new (o:=HO.lst (rs2.map V.int)) n3;have q3:=ae (H:=H2) (a:=l3) (o:=HO.lst (rs2.map V.int));generalize upd H2 l3 (HO.lst (rs2.map V.int))=H3 at s3 q3 ⊢;left;refine ⟨l3,rfl,⟨_,SqL.of q3⟩,?_⟩;have s13:=s12.trans s3;have q2:=s3 _ _ q2;refine vP (K:=K) (a:=l3) (xs:=rs2.map V.int) (fun i σ' H'=>∃ (o3 o4:Option V),σ'=[some (.ref p),some (.ref q),some (.ref l2),o3,o4,none]∧ai H3 H'∧∀ j:Nat,j<i→gT rs rs2 ((cs.length:Int)+1) j=false)
      ⟨none,none,rfl,ai.refl _,fun j hj=>absurd hj (Nat.not_lt_zero _)⟩ (fun i σ' H' _ ⟨_,_,_,s6,_⟩=>SqL.of (s6 _ _ q3)) ?_ ?_
    · rintro i x σ' H4 t4 hx ⟨o3,o4,rfl,s4,nb⟩ n4
      have hi:i<rs2.length:=by have:=(List.getElem?_eq_some_iff.mp hx).1; rwa [List.length_map] at this
      have ex:x=V.int (rs2.getD i 0):=by
        rw [List.getElem?_map,List.getElem?_eq_getElem hi] at hx;rw [List.getD_eq_getElem?_getD,List.getElem?_eq_getElem hi];exact (Option.some.inj hx).symm
      subst ex;have s5:=ai.new (o:=HO.tup [V.int (i:Nat),V.int (rs2.getD i 0)]) n4;refine iU ae rfl ?_;left;refine aQ (SqL.of (s5 _ _ (s4 _ _ q2))) (cw (i:=(i:Nat)) (by omega) (by rw [vj]; omega)) ?_;rw [Int.toNat_natCast];left;have bi:decide (rs2.getD i 0=(shl rs ((cs.length:Int)+1)).getD i 0)=!gT rs rs2 ((cs.length:Int)+1) i:=by rw [zV br br2 (by omega) hi,Bool.not_not]
      rw [bi]
      cases hb:gT rs rs2 ((cs.length:Int)+1) i with
      | false =>
        left;refine ⟨_,_,rfl,s4.trans s5,fun j hj=>?_⟩;by_cases h:j=i
        · rw [h]; exact hb
        · exact nb j (by omega)
      | true =>
        left;refine wC ?_;left;refine ⟨by show 1≤sizeLine; decide,fun e he=>⟨e,i,rfl,by omega,ae,fun d hd ne=>⟨rfl,some d,ae,?_⟩⟩⟩;rw [xF (C:=t.a_ag) he ne];have hd':upd H4 t4 (HO.tup [V.int (i:Nat),V.int (rs2.getD i 0)]) d=none:=by rw [au ne] at hd; exact hd
        exact zu i (by omega) hb nb d _ (s13.trans (s4.trans (s5.trans (ai.new hd')))) ae
    · rintro σ' H4 ⟨o3,o4,rfl,s4,nb⟩
      have z:=z (fun j hj=>nb j (by rw [List.length_map]; omega));clear nb zu;have s14:=s13.trans s4;clear s12 s13 s3 s4 q2 q3 n3;have hp4:=hp.mono s14;have hq4:=hq.mono s14;have e14:=s14 _ _ e1;have f14:=s14 _ _ f1;left;refine aw e14 (nl (by decide +kernel)) ?_;left;refine aw e14 (nl (by decide +kernel)) ?_;left;refine ⟨p,s,cs,rs,rfl,hp4,?_⟩;left;rw [show ((cs.length:Int)+1 - 1)=(cs.length:Nat) by omega];refine ⟨p,_,0,s,cs,rs,rfl,hp4,bc,br,.inl ⟨⟨⟨by omega,by omega⟩,by decide,by omega⟩,fun H5 s5=>?_⟩⟩;left;refine aw (s5 _ _ f14) (nl (by decide +kernel)) ?_;left;refine ⟨q,s2,cs2,_,rfl,hq4.mono s5,?_⟩;left;refine bR (by decide) ?_;have hb:(fz s cs rs (cs.length:Nat) 0+s2)%2=0∨(fz s cs rs (cs.length:Nat) 0+s2)%2=1:=by omega
      generalize (fz s cs rs (cs.length:Nat) 0+s2)%2=bw at hb z ⊢;have s15:=s14.trans s5;clear s14 hp4 hq4 e14 f14 s5;left;refine aw (s15 _ _ e1) (nl (by decide +kernel)) ?_;left;refine ⟨p,s,cs,rs,rfl,hp.mono s15,?_⟩;left;refine aw (s15 _ _ e1) (nl (by decide +kernel)) ?_;left;refine ⟨p,s,cs,rs,rfl,hp.mono s15,fun l4 n4=>?_⟩;have t4:=ai.new (o:=HO.lst (cs.map V.int)) n4;have q4:=ae (H:=H5) (a:=l4) (o:=HO.lst (cs.map V.int));generalize upd H5 l4 (HO.lst (cs.map V.int))=H6 at t4 q4 ⊢;left;refine ⟨by show 1≤sizeLine; decide,fun l5 n5=>?_⟩;have t5:=ai.new (o:=HO.lst [V.int bw]) n5;have q5:=ae (H:=H6) (a:=l5) (o:=HO.lst [V.int bw]);generalize upd H6 l5 (HO.lst [V.int bw])=H7 at t5 q5 ⊢;have small:∀ n:Nat,n≤100→n≤sizeLine:=fun n hn=>Nat.le_of_lt (aP (by omega));refine ur (t5 _ _ q4) q5 (small _ (by rw [List.length_map]; show _+1≤100; omega)) fun l6 n6=>?_;have t6:=ai.new (o:=HO.lst (cs.map V.int++[V.int bw])) n6;have q6:=ae (H:=H7) (a:=l6) (o:=HO.lst (cs.map V.int++[V.int bw]));generalize upd H7 l6 (HO.lst (cs.map V.int++[V.int bw]))=H8 at t6 q6 ⊢;have s18:=s15.trans (t4.trans (t5.trans t6));clear t4 t5 t6 q4 q5 n4 n5 n6 s15;left;refine aw (s18 _ _ f1) (nl (by decide +kernel)) ?_;left;refine ⟨q,s2,cs2,_,rfl,hq.mono s18,fun l7 n7=>?_⟩;have t7:=ai.new (o:=HO.lst (cs2.map V.int)) n7;have q7:=ae (H:=H8) (a:=l7) (o:=HO.lst (cs2.map V.int));generalize upd H8 l7 (HO.lst (cs2.map V.int))=H9 at t7 q7 ⊢;refine ur (t7 _ _ q6) q7 (small _ (by rw [List.length_append,List.length_map,List.length_map]; show _+1+_≤100; omega)) fun l8 n8=>?_;rw [show cs.map V.int++[V.int bw]++cs2.map V.int=(cs++bw::cs2).map V.int by rw [List.map_append,List.map_cons,List.append_assoc]; rfl];have t8:=ai.new (o:=HO.lst ((cs++bw::cs2).map V.int)) n8;have q8:=ae (H:=H9) (a:=l8) (o:=HO.lst ((cs++bw::cs2).map V.int));generalize upd H9 l8 (HO.lst ((cs++bw::cs2).map V.int))=HA at t8 q8 ⊢;have s1A:=s18.trans (t7.trans t8);left;refine aw (s1A _ _ e1) (nl (by decide +kernel)) ?_;left;refine ⟨p,s,cs,rs,rfl,hp.mono s1A,fun l9 n9=>?_⟩;have t9:=ai.new (o:=HO.lst (rs.map V.int)) n9;have q9:=ae (H:=HA) (a:=l9) (o:=HO.lst (rs.map V.int));generalize upd HA l9 (HO.lst (rs.map V.int))=HB at t9 q9 ⊢;left;intro x dxx nx ndx nex;have sM:ai HB (upd (upd HB dxx (.own x)) x (.ins t.a_ai dxx [])):=(ai.new ndx).later nx;have bj:=oN bc bc2 hb lj;refine ⟨x,dxx,l8,l9,s,cs++bw::cs2,rs,rfl,ae,sM _ _ (t9 _ _ q8),sM _ _ q9,by have:=bj.1; omega,by omega,.inr (.inr ⟨⟨bj.1,br.1⟩,bA.ok sh bj br,fun HC kp hX=>⟨rfl,?_⟩⟩)⟩;exact z x HC (s1A.trans (t9.trans (iS (c:=0) (r:=0) nx ndx kp))) hX
def Meets (wy:Str) (cs rs as bs:List Int):Prop:=(wy="col"∧as=rs∧bs=cs)∨(wy="row"∧as=cs∧bs=rs)
def kI (C BS UF NL:Addr):Sp:=fun vs H Q E=>∃ (p q:Addr) (wy:Str) (s s2:Int) (cs rs cs2 rs2:List Int),vs=[.ref p,.ref q,.str wy]∧aR C H p s cs rs∧aR C H q s2 cs2 rs2∧(s=0∨s=1)∧(s2=0∨s2=1)∧bA cs∧bA rs∧bA cs2∧bA rs2 ∧
 (wy="col"→lT BS UF s cs rs s2 cs2 rs2 H (fun cs' H' x=>aR C H' x s cs' rs→Q (.ref x) H') E) ∧
 (wy="row"→lT BS UF s rs cs s2 rs2 cs2 H (fun rs' H' x=>aR C H' x s cs rs'→Q (.ref x) H') E) ∧
 (¬ wy="col"→¬ wy="row"→E (.ref NL) none H)
theorem okx_az (T:Txt K mg t):aU P w K mg base (CX1 P w) 10 t.f_az t.d_az ["one","other","way"] (kI t.a_ai t.a_ac t.a_ag t.a_af):=by
 refine T.F_az.ok1 sc_az (fun vs H Q E h=>?_) (fun cdv A outer s H vs Q E hr h=>?_)
 ·obtain ⟨p,q,wy,s,s2,cs,rs,cs2,rs2,rfl,_⟩:=h; rfl
 ·obtain ⟨p,q,wy,s,s2,cs,rs,cs2,rs2,rfl,hp,hq,sh,sh2,bc,br,bc2,br2,hc,hrw,hn⟩:=h;refine aI (aL (aD bJ (pv 2) av (aG _)) (aj (ay (aC (okx_aA T) (hr.mono (by first | decide | omega)) rfl T.mg_aA T.F_aA.kp T.b_aA .nil aN (aa (pv 0) (aa (pv 1) af))))) aA) fun _ _=>aI (aL (aD bJ (pv 2) av (aG _)) (aj (ay (aC (ok_ap T).up (hr.mono (by first | decide | omega)) rfl T.mg_ap T.F_ap.kp T.b_ap .nil aN (aa (aC (okx_aA T) (hr.mono (by first | decide | omega)) rfl T.mg_aA T.F_aA.kp T.b_aA .nil aN (aa (aC (ok_ap T).up (hr.mono (by first | decide | omega)) rfl T.mg_ap T.F_ap.kp T.b_ap .nil aN (aa (pv 0) af)) (aa (aC (ok_ap T).up (hr.mono (by first | decide | omega)) rfl T.mg_ap T.F_ap.kp T.b_ap .nil aN (aa (pv 1) af)) af))) af)))) aA) fun _ _=>cK (b8 T.mg_af T.x_af PySem.F.excBase_ValueError rfl rfl (fun _ _ _ _ _ _ _ _ I m q=>dE I m q) (aa av af)) fun _ _=>?_;left;refine eY (fun h0=>?_) (fun h0=>?_)
  ·left;exact ⟨p,q,s,s2,cs,rs,cs2,rs2,rfl,hp,hq,sh,bc,br,bc2,br2,hc (of_decide_eq_true h0)⟩
  ·left;refine eY (fun h1=>?_) (fun h1=>?_)
   ·have ⟨zs,zu,z⟩:=hrw (of_decide_eq_true h1);left;refine ⟨p,s,cs,rs,rfl,hp,sh,bc,br,fun x1 H1 s1 hx1=>?_⟩;left;refine ⟨q,s2,cs2,rs2,rfl,hq.mono s1,sh2,bc2,br2,fun x2 H2 s2' hx2=>?_⟩;left;have s12:=s1.trans s2';refine ⟨x1,x2,s,s2,rs,cs,rs2,cs2,rfl,hx1.mono s2',hx2,sh,br,bc,br2,bc2,fun n H3 s3=>zs n H3 (s12.trans s3),fun o k hk b1 b2 d H3 s3 e3=>zu o k hk b1 b2 d H3 (s12.trans s3) e3,fun o nb x H3 s3 hx=>?_⟩;left;have bj:=oN br br2 (by omega:(fz s rs cs (rs.length:Nat) 0+s2)%2=0∨(fz s rs cs (rs.length:Nat) 0+s2)%2=1) o.2;exact ⟨x,s,_,cs,rfl,hx,sh,bj,bc,fun y H4 s4 hy=>z o nb y H4 (s12.trans (s3.trans s4)) hy⟩
   ·left;exact ⟨by show 1≤sizeLine; decide,hn (fun x=>h0 (decide_eq_true x)) fun x=>h1 (decide_eq_true x)⟩
def nX (c:Nat):Bool:=!decide ((sgn c).cps.toList<(("a":Str)).cps.toList)&&!decide ((("z":Str)).cps.toList<(sgn c).cps.toList)
def cm (x:Str):Bool:=decide (0<x.cps.size)&&decide (x.cps.size≤12)&&x.cps.toList.all nX
def sp_bl:Sp:=fun vs H Q _=>∃ x:Str,vs=[.str x]∧x.cps.size≤1000∧∀ H',ai H H'→Q (.bl (cm x)) H'
theorem ok_bl (T:Txt K mg t):aU P w K mg base CX0 1 t.f_bl t.d_bl ["name"] sp_bl:=by
 refine T.F_bl.ok sc_bl (fun vs H Q E h=>?_) (fun cdv A outer s H vs Q E hr h=>?_)
 ·obtain ⟨x,rfl,_⟩:=h; rfl
 ·obtain ⟨x,rfl,hz,k⟩:=h;refine ⟨_,(aj (ay (ji (mH kS Bs ag (ax pI rfl T.no_len (by rfl) (aa (pv 0) af)) (dA (v:=.int 12) rfl T.mg_LONGEST_NAME ⟨_,rfl⟩)) (jj (ax (lA K rfl rfl) rfl T.no_all (by rfl) (aa (fE (N:=["sign"]) (cap:=[none]) rfl ⟨rfl,rfl,rfl,rfl,rfl,rfl⟩ (u5 (pv 0)) (fun _ _ _=>(bC (i:=0) (show (["sign"]:List Str).Nodup by decide +kernel) rfl (Or.inl rfl))) (fun _ _ _=>dQ) (fun _ _ _=>(mH x5 x5 av (pv 0) av))) af)))))),?_⟩;have hz':x.length≤sizeLine:=Nat.le_trans hz (by decide);left;refine qv hz' ?_;left
  have e0:cm x=(decide ((0:Int)<(x.length:Nat))&&(decide (((x.length:Nat):Int)≤12)&&x.cps.toList.all nX)):=by
   have a1:decide (0<x.cps.size)=decide ((0:Int)<(x.length:Nat)):=decide_eq_decide.mpr (by show 0<x.cps.size↔(0:Int)<(x.cps.size:Nat); omega);have a2:decide (x.cps.size≤12)=decide (((x.length:Nat):Int)≤12):=decide_eq_decide.mpr (by show x.cps.size≤12↔((x.cps.size:Nat):Int)≤12; omega);unfold cm;rw [a1,a2,Bool.and_assoc]
  rw [e0] at k;generalize decide ((0:Int)<(x.length:Nat))=u1 at k ⊢
  cases u1 with
  | false =>
   left;exact k _ (ai.refl _)
  | true =>
   left;generalize decide (((x.length:Nat):Int)≤12)=u2 at k ⊢
   cases u2 with
   | false =>
    left;exact k _ (ai.refl _)
   | true =>
    left;refine ⟨x,rfl,fun l nl=>?_⟩;refine kN ((x.cps.toList.map nX).map V.bl) (by rw [List.length_map,List.length_map,Array.length_toList]) hz nl (fun i c y o H' Q' hc hy s5 q=>?_) (fun H1 s1 e1=>?_)
    ·rw [List.getElem?_map,List.getElem?_map,Array.getElem?_toList,hc] at hy
     cases hy;left;unfold nX at q;generalize decide ((sgn c).cps.toList<(("a":Str)).cps.toList)=v1 at q ⊢
     cases v1 with
     | true =>
      left;exact q _ (ai.refl _)
     | false =>
      left;exact q _ (ai.refl _)
    ·left;refine mK e1 ?_;left;rw [List.all_map];exact k H1 s1
abbrev Clo:=Int×List Int×List Int
abbrev Bk:=List (Str×Clo)
def NoT (H:Hp) (S:List Addr):Prop:=∀ x∈S,∀ xs,H x≠some (.tup xs)
theorem uQ {S:List Addr} {H H':Hp} (m:bN S H H') (n:NoT H S) {b:Addr} {xs:List V} (e:H b=some (.tup xs)):H' b=some (.tup xs):=m b _ e fun z=>n b z xs e
def fx (C:Addr) (H:Hp) (v:V) (c:Clo):Prop:=∃ x,v=.ref x∧aR C H x c.1 c.2.1 c.2.2∧(c.1=0∨c.1=1)∧bA c.2.1∧bA c.2.2
def PwB (C:Addr) (H:Hp) (kvs:List (Key×V)) (bk:Bk):Prop:=Paired (fun (kv:Key×V) (nc:Str×Clo)=>kv.1=Sum.inr nc.1∧fx C H kv.2 nc.2) kvs bk
def jB (C:Addr) (H:Hp) (d:Addr) (bk:Bk):Prop:=∃ kvs,H d=some (.dK kvs)∧PwB C H kvs bk
def PwD (C:Addr) (H:Hp) (ds:List Addr) (bks:List Bk):Prop:=ds.length=bks.length∧∀ (i:Nat) d bk,ds[i]?=some d→bks[i]?=some bk→jB C H d bk
abbrev Eg (m:Str):Prop:=(¬ m="cloths")∧(¬ m="ahead_of_deeds")∧¬ m="behind_undone"
structure CL (fs:List (Str×V)) (d la lb:Addr):Prop where
 c:fs.lookup ("cloths":Str)=some (.ref d)
 a:fs.lookup ("ahead_of_deeds":Str)=some (.ref la)
 b:fs.lookup ("behind_undone":Str)=some (.ref lb)
 no:∀ m,Eg m→fs.lookup m=none
 len:fs.length≤3
structure cg (C CH:Addr) (H:Hp) (p la lb:Addr) (past:List Bk) (now:Bk) (ahead:List Bk):Prop where
 ob:∃ dx fs d,H p=some (.ins CH dx fs)∧CL fs d la lb∧jB C H d now
 pa:∃ ds,H la=some (.lst (ds.map V.ref))∧PwD C H ds past
 ah:∃ ds,H lb=some (.lst (ds.map V.ref))∧PwD C H ds ahead
 ne:la≠lb
def Apt (C:Addr) (H:Hp) (S:List Addr):Prop:=∀ x∈S,(∀ xs,H x≠some (.tup xs))∧(∀ kvs,H x≠some (.dK kvs))∧∀ dx s a b w h,H x≠some (.ins C dx (cfl s a b w h))
theorem Apt.not {C:Addr} {H:Hp} {S:List Addr} (h:Apt C H S):NoT H S:=fun x hx=>(h x hx).1
theorem fx.but {C:Addr} {S:List Addr} {H H':Hp} {v:V} {c:Clo} (h:fx C H v c) (m:bN S H H') (n:Apt C H S):fx C H' v c:=by
 obtain ⟨x,rfl,hc,b⟩:=h;obtain ⟨dx,a,b',e1,e2,e3⟩:=hc.ob;exact ⟨x,rfl,⟨dx,a,b',m _ _ e1 fun z=>(n x z).2.2 _ _ _ _ _ _ e1,uQ m n.not e2,uQ m n.not e3⟩,b⟩
theorem PwB.but {C:Addr} {S:List Addr} {H H':Hp} {kvs:List (Key×V)} {bk:Bk} (h:PwB C H kvs bk) (m:bN S H H') (n:Apt C H S):PwB C H' kvs bk:=Paired.mapP h fun _ _ z=>⟨z.1,z.2.but m n⟩
theorem jB.but {C:Addr} {S:List Addr} {H H':Hp} {d:Addr} {bk:Bk} (h:jB C H d bk) (m:bN S H H') (n:Apt C H S):jB C H' d bk:=by
 obtain ⟨kvs,e,p⟩:=h;exact ⟨kvs,m _ _ e fun z=>(n d z).2.1 _ e,p.but m n⟩
theorem PwD.but {C:Addr} {S:List Addr} {H H':Hp} {ds:List Addr} {bks:List Bk} (h:PwD C H ds bks) (m:bN S H H') (n:Apt C H S):PwD C H' ds bks:=⟨h.1,fun i d bk h1 h2=>(h.2 i d bk h1 h2).but m n⟩
theorem Apt.nil {C:Addr} {H:Hp}:Apt C H []:=fun x hx=>nomatch hx
theorem jB.mono {C:Addr} {H H':Hp} {d:Addr} {bk:Bk} (s:ai H H') (h:jB C H d bk):jB C H' d bk:=h.but (s.butL []) Apt.nil
theorem PwD.mono {C:Addr} {H H':Hp} {ds:List Addr} {bks:List Bk} (s:ai H H') (h:PwD C H ds bks):PwD C H' ds bks:=h.but (s.butL []) Apt.nil
theorem cg.mono {C CH:Addr} {H H':Hp} {p la lb:Addr} {past ahead:List Bk} {now:Bk} (s:ai H H') (h:cg C CH H p la lb past now ahead):cg C CH H' p la lb past now ahead :=
 ⟨let ⟨dx,fs,d,e1,e2,e3⟩:=h.ob; ⟨dx,fs,d,s _ _ e1,e2,e3.mono s⟩,let ⟨ds,e1,e2⟩:=h.pa; ⟨ds,s _ _ e1,e2.mono s⟩,let ⟨ds,e1,e2⟩:=h.ah; ⟨ds,s _ _ e1,e2.mono s⟩,h.ne⟩
theorem B5 {s w h:Int} {a b:Addr}:(cfl s a b w h).lookup ("cloths":Str)=none:=dH _ _ _ (by decide +kernel)
theorem cg.apt {C CH:Addr} {H:Hp} {p la lb:Addr} {past ahead:List Bk} {now:Bk} (h:cg C CH H p la lb past now ahead):Apt C H [p,la,lb]:=fun x hx=>by
 obtain ⟨dx,fs,d,e1,cl,_⟩:=h.ob;obtain ⟨ds,e2,_⟩:=h.pa;obtain ⟨as,e3,_⟩:=h.ah;simp only [List.mem_cons,List.not_mem_nil,or_false] at hx;rcases hx with rfl | rfl | rfl
 ·rw [e1];refine ⟨fun _ z=>(by cases z),fun _ z=>(by cases z),fun dx' s a b w h z=>?_⟩;injection z with z;injection z with _ _ z;have:=cl.c
  rw [z,B5] at this
  cases this
 ·rw [e2];exact ⟨fun _ z=>(by cases z),fun _ z=>(by cases z),fun _ _ _ _ _ _ z=>(by cases z)⟩
 ·rw [e3];exact ⟨fun _ z=>(by cases z),fun _ z=>(by cases z),fun _ _ _ _ _ _ z=>(by cases z)⟩
def sp_at (C CH:Addr):Sp:=fun vs H Q _=>∃ (p la lb:Addr) (past ahead:List Bk) (now:Bk),vs=[.ref p]∧cg C CH H p la lb past now ahead∧Q (.int (past.length:Nat)) H
theorem ok_at (T:Txt K mg t):aU P w K mg base CX0 1 t.f_at t.d_at ["self"] (sp_at t.a_ai t.a_ae):=by
 refine T.F_at.ok sc_at (fun vs H Q E h=>?_) (fun cdv A outer s H vs Q E hr h=>?_)
 ·obtain ⟨p,la,lb,past,ahead,now,rfl,_⟩:=h; rfl
 ·obtain ⟨p,la,lb,past,ahead,now,rfl,hc,q⟩:=h;obtain ⟨dx,fs,d,e1,cl,_⟩:=hc.ob;obtain ⟨ds,e2,e3,_⟩:=hc.pa;refine ⟨_,(aj (ay (ax (bH K rfl) rfl T.no_len (by rfl) (aa (bB K rfl (pv 0) rfl) af)))),?_⟩;left;refine bD e1 T.cl_ae T.naC_ahead_of_deeds cl.a ?_;left;refine bI e2 ?_;rw [List.length_map,e3];left;exact q
def sp_as (C CH:Addr):Sp:=fun vs H Q _=>∃ (p la lb:Addr) (past ahead:List Bk) (now:Bk),vs=[.ref p]∧cg C CH H p la lb past now ahead∧Q (.int (ahead.length:Nat)) H
theorem ok_as (T:Txt K mg t):aU P w K mg base CX0 1 t.f_as t.d_as ["self"] (sp_as t.a_ai t.a_ae):=by
 refine T.F_as.ok sc_as (fun vs H Q E h=>?_) (fun cdv A outer s H vs Q E hr h=>?_)
 ·obtain ⟨p,la,lb,past,ahead,now,rfl,_⟩:=h; rfl
 ·obtain ⟨p,la,lb,past,ahead,now,rfl,hc,q⟩:=h;obtain ⟨dx,fs,d,e1,cl,_⟩:=hc.ob;obtain ⟨ds,e2,e3,_⟩:=hc.ah;refine ⟨_,(aj (ay (ax (bH K rfl) rfl T.no_len (by rfl) (aa (bB K rfl (pv 0) rfl) af)))),?_⟩;left;refine bD e1 T.cl_ae T.naC_behind_undone cl.b ?_;left;refine bI e2 ?_;rw [List.length_map,e3];left;exact q
def dM (bk:Bk):List V:=bk.map fun nc=>V.str nc.1
theorem PwB.keys {C:Addr} {H:Hp} {kvs:List (Key×V)} {bk:Bk} (h:PwB C H kvs bk):kvs.map (·.1)=bk.map fun nc=>Sum.inr nc.1:=by
 induction h with
 | nil=>rfl
 | cons r _ ih=>rw [List.map_cons,List.map_cons,ih,r.1]
def sp_aB (C CH:Addr):Sp:=fun vs H Q _=>∃ (p la lb:Addr) (past ahead:List Bk) (now:Bk),vs=[.ref p]∧cg C CH H p la lb past now ahead∧∀ l,H l=none→Q (.ref l) (upd H l (.lst (dM now)))
theorem ok_aB (T:Txt K mg t):aU P w K mg base CX0 1 t.f_aB t.d_aB ["self"] (sp_aB t.a_ai t.a_ae):=by
 refine T.F_aB.ok sc_aB (fun vs H Q E h=>?_) (fun cdv A outer s H vs Q E hr h=>?_)
 ·obtain ⟨p,la,lb,past,ahead,now,rfl,_⟩:=h; rfl
 ·obtain ⟨p,la,lb,past,ahead,now,rfl,hc,q⟩:=h;obtain ⟨dx,fs,d,e1,cl,kvs,e2,pw⟩:=hc.ob;refine ⟨_,(aj (ay (aW (fT rfl) rfl T.no_list (by rfl) (aa (bB K rfl (pv 0) rfl) af)))),?_⟩;left;refine bD e1 T.cl_ae T.naC_cloths cl.c ?_;left;refine ⟨d,kvs,rfl,e2,fun l nl=>?_⟩
  have e:(kvs.map fun p=>kV p.1)=dM now:=by
   have:=congrArg (List.map kV) pw.keys
   rw [List.map_map,List.map_map] at this;exact this
  rw [e];left;exact q l nl
def aO (bk:Bk) (n:Str):Option Clo:=(bk.find? fun nc=>decide (nc.1=n)).map (·.2)
def bW (bk:Bk) (n:Str) (c:Clo):Bk:=if (bk.any fun nc=>decide (nc.1=n))=true then bk.map (fun nc=>if nc.1=n then (nc.1,c) else nc) else bk++[(n,c)]
def fN (bk:Bk) (n:Str):Bk:=bk.filter fun nc=>decide (nc.1≠n)
theorem dJ {k:Key} {a n:Str} (h:k=Sum.inr a):k=Sum.inr n↔a=n:=by subst h; exact ⟨fun z=>by injection z,fun z=>by rw [z]⟩
section
variable {C:Addr} {H:Hp} {kvs:List (Key×V)} {bk:Bk}
theorem PwB.get (h:PwB C H kvs bk) (n:Str):(dW kvs (Sum.inr n)=none∧aO bk n=none)∨∃ v c,dW kvs (Sum.inr n)=some v∧aO bk n=some c∧fx C H v c:=by
 induction h with
 | nil=>exact .inl ⟨rfl,rfl⟩
 | @cons p nc ps ncs r _ ih =>
  by_cases e:nc.1=n
  ·exact .inr ⟨p.2,nc.2,gj ((dJ r.1).mpr e),by unfold aO; rw [List.find?_cons_of_pos (by simpa using e)]; rfl,r.2⟩
  ·have e1:dW (p::ps) (Sum.inr n)=dW ps (Sum.inr n):=gi fun z=>e ((dJ r.1).mp z);have e2:aO (nc::ncs) n=aO ncs n:=by unfold aO; rw [List.find?_cons_of_neg (by simpa using e)]
   rw [e1,e2]; exact ih
theorem PwB.any (h:PwB C H kvs bk) (n:Str):(kvs.any fun kv=>decide (kv.1=Sum.inr n))=bk.any fun nc=>decide (nc.1=n):=by
 induction h with
 | nil=>rfl
 | cons r _ ih =>
  rw [List.any_cons,List.any_cons,ih]
  congr 1
  exact decide_eq_decide.mpr (dJ r.1)
theorem PwB.set (h:PwB C H kvs bk) {n:Str} {v:V} {c:Clo} (hv:fx C H v c):PwB C H (kvs.map fun kv=>if kv.1=Sum.inr n then (kv.1,v) else kv) (bk.map fun nc=>if nc.1=n then (nc.1,c) else nc):=by
 induction h with
 | nil=>exact .nil
 | cons r _ ih =>
  refine .cons ?_ ih
  rename_i p nc _ _ _;dsimp only;by_cases e:nc.1=n
  ·rw [if_pos ((dJ r.1).mpr e),if_pos e]; exact ⟨r.1,hv⟩
  ·rw [if_neg (fun z=>e ((dJ r.1).mp z)),if_neg e]; exact r
theorem PwB.snoc (h:PwB C H kvs bk) {n:Str} {v:V} {c:Clo} (hv:fx C H v c):PwB C H (kvs++[(Sum.inr n,v)]) (bk++[(n,c)]):=Paired.snoc h ⟨rfl,hv⟩
theorem PwB.put (h:PwB C H kvs bk) (n:Str) {v:V} {c:Clo} (hv:fx C H v c):PwB C H (cH kvs (Sum.inr n) v) (bW bk n c):=by
 unfold cH bW;rw [h.any n]
 split
 ·exact h.set hv
 ·exact h.snoc hv
theorem PwB.drop (h:PwB C H kvs bk) (n:Str):PwB C H (eV kvs (Sum.inr n)) (fN bk n):=by
 unfold eV fN
 induction h with
 | nil=>exact .nil
 | cons r _ ih =>
  rename_i p nc _ _ _;by_cases e:nc.1=n
  ·rw [List.filter_cons_of_neg (by simpa using (dJ r.1).mpr e),List.filter_cons_of_neg (by simpa using e)]; exact ih
  ·rw [List.filter_cons_of_pos (by simpa using fun z=>e ((dJ r.1).mp z)),List.filter_cons_of_pos (by simpa using e)]; exact .cons r ih
end
def ng (C CH NC:Addr):Sp:=fun vs H Q E=>∃ (p la lb:Addr) (past ahead:List Bk) (now:Bk) (n:Str),vs=[.ref p,.str n]∧cg C CH H p la lb past now ahead ∧
 ((aO now n=none∧E (.ref NC) none H)∨∃ c,aO now n=some c∧∀ v,fx C H v c→Q v H)
theorem okx_am (T:Txt K mg t):aU P w K mg base (CX1 P w) 1 t.f_am t.d_am ["self","name"] (ng t.a_ai t.a_ae t.a_ab):=by
 refine T.F_am.ok1 sc_am (fun vs H Q E h=>?_) (fun cdv A outer s H vs Q E hr h=>?_)
 ·obtain ⟨p,la,lb,past,ahead,now,n,rfl,_⟩:=h; rfl
 ·obtain ⟨p,la,lb,past,ahead,now,n,rfl,hc,q⟩:=h;obtain ⟨dx,fs,d,e1,cl,kvs,e2,pw⟩:=hc.ob;refine ⟨_,(aJ (aL (ib (fW (cP hr) (pv 1) (bB K rfl (pv 0) rfl))) (aj (b8 T.mg_ab T.x_ab PySem.F.excBase_ValueError rfl rfl (fun _ _ _ _ _ _ _ _ I m q=>dE I m q) (aa av af))) aA) (aj (ay (gH (cP hr) (bB K rfl (pv 0) rfl) (pv 1) (fun _ _=>rfl))))),?_⟩;left;refine bD e1 T.cl_ae T.naC_cloths cl.c ?_;left;refine ⟨d,_,rfl,dB.k (k:=Sum.inr n) e2,?_⟩;rcases pw.get n with ⟨g1,g2⟩ | ⟨v,c,g1,g2,g3⟩
  ·rw [g1,Option.isSome_none];left;rcases q with ⟨_,q⟩ | ⟨c,z,_⟩
   ·exact ⟨by show 1≤sizeLine; decide,q⟩
   ·rw [g2] at z; cases z
  ·rw [g1,Option.isSome_some];left;refine bD e1 T.cl_ae T.naC_cloths cl.c ?_;left;rcases q with ⟨z,_⟩ | ⟨c',z,q⟩
   ·rw [g2] at z; cases z
   ·rw [g2] at z
    cases z;exact ⟨d,v,rfl,by rw [← g1]; exact dB.k (k:=Sum.inr n) e2,q v g3⟩
def sp_am (C CH:Addr):Sp:=fun vs H Q _=>∃ (p la lb:Addr) (past ahead:List Bk) (now:Bk) (n:Str) (c:Clo),vs=[.ref p,.str n]∧cg C CH H p la lb past now ahead∧aO now n=some c∧∀ v,fx C H v c→Q v H
theorem ok_am (T:Txt K mg t):aU P w K mg base CX0 1 t.f_am t.d_am ["self","name"] (sp_am t.a_ai t.a_ae) :=
 (okx_am T).down fun vs H Q E hh=>by
  obtain ⟨p,la,lb,past,ahead,now,n,c,e,hc,g,k⟩:=hh;exact ⟨p,la,lb,past,ahead,now,n,e,hc,.inr ⟨c,g,k⟩⟩
def jZ (C CH BN TK:Addr):Sp:=fun vs H Q E=>∃ (p la lb:Addr) (past ahead:List Bk) (now:Bk) (n:Str),vs=[.ref p,.str n]∧n.cps.size≤1000∧cg C CH H p la lb past now ahead ∧
 (cm n=false→∀ H',ai H H'→E (.ref BN) none H')∧(cm n=true→(aO now n).isSome=true→∀ H',ai H H'→E (.ref TK) none H')∧(cm n=true→aO now n=none→∀ H',ai H H'→Q .non H')
theorem okx_an (T:Txt K mg t):aU P w K mg base (CX1 P w) 2 t.f_an t.d_an ["self","name"] (jZ t.a_ai t.a_ae t.a_ad t.a_ak):=by
 refine T.F_an.ok1 sc_an (fun vs H Q E h=>?_) (fun cdv A outer s H vs Q E hr h=>?_)
 ·obtain ⟨p,la,lb,past,ahead,now,n,rfl,_⟩:=h; rfl
 ·obtain ⟨p,la,lb,past,ahead,now,n,rfl,hz,hc,k1,k2,k3⟩:=h;refine ⟨_,(aJ (aL (cJ (bS (aC (ok_bl T).up (hr.mono (by first | decide | omega)) rfl T.mg_bl T.F_bl.kp T.b_bl .nil aN (aa (pv 1) af)))) (aj (b8 T.mg_ad T.x_ad PySem.F.excBase_ValueError rfl rfl (fun _ _ _ _ _ _ _ _ I m q=>dE I m q) (aa av af))) aA) (aj (aL (ib (ui (cP hr) (pv 1) (bB K rfl (pv 0) rfl))) (aj (b8 T.mg_ak T.x_ak PySem.F.excBase_ValueError rfl rfl (fun _ _ _ _ _ _ _ _ I m q=>dE I m q) (aa av af))) aA))),?_⟩;left;refine ⟨n,rfl,hz,fun H1 s1=>?_⟩
  cases hn:cm n with
  | false =>
   left;exact ⟨by show 1≤sizeLine; decide,k1 hn H1 s1⟩
  | true =>
   obtain ⟨dx,fs,d,e1,cl,kvs,e2,pw⟩:=(hc.mono s1).ob;left;refine bD e1 T.cl_ae T.naC_cloths cl.c ?_;left;refine ⟨d,_,rfl,dB.k (k:=Sum.inr n) e2,?_⟩;rcases pw.get n with ⟨g1,g2⟩ | ⟨v,c,g1,g2,g3⟩
   ·rw [g1,Option.isSome_none];left;exact k3 hn g2 H1 s1
   ·rw [g1,Option.isSome_some];left;exact ⟨by show 1≤sizeLine; decide,k2 hn (by rw [g2]; rfl) H1 s1⟩
theorem jN {f:Str} {v:V}:∀ {fs:List (Str×V)},(fs.lookup f).isSome=true→(cG f v fs).length=fs.length
 | [],h=>by cases h
 | (g,x)::r,h=>by
  unfold cG;by_cases e:g=f
  ·rw [if_pos e]; rfl
  ·rw [if_neg e,List.length_cons,List.length_cons,jN (fs:=r) ?_];have hb:(f==g)=false:=beq_eq_false_iff_ne.mpr fun z=>e z.symm
   simpa only [List.lookup,hb] using h
theorem CL.setC {fs:List (Str×V)} {d d' la lb:Addr} (h:CL fs d la lb):CL (cG "cloths" (.ref d') fs) d' la lb where
 c:=by rw [az,if_pos rfl]
 a:=by rw [az,if_neg (by decide +kernel)]; exact h.a
 b:=by rw [az,if_neg (by decide +kernel)]; exact h.b
 no:=fun m z=>by rw [az,if_neg z.1]; exact h.no m z
 len:=by rw [jN (by rw [h.c]; rfl)]; exact h.len
theorem CL.setB {fs:List (Str×V)} {d la lb lb':Addr} (h:CL fs d la lb):CL (cG "behind_undone" (.ref lb') fs) d la lb' where
 c:=by rw [az,if_neg (by decide +kernel)]; exact h.c
 a:=by rw [az,if_neg (by decide +kernel)]; exact h.a
 b:=by rw [az,if_pos rfl]
 no:=fun m z=>by rw [az,if_neg z.2.2]; exact h.no m z
 len:=by rw [jN (by rw [h.b]; rfl)]; exact h.len
theorem PwD.snoc {C:Addr} {H:Hp} {ds:List Addr} {bks:List Bk} {d:Addr} {bk:Bk} (h:PwD C H ds bks) (hd:jB C H d bk):PwD C H (ds++[d]) (bks++[bk]):=by
 refine ⟨by rw [List.length_append,List.length_append,h.1]; rfl,fun i d' bk' h1 h2=>?_⟩;by_cases c:i<ds.length
 ·rw [List.getElem?_append_left c] at h1;rw [List.getElem?_append_left (by rw [← h.1]; exact c)] at h2;exact h.2 i d' bk' h1 h2
 ·rw [List.getElem?_append_right (by omega)] at h1;rw [List.getElem?_append_right (by rw [← h.1]; omega),← h.1] at h2
  have hi:i - ds.length=0:=by
   have:=(List.getElem?_eq_some_iff.mp h1).1
   rw [List.length_singleton] at this; omega
  rw [hi] at h1 h2
  cases h1
  cases h2;exact hd
theorem PwD.nil {C:Addr} {H:Hp}:PwD C H [] []:=⟨rfl,fun i d bk h=>by simp at h⟩
def sp_av (C CH:Addr):Sp:=fun vs H Q _=>∃ (p la lb d':Addr) (past ahead:List Bk) (now bk':Bk),vs=[.ref p,.ref d']∧cg C CH H p la lb past now ahead∧past.length≤1000∧jB C H d' bk' ∧
 ∀ lb' H',bN [p,la] H H'→H lb'=none→cg C CH H' p la lb' (past++[now]) bk' []→Q .non H'
theorem ok_av (T:Txt K mg t):aU P w K mg base CX0 1 t.f_av t.d_av ["self","cloths"] (sp_av t.a_ai t.a_ae):=by
 refine T.F_av.ok sc_av (fun vs H Q E h=>?_) (fun cdv A outer s H vs Q E hr h=>?_)
 ·obtain ⟨p,la,lb,d',past,ahead,now,bk',rfl,_⟩:=h; rfl
 ·obtain ⟨p,la,lb,d',past,ahead,now,bk',rfl,hc,hz,hb,k⟩:=h;have ap:=hc.apt;have ap2:Apt t.a_ai H [p,la]:=fun x hx=>ap x (by
   simp only [List.mem_cons,List.not_mem_nil,or_false] at hx ⊢;rcases hx with z | z
   ·exact .inl z
   ·exact .inr (.inl z))
  obtain ⟨dx,fs,d,e1,cl,hd⟩:=hc.ob;obtain ⟨ds,e2,pd⟩:=hc.pa;refine aI (aY (gR PySem.F.plainAttrs_list PySem.F.slot_list_append PySem.F.type_list_append bT (bB K rfl (pv 0) rfl) (aa (bB K rfl (pv 0) rfl) af))) fun _ _=>aI (dC (pv 0) (pv 1) rfl) fun _ _=>cK (dC (pv 0) (bP af) rfl) fun _ _=>?_;left;refine bD e1 T.cl_ae T.naC_ahead_of_deeds cl.a ?_;left;refine cF e2 ?_;left;refine bD e1 T.cl_ae T.naC_cloths cl.c ?_;left;refine bU e2 (by rw [List.length_map,pd.1]; exact aP (by omega)) ?_;have pla:p≠la:=dY e1 e2 (fun z=>nomatch z);have m1:bN [p,la] H (upd H la (.lst (ds.map V.ref++[.ref d]))):=(bN.refl _ _).upd (List.mem_cons_of_mem _ List.mem_cons_self);have f1:upd H la (.lst (ds.map V.ref++[.ref d])) p=some (.ins t.a_ae dx fs):=by rw [au pla]; exact e1
  have f2:=ae (H:=H) (a:=la) (o:=.lst (ds.map V.ref++[.ref d]));generalize upd H la (.lst (ds.map V.ref++[.ref d]))=H1 at m1 f1 f2 ⊢;left;refine cA f1 T.cl_ae T.naC_cloths (Nat.lt_of_le_of_lt cl.len (by decide)) ?_;have cl2:=cl.setC (d':=d');generalize hfs:cG (Str.ofString "cloths") (.ref d') fs=fs2 at cl2 ⊢;have m2:bN [p,la] H (upd H1 p (.ins t.a_ae dx fs2)):=m1.upd List.mem_cons_self;have g1:=ae (H:=H1) (a:=p) (o:=.ins t.a_ae dx fs2);have g2:upd H1 p (.ins t.a_ae dx fs2) la=some (.lst (ds.map V.ref++[.ref d])):=by rw [au (Ne.symm pla)]; exact f2
  generalize upd H1 p (.ins t.a_ae dx fs2)=H2 at m2 g1 g2 ⊢;left;refine ⟨Nat.zero_le _,fun lb' nl=>?_⟩;have m3:bN [p,la] H (upd H2 lb' (.lst [])):=m2.new nl;have sl:=ai.new (o:=HO.lst []) nl;have j1:=sl _ _ g1;have j2:=sl _ _ g2;have j3:=ae (H:=H2) (a:=lb') (o:=HO.lst []);generalize upd H2 lb' (HO.lst [])=H3 at m3 j1 j2 j3 ⊢;left;refine cA j1 T.cl_ae T.naC_behind_undone (Nat.lt_of_le_of_lt cl2.len (by decide)) ?_;have cl3:=cl2.setB (lb':=lb');generalize hfs3:cG (Str.ofString "behind_undone") (.ref lb') fs2=fs3 at cl3 ⊢;have plb:p≠lb':=fun z=>by rw [z,nl] at g1; cases g1
  have lalb:la≠lb':=fun z=>by rw [z,nl] at g2; cases g2
  have m4:bN [p,la] H (upd H3 p (.ins t.a_ae dx fs3)):=m3.upd List.mem_cons_self;have n1:=ae (H:=H3) (a:=p) (o:=.ins t.a_ae dx fs3);have n2:upd H3 p (.ins t.a_ae dx fs3) la=some (.lst ((ds++[d]).map V.ref)):=by rw [au (Ne.symm pla),j2,List.map_append]; rfl
  have n3:upd H3 p (.ins t.a_ae dx fs3) lb'=some (.lst (([]:List Addr).map V.ref)):=by rw [au (Ne.symm plb),j3]; rfl
  generalize upd H3 p (.ins t.a_ae dx fs3)=H4 at m4 n1 n2 n3 ⊢;left
  have nlb:H lb'=none:=by
   cases z:H lb' with
   | none=>rfl
   | some o =>
    have:=m2 lb' o z (by
     simp only [List.mem_cons,List.not_mem_nil,or_false];intro q;rcases q with q | q
     ·exact plb q.symm
     ·exact lalb q.symm)
    rw [nl] at this; cases this
  exact k lb' H4 m4 nlb ⟨⟨dx,fs3,d',n1,cl3,hb.but m4 ap2⟩,⟨ds++[d],n2,(pd.but m4 ap2).snoc (hd.but m4 ap2)⟩,⟨[],n3,PwD.nil⟩,lalb⟩
def kX (C CH:Addr) (H:Hp) (p la:Addr) (past:List Bk) (now bk:Bk) (Q:VK):Prop:=∀ lb' H',bN [p,la] H H'→H lb'=none→cg C CH H' p la lb' (past++[now]) bk []→Q .non H'
theorem kX.back {C CH:Addr} {H H1:Hp} {p la:Addr} {past:List Bk} {now bk:Bk} {Q:VK} (h:kX C CH H p la past now bk Q) (s:ai H H1):kX C CH H1 p la past now bk Q:=fun lb' H' m n c=>h lb' H' ((s.butL _).trans m) (s.free n) c
theorem fx.mono {C:Addr} {H H':Hp} {v:V} {c:Clo} (s:ai H H') (h:fx C H v c):fx C H' v c:=h.but (s.butL []) Apt.nil
def sp_aj (C CH:Addr):Sp:=fun vs H Q _=>∃ (p la lb:Addr) (past ahead:List Bk) (now:Bk) (n:Str) (v:V) (c:Clo),vs=[.ref p,.str n,v]∧cg C CH H p la lb past now ahead∧past.length≤1000∧now.length≤1000∧fx C H v c∧kX C CH H p la past now (bW now n c) Q
theorem ok_aj (T:Txt K mg t):aU P w K mg base CX0 2 t.f_aj t.d_aj ["self","name","cloth"] (sp_aj t.a_ai t.a_ae):=by
 refine T.F_aj.ok sc_aj (fun vs H Q E h=>?_) (fun cdv A outer s H vs Q E hr h=>?_)
 ·obtain ⟨p,la,lb,past,ahead,now,n,v,c,rfl,_⟩:=h; rfl
 ·obtain ⟨p,la,lb,past,ahead,now,n,v,c,rfl,hc,hz,hn,hv,k⟩:=h;obtain ⟨dx,fs,d,e1,cl,kvs,e2,pw⟩:=hc.ob;have lk:kvs.length=now.length:=Paired.length pw;refine aI (aF (i:=3) sc_aj.nd rfl (Or.inl rfl) (aW jD rfl T.no_dict (by rfl) (aa (bB K rfl (pv 0) rfl) af))) fun _ _=>aI (eG (cP hr) (pv 3) (pv 1) (pv 2) rfl) fun _ _=>cK (aY (bF (pv 0) T.cl_ae T.m_av (ok_av T) (hr.mono (by first | decide | omega)) T.b_av .nil aS (aa (pv 3) af))) fun _ _=>?_;left;refine bD e1 T.cl_ae T.naC_cloths cl.c ?_;left;refine ⟨d,kvs,rfl,e2,fun d2 n2=>?_⟩;have s1:=ai.new (o:=HO.dK kvs) n2;have f2:=ae (H:=H) (a:=d2) (o:=HO.dK kvs);generalize upd H d2 (HO.dK kvs)=H1 at s1 f2 ⊢;left;refine ⟨d2,_,rfl,jc.k (k:=Sum.inr n) f2 (by rw [lk]; exact aP (by omega)),?_⟩;have s2:ai H (upd H1 d2 (.dK (cH kvs (Sum.inr n) v))):=s1.later n2;have g2:=ae (H:=H1) (a:=d2) (o:=HO.dK (cH kvs (Sum.inr n) v));generalize upd H1 d2 (.dK (cH kvs (Sum.inr n) v))=H2 at s2 g2 ⊢;have hc2:=hc.mono s2;obtain ⟨dx2,fs2,d3,i1,i2,_⟩:=hc2.ob;left;refine aw i1 (i2.no _ (by decide +kernel)) ?_;left;refine ⟨p,la,lb,d2,past,ahead,now,bW now n c,rfl,hc2,hz,⟨_,g2,(pw.but (s2.butL []) Apt.nil).put n (hv.mono s2)⟩,fun lb' H3 m3 nl ch=>?_⟩;left;exact k.back s2 lb' H3 m3 nl ch
def rn (C CH BN TK:Addr):Sp:=fun vs H Q E=>∃ (p la lb:Addr) (past ahead:List Bk) (now:Bk) (n:Str) (v:V) (c:Clo),vs=[.ref p,.str n,v]∧n.cps.size≤1000∧cg C CH H p la lb past now ahead∧past.length≤1000∧now.length≤1000∧fx C H v c ∧
 (cm n=false→∀ H',ai H H'→E (.ref BN) none H')∧(cm n=true→(aO now n).isSome=true→∀ H',ai H H'→E (.ref TK) none H')∧(cm n=true→aO now n=none→kX C CH H p la past now (bW now n c) Q)
theorem okx_a0 (T:Txt K mg t):aU P w K mg base (CX1 P w) 3 t.f_a0 t.d_a0 ["self","name","cloth"] (rn t.a_ai t.a_ae t.a_ad t.a_ak):=by
 refine T.F_a0.ok1 sc_a0 (fun vs H Q E h=>?_) (fun cdv A outer s H vs Q E hr h=>?_)
 ·obtain ⟨p,la,lb,past,ahead,now,n,v,c,rfl,_⟩:=h; rfl
 ·obtain ⟨p,la,lb,past,ahead,now,n,v,c,rfl,hsz,hc,hz,hn,hv,k1,k2,k3⟩:=h;obtain ⟨dx,fs,d,e1,cl,_⟩:=hc.ob;refine ⟨_,(aJ (aY (bF (pv 0) T.cl_ae T.m_an (okx_an T) (hr.mono (by first | decide | omega)) T.b_an .nil aN (aa (pv 1) af))) (aj (aY (bF (pv 0) T.cl_ae T.m_aj (ok_aj T).up (hr.mono (by first | decide | omega)) T.b_aj .nil aN (aa (pv 1) (aa (pv 2) af)))))),?_⟩;left;refine aw e1 (cl.no _ (by decide +kernel)) ?_;left;refine ⟨p,la,lb,past,ahead,now,n,rfl,hsz,hc,k1,k2,fun a1 a2 H1 s1=>?_⟩;left;refine aw (s1 _ _ e1) (cl.no _ (by decide +kernel)) ?_;left;refine ⟨p,la,lb,past,ahead,now,n,v,c,rfl,hc.mono s1,hz,hn,hv.mono s1,fun lb' H2 m2 nl ch=>?_⟩;left;exact (k3 a1 a2).back s1 lb' H2 m2 nl ch
def ot (C CH NC:Addr):Sp:=fun vs H Q E=>∃ (p la lb:Addr) (past ahead:List Bk) (now:Bk) (n:Str),vs=[.ref p,.str n]∧cg C CH H p la lb past now ahead∧past.length≤1000∧now.length≤1000 ∧
 ((aO now n=none∧E (.ref NC) none H)∨((aO now n).isSome=true∧kX C CH H p la past now (fN now n) Q))
theorem okx_aJ (T:Txt K mg t):aU P w K mg base (CX1 P w) 2 t.f_aJ t.d_aJ ["self","name"] (ot t.a_ai t.a_ae t.a_ab):=by
 refine T.F_aJ.ok1 sc_aJ (fun vs H Q E h=>?_) (fun cdv A outer s H vs Q E hr h=>?_)
 ·obtain ⟨p,la,lb,past,ahead,now,n,rfl,_⟩:=h; rfl
 ·obtain ⟨p,la,lb,past,ahead,now,n,rfl,hc,hz,hn,k⟩:=h;obtain ⟨dx,fs,d,e1,cl,kvs,e2,pw⟩:=hc.ob;have lk:kvs.length=now.length:=Paired.length pw;refine aI (aY (bF (pv 0) T.cl_ae T.m_am (okx_am T) (hr.mono (by first | decide | omega)) T.b_am .nil aN (aa (pv 1) af))) fun _ _=>aI (aF (i:=2) sc_aJ.nd rfl (Or.inl rfl) (aW jD rfl T.no_dict (by rfl) (aa (bB K rfl (pv 0) rfl) af))) fun _ _=>aI (aY (su (pv 2) (pv 1) ⟨rfl,rfl,rfl,rfl⟩)) fun _ _=>cK (aY (bF (pv 0) T.cl_ae T.m_av (ok_av T).up (hr.mono (by first | decide | omega)) T.b_av .nil aN (aa (pv 2) af))) fun _ _=>?_;left;refine aw e1 (cl.no _ (by decide +kernel)) ?_;left;rcases k with ⟨g,k⟩ | ⟨g,k⟩
  ·exact ⟨p,la,lb,past,ahead,now,n,rfl,hc,.inl ⟨g,k⟩⟩
  ·obtain ⟨c,hg⟩:=Option.isSome_iff_exists.mp g;refine ⟨p,la,lb,past,ahead,now,n,rfl,hc,.inr ⟨c,hg,fun v0 _=>?_⟩⟩;left;refine bD e1 T.cl_ae T.naC_cloths cl.c ?_;left;refine ⟨d,kvs,rfl,e2,fun d2 n2=>?_⟩;have s1:=ai.new (o:=HO.dK kvs) n2;have f2:=ae (H:=H) (a:=d2) (o:=HO.dK kvs);generalize upd H d2 (HO.dK kvs)=H1 at s1 f2 ⊢;obtain ⟨v,gv⟩:∃ v,dW kvs (Sum.inr n)=some v:=by
    rcases pw.get n with ⟨_,z⟩ | ⟨v,_,z,_⟩
    ·rw [hg] at z; cases z
    ·exact ⟨v,z⟩
   left;refine ⟨d2,rfl,.inl ⟨kvs,.inl f2⟩,?_⟩;left;refine ⟨kvs,Sum.inr n,v,f2,rfl,gv,?_⟩;have s2:ai H (upd H1 d2 (.dK (eV kvs (Sum.inr n)))):=s1.later n2;have g2:=ae (H:=H1) (a:=d2) (o:=HO.dK (eV kvs (Sum.inr n)));generalize upd H1 d2 (.dK (eV kvs (Sum.inr n)))=H2 at s2 g2 ⊢;left;refine aw (s2 _ _ e1) (cl.no _ (by decide +kernel)) ?_;left;refine ⟨p,la,lb,d2,past,ahead,now,fN now n,rfl,hc.mono s2,hz,⟨_,g2,(pw.but (s2.butL []) Apt.nil).drop n⟩,fun lb' H3 m3 nl ch=>?_⟩;left;exact k.back s2 lb' H3 m3 nl ch
def oB (C CH NC NL:Addr):Sp:=fun vs H Q E=>∃ (p la lb:Addr) (past ahead:List Bk) (now:Bk) (n wy:Str) (k:Int),vs=[.ref p,.str n,.str wy,.int k]∧cg C CH H p la lb past now ahead∧past.length≤1000∧now.length≤1000 ∧
 ((aO now n=none∧E (.ref NC) none H)∨∃ s cs rs,aO now n=some (s,cs,rs) ∧
  ((rF wy k cs rs∧E (.ref NL) none H)∨∃ bs cs' rs',fj wy cs rs bs∧0≤k∧k<bs.length∧lV wy cs rs (lZ bs k.toNat) cs' rs'∧bA cs'∧bA rs'∧kX C CH H p la past now (bW now n (s,cs',rs')) Q))
theorem okx_aO (T:Txt K mg t):aU P w K mg base (CX1 P w) 10 t.f_aO t.d_aO ["self","name","way","k"] (oB t.a_ai t.a_ae t.a_ab t.a_af):=by
 refine T.F_aO.ok1 sc_aO (fun vs H Q E h=>?_) (fun cdv A outer s H vs Q E hr h=>?_)
 ·obtain ⟨p,la,lb,past,ahead,now,n,wy,k,rfl,_⟩:=h; rfl
 ·obtain ⟨p,la,lb,past,ahead,now,n,wy,k,rfl,hc,hz,hn,q⟩:=h;obtain ⟨dx,fs,d,e1,cl,_⟩:=hc.ob;refine ⟨_,(aj (aY (bF (pv 0) T.cl_ae T.m_aj (ok_aj T).up (hr.mono (by first | decide | omega)) T.b_aj .nil aN (aa (pv 1) (aa (aC (okx_bi T) (hr.mono (by first | decide | omega)) rfl T.mg_bi T.F_bi.kp T.b_bi .nil aN (aa (bF (pv 0) T.cl_ae T.m_am (okx_am T) (hr.mono (by first | decide | omega)) T.b_am .nil aN (aa (pv 1) af)) (aa (pv 2) (aa (pv 3) af)))) af))))),?_⟩;left;refine aw e1 (cl.no _ (by decide +kernel)) ?_;left;refine aw e1 (cl.no _ (by decide +kernel)) ?_;left;rcases q with ⟨g,q⟩ | ⟨s,cs,rs,g,q⟩
  ·exact ⟨p,la,lb,past,ahead,now,n,rfl,hc,.inl ⟨g,q⟩⟩
  ·refine ⟨p,la,lb,past,ahead,now,n,rfl,hc,.inr ⟨_,g,fun v hv=>?_⟩⟩;obtain ⟨x,rfl,hx,hs,bc,br⟩:=hv;left;rcases q with ⟨a,q⟩ | ⟨bs,cs',rs',a1,a2,a3,a4,bc',br',q⟩
   ·exact ⟨x,wy,k,s,cs,rs,rfl,hx,hs,bc,br,.inr ⟨a,q⟩⟩
   ·refine ⟨x,wy,k,s,cs,rs,rfl,hx,hs,bc,br,.inl ⟨bs,cs',rs',a1,a2,a3,a4,fun x' H1 s1 hx'=>?_⟩⟩;left;refine ⟨p,la,lb,past,ahead,now,n,.ref x',(s,cs',rs'),rfl,hc.mono s1,hz,hn,⟨x',rfl,hx',hs,bc',br'⟩,fun lb' H2 m2 nl ch=>?_⟩;left;exact q.back s1 lb' H2 m2 nl ch
def oC (C CH NL:Addr):Sp:=fun vs H Q E=>∃ (p la lb:Addr) (past ahead:List Bk) (now:Bk),vs=[.ref p]∧cg C CH H p la lb past now ahead∧ahead.length≤1000 ∧
 ((past=[]∧E (.ref NL) none H)∨∃ ps b,past=ps++[b]∧∀ H',bN [p,la,lb] H H'→cg C CH H' p la lb ps b (ahead++[now])→Q .non H')
theorem PwD.pop {C:Addr} {H:Hp} {ds:List Addr} {bks:List Bk} {bk:Bk} (h:PwD C H ds (bks++[bk])):∃ es d,ds=es++[d]∧PwD C H es bks∧jB C H d bk:=by
 have hl:=h.1;rw [List.length_append,List.length_singleton] at hl;rcases List.eq_nil_or_concat ds with z | ⟨es,d,rfl⟩
 ·subst z; simp at hl
 ·rw [List.concat_eq_append] at h hl ⊢;rw [List.length_append,List.length_singleton] at hl;have le:es.length=bks.length:=by omega
  refine ⟨es,d,rfl,⟨le,fun i d' bk' h1 h2=>?_⟩,?_⟩
  ·have hi:=(List.getElem?_eq_some_iff.mp h1).1;exact h.2 i d' bk' (by rw [List.getElem?_append_left hi]; exact h1) (by rw [List.getElem?_append_left (by omega)]; exact h2)
  ·exact h.2 es.length d bk (by rw [List.getElem?_append_right (Nat.le_refl _),Nat.sub_self]; rfl) (by rw [le,List.getElem?_append_right (Nat.le_refl _),Nat.sub_self]; rfl)
theorem jI {α β:Type} {f:α→β} {l:List α} {a:α}:(l.map f++[a].map f)[(l.map f++[a].map f).length - 1]?=some (f a):=by
 rw [List.map_singleton,← List.getLast?_eq_getElem?]; exact List.getLast?_concat ..
theorem okx_aP (T:Txt K mg t):aU P w K mg base (CX1 P w) 1 t.f_aP t.d_aP ["self"] (oC t.a_ai t.a_ae t.a_aa):=by
 refine T.F_aP.ok1 sc_aP (fun vs H Q E h=>?_) (fun cdv A outer s H vs Q E hr h=>?_)
 ·obtain ⟨p,la,lb,past,ahead,now,rfl,_⟩:=h; rfl
 ·obtain ⟨p,la,lb,past,ahead,now,rfl,hc,hz,q⟩:=h;have ap:=hc.apt;obtain ⟨dx,fs,d,e1,cl,hd⟩:=hc.ob;obtain ⟨ds,e2,pd⟩:=hc.pa;obtain ⟨as,e3,pa⟩:=hc.ah;have lab:=hc.ne;have pla:p≠la:=dY e1 e2 (fun z=>nomatch z);have plb:p≠lb:=dY e1 e3 (fun z=>nomatch z);refine aI (aL (aD bJ (ax (bH K rfl) rfl T.no_len (by rfl) (aa (bB K rfl (pv 0) rfl) af)) ag (aG _)) (aj (b8 T.mg_aa T.x_aa PySem.F.excBase_ValueError rfl rfl (fun _ _ _ _ _ _ _ _ I m q=>dE I m q) (aa av af))) aA) fun _ _=>aI (aY (gR PySem.F.plainAttrs_list PySem.F.slot_list_append PySem.F.type_list_append bT (bB K rfl (pv 0) rfl) (aa (bB K rfl (pv 0) rfl) af))) fun _ _=>cK (dC (pv 0) (x6 PySem.F.plainAttrs_list PySem.F.slot_list_pop PySem.F.type_list_pop xW (bB K rfl (pv 0) rfl)) rfl) fun _ _=>?_;left;refine bD e1 T.cl_ae T.naC_ahead_of_deeds cl.a ?_;left;refine bI e2 ?_;rw [List.length_map];left;rcases q with ⟨z,q⟩ | ⟨ps,b,z,q⟩
  ·subst z;have:ds.length=0:=pd.1
   rw [this];left;exact ⟨by show 1≤sizeLine; decide,q⟩
  ·subst z;obtain ⟨es,d',rfl,pe,hb⟩:=pd.pop;rw [decide_eq_false (show ¬ (((es++[d']).length:Nat):Int)=0 by rw [List.length_append,List.length_singleton]; omega)];left;refine bD e1 T.cl_ae T.naC_behind_undone cl.b ?_;left;refine cF e3 ?_;left;refine bD e1 T.cl_ae T.naC_cloths cl.c ?_;left;refine bU e3 (by rw [List.length_map,pa.1]; exact aP (by omega)) ?_;have m1:bN [p,la,lb] H (upd H lb (.lst (as.map V.ref++[.ref d]))):=(bN.refl _ _).upd (by simp);have f1:upd H lb (.lst (as.map V.ref++[.ref d])) p=some (.ins t.a_ae dx fs):=by rw [au plb]; exact e1
   have f2:upd H lb (.lst (as.map V.ref++[.ref d])) la=some (.lst ((es++[d']).map V.ref)):=by rw [au lab]; exact e2
   have f3:=ae (H:=H) (a:=lb) (o:=.lst (as.map V.ref++[.ref d]));generalize upd H lb (.lst (as.map V.ref++[.ref d]))=H1 at m1 f1 f2 f3 ⊢;left;refine bD f1 T.cl_ae T.naC_ahead_of_deeds cl.a ?_;left;refine cF f2 ?_;left;refine ⟨la,(es++[d']).map V.ref,.ref d',rfl,rfl,f2,by rw [List.map_append]; exact jI,?_⟩;have ed:((es++[d']).map V.ref).dropLast=es.map V.ref:=by rw [List.map_append]; exact List.dropLast_concat
   rw [ed];have m2:bN [p,la,lb] H (upd H1 la (.lst (es.map V.ref))):=m1.upd (by simp);have g1:upd H1 la (.lst (es.map V.ref)) p=some (.ins t.a_ae dx fs):=by rw [au pla]; exact f1
   have g2:=ae (H:=H1) (a:=la) (o:=.lst (es.map V.ref));have g3:upd H1 la (.lst (es.map V.ref)) lb=some (.lst (as.map V.ref++[.ref d])):=by rw [au (Ne.symm lab)]; exact f3
   generalize upd H1 la (.lst (es.map V.ref))=H2 at m2 g1 g2 g3 ⊢;left;refine cA g1 T.cl_ae T.naC_cloths (Nat.lt_of_le_of_lt cl.len (by decide)) ?_;have cl2:=cl.setC (d':=d');generalize hfs:cG (Str.ofString "cloths") (.ref d') fs=fs2 at cl2 ⊢;have m3:bN [p,la,lb] H (upd H2 p (.ins t.a_ae dx fs2)):=m2.upd (by simp);have n1:=ae (H:=H2) (a:=p) (o:=.ins t.a_ae dx fs2);have n2:upd H2 p (.ins t.a_ae dx fs2) la=some (.lst (es.map V.ref)):=by rw [au (Ne.symm pla)]; exact g2
   have n3:upd H2 p (.ins t.a_ae dx fs2) lb=some (.lst ((as++[d]).map V.ref)):=by rw [au (Ne.symm plb),g3,List.map_append]; rfl
   generalize upd H2 p (.ins t.a_ae dx fs2)=H3 at m3 n1 n2 n3 ⊢;left;exact q H3 m3 ⟨⟨dx,fs2,d',n1,cl2,hb.but m3 ap⟩,⟨es,n2,pe.but m3 ap⟩,⟨as++[d],n3,(pa.but m3 ap).snoc (hd.but m3 ap)⟩,lab⟩
def oA (C CH NL:Addr):Sp:=fun vs H Q E=>∃ (p la lb:Addr) (past ahead:List Bk) (now:Bk),vs=[.ref p]∧cg C CH H p la lb past now ahead∧past.length≤1000 ∧
 ((ahead=[]∧E (.ref NL) none H)∨∃ ps b,ahead=ps++[b]∧∀ H',bN [p,la,lb] H H'→cg C CH H' p la lb (past++[now]) b ps→Q .non H')
theorem okx_aN (T:Txt K mg t):aU P w K mg base (CX1 P w) 1 t.f_aN t.d_aN ["self"] (oA t.a_ai t.a_ae t.a_aa):=by
 refine T.F_aN.ok1 sc_aN (fun vs H Q E h=>?_) (fun cdv A outer s H vs Q E hr h=>?_)
 ·obtain ⟨p,la,lb,past,ahead,now,rfl,_⟩:=h; rfl
 ·obtain ⟨p,la,lb,past,ahead,now,rfl,hc,hz,q⟩:=h;have ap:=hc.apt;obtain ⟨dx,fs,d,e1,cl,hd⟩:=hc.ob;obtain ⟨ds,e3,pd⟩:=hc.ah;obtain ⟨as,e2,pa⟩:=hc.pa;have lab:=Ne.symm hc.ne;have pla:p≠la:=dY e1 e2 (fun z=>nomatch z);have plb:p≠lb:=dY e1 e3 (fun z=>nomatch z);refine aI (aL (aD bJ (ax (bH K rfl) rfl T.no_len (by rfl) (aa (bB K rfl (pv 0) rfl) af)) ag (aG _)) (aj (b8 T.mg_aa T.x_aa PySem.F.excBase_ValueError rfl rfl (fun _ _ _ _ _ _ _ _ I m q=>dE I m q) (aa av af))) aA) fun _ _=>aI (aY (gR PySem.F.plainAttrs_list PySem.F.slot_list_append PySem.F.type_list_append bT (bB K rfl (pv 0) rfl) (aa (bB K rfl (pv 0) rfl) af))) fun _ _=>cK (dC (pv 0) (x6 PySem.F.plainAttrs_list PySem.F.slot_list_pop PySem.F.type_list_pop xW (bB K rfl (pv 0) rfl)) rfl) fun _ _=>?_;left;refine bD e1 T.cl_ae T.naC_behind_undone cl.b ?_;left;refine bI e3 ?_;rw [List.length_map];left;rcases q with ⟨z,q⟩ | ⟨ps,b,z,q⟩
  ·subst z;have:ds.length=0:=pd.1
   rw [this];left;exact ⟨by show 1≤sizeLine; decide,q⟩
  ·subst z;obtain ⟨es,d',rfl,pe,hb⟩:=pd.pop;rw [decide_eq_false (show ¬ (((es++[d']).length:Nat):Int)=0 by rw [List.length_append,List.length_singleton]; omega)];left;refine bD e1 T.cl_ae T.naC_ahead_of_deeds cl.a ?_;left;refine cF e2 ?_;left;refine bD e1 T.cl_ae T.naC_cloths cl.c ?_;left;refine bU e2 (by rw [List.length_map,pa.1]; exact aP (by omega)) ?_;have m1:bN [p,la,lb] H (upd H la (.lst (as.map V.ref++[.ref d]))):=(bN.refl _ _).upd (by simp);have f1:upd H la (.lst (as.map V.ref++[.ref d])) p=some (.ins t.a_ae dx fs):=by rw [au pla]; exact e1
   have f2:upd H la (.lst (as.map V.ref++[.ref d])) lb=some (.lst ((es++[d']).map V.ref)):=by rw [au lab]; exact e3
   have f3:=ae (H:=H) (a:=la) (o:=.lst (as.map V.ref++[.ref d]));generalize upd H la (.lst (as.map V.ref++[.ref d]))=H1 at m1 f1 f2 f3 ⊢;left;refine bD f1 T.cl_ae T.naC_behind_undone cl.b ?_;left;refine cF f2 ?_;left;refine ⟨lb,(es++[d']).map V.ref,.ref d',rfl,rfl,f2,by rw [List.map_append]; exact jI,?_⟩;have ed:((es++[d']).map V.ref).dropLast=es.map V.ref:=by rw [List.map_append]; exact List.dropLast_concat
   rw [ed];have m2:bN [p,la,lb] H (upd H1 lb (.lst (es.map V.ref))):=m1.upd (by simp);have g1:upd H1 lb (.lst (es.map V.ref)) p=some (.ins t.a_ae dx fs):=by rw [au plb]; exact f1
   have g2:=ae (H:=H1) (a:=lb) (o:=.lst (es.map V.ref));have g3:upd H1 lb (.lst (es.map V.ref)) la=some (.lst (as.map V.ref++[.ref d])):=by rw [au (Ne.symm lab)]; exact f3
   generalize upd H1 lb (.lst (es.map V.ref))=H2 at m2 g1 g2 g3 ⊢;left;refine cA g1 T.cl_ae T.naC_cloths (Nat.lt_of_le_of_lt cl.len (by decide)) ?_;have cl2:=cl.setC (d':=d');generalize hfs:cG (Str.ofString "cloths") (.ref d') fs=fs2 at cl2 ⊢;have m3:bN [p,la,lb] H (upd H2 p (.ins t.a_ae dx fs2)):=m2.upd (by simp);have n1:=ae (H:=H2) (a:=p) (o:=.ins t.a_ae dx fs2);have n2:upd H2 p (.ins t.a_ae dx fs2) lb=some (.lst (es.map V.ref)):=by rw [au (Ne.symm plb)]; exact g2
   have n3:upd H2 p (.ins t.a_ae dx fs2) la=some (.lst ((as++[d]).map V.ref)):=by rw [au (Ne.symm pla),g3,List.map_append]; rfl
   generalize upd H2 p (.ins t.a_ae dx fs2)=H3 at m3 n1 n2 n3 ⊢;left;exact q H3 m3 ⟨⟨dx,fs2,d',n1,cl2,hb.but m3 ap⟩,⟨as++[d],n3,(pa.but m3 ap).snoc (hd.but m3 ap)⟩,⟨es,n2,pe.but m3 ap⟩,hc.ne⟩
def sp_aQ (C CH:Addr):Sp:=fun vs H Q _=>∃ (p dx:Addr),vs=[.ref p]∧H p=some (.ins CH dx [])∧∀ la lb H',bN [p] H H'→H la=none→H lb=none→cg C CH H' p la lb [] [] []→Q .non H'
theorem rK {S:List Addr} {H H1:Hp} {a:Addr} (m:bN S H H1) (n:H1 a=none) (h:a∉S):H a=none:=by
 cases z:H a with
 | none=>rfl
 | some o=>have:=m a o z h; rw [n] at this; cases this
theorem ok_aQ (T:Txt K mg t):aU P w K mg base CX0 1 t.f_aQ t.d_aQ ["self"] (sp_aQ t.a_ai t.a_ae):=by
 refine T.F_aQ.ok sc_aQ (fun vs H Q E h=>?_) (fun cdv A outer s H vs Q E hr h=>?_)
 ·obtain ⟨p,dx,rfl,_⟩:=h; rfl
 ·obtain ⟨p,dx,rfl,hp,k⟩:=h;refine aI (dC (pv 0) so rfl) fun _ _=>aI (dC (pv 0) (bP af) rfl) fun _ _=>cK (dC (pv 0) (bP af) rfl) fun _ _=>?_;left;refine fun d nd=>?_;have s1:=ai.new (o:=HO.dK []) nd;have e1:=s1 _ _ hp;have d1:=ae (H:=H) (a:=d) (o:=HO.dK []);have m1:bN [p] H (upd H d (HO.dK [])):=s1.butL _;generalize upd H d (HO.dK [])=H1 at e1 d1 m1 ⊢;have pd:p≠d:=dY e1 d1 (fun z=>nomatch z);left;refine cA e1 T.cl_ae T.naC_cloths (by show 0<1000; decide) ?_;generalize hf1:cG (Str.ofString "cloths") (.ref d) []=f1;have e2:=ae (H:=H1) (a:=p) (o:=.ins t.a_ae dx f1);have d2:upd H1 p (.ins t.a_ae dx f1) d=some (.dK []):=by rw [au (Ne.symm pd)]; exact d1
  have m2:bN [p] H (upd H1 p (.ins t.a_ae dx f1)):=m1.upd (by simp);generalize upd H1 p (.ins t.a_ae dx f1)=H2 at e2 d2 m2 ⊢;left;refine ⟨Nat.zero_le _,fun la na=>?_⟩;have s3:=ai.new (o:=HO.lst []) na;have e3:=s3 _ _ e2;have d3:=s3 _ _ d2;have a3:=ae (H:=H2) (a:=la) (o:=HO.lst []);have m3:bN [p] H (upd H2 la (HO.lst [])):=m2.new na;generalize upd H2 la (HO.lst [])=H3 at e3 d3 a3 m3 ⊢;have pla:p≠la:=dY e3 a3 (fun z=>nomatch z);left;refine cA e3 T.cl_ae T.naC_ahead_of_deeds (by rw [← hf1]; exact Nat.lt_of_le_of_lt (bu _ _ _) (by show 1<1000; decide)) ?_;generalize hf2:cG (Str.ofString "ahead_of_deeds") (.ref la) f1=f2;have l2:f2.length≤2:=by rw [← hf2,← hf1]; exact Nat.le_trans (bu _ _ _) (Nat.succ_le_succ (bu _ _ _))
  have e4:=ae (H:=H3) (a:=p) (o:=.ins t.a_ae dx f2);have d4:upd H3 p (.ins t.a_ae dx f2) d=some (.dK []):=by rw [au (Ne.symm pd)]; exact d3
  have a4:upd H3 p (.ins t.a_ae dx f2) la=some (.lst []):=by rw [au (Ne.symm pla)]; exact a3
  have m4:bN [p] H (upd H3 p (.ins t.a_ae dx f2)):=m3.upd (by simp);generalize upd H3 p (.ins t.a_ae dx f2)=H4 at e4 d4 a4 m4 ⊢;left;refine ⟨Nat.zero_le _,fun lb nb=>?_⟩;have s5:=ai.new (o:=HO.lst []) nb;have e5:=s5 _ _ e4;have d5:=s5 _ _ d4;have a5:=s5 _ _ a4;have b5:=ae (H:=H4) (a:=lb) (o:=HO.lst []);have m5:bN [p] H (upd H4 lb (HO.lst [])):=m4.new nb;have plb:p≠lb:=fun z=>by rw [z,nb] at e4; cases e4
  have lab:la≠lb:=fun z=>by rw [z,nb] at a4; cases a4
  generalize upd H4 lb (HO.lst [])=H5 at e5 d5 a5 b5 m5 ⊢;left;refine cA e5 T.cl_ae T.naC_behind_undone (by omega) ?_;generalize hf3:cG (Str.ofString "behind_undone") (.ref lb) f2=f3;have e6:=ae (H:=H5) (a:=p) (o:=.ins t.a_ae dx f3);have d6:upd H5 p (.ins t.a_ae dx f3) d=some (.dK []):=by rw [au (Ne.symm pd)]; exact d5
  have a6:upd H5 p (.ins t.a_ae dx f3) la=some (.lst (([]:List Addr).map V.ref)):=by rw [au (Ne.symm pla)]; exact a5
  have b6:upd H5 p (.ins t.a_ae dx f3) lb=some (.lst (([]:List Addr).map V.ref)):=by rw [au (Ne.symm plb)]; exact b5
  have m6:bN [p] H (upd H5 p (.ins t.a_ae dx f3)):=m5.upd (by simp);generalize upd H5 p (.ins t.a_ae dx f3)=H6 at e6 d6 a6 b6 m6 ⊢;left;refine k la lb H6 m6 (rK m2 na (by simpa using Ne.symm pla)) (rK m4 nb (by simpa using Ne.symm plb)) ⟨⟨dx,f3,d,e6,?_,[],d6,.nil⟩,⟨[],a6,PwD.nil⟩,⟨[],b6,PwD.nil⟩,lab⟩;rw [← hf3,← hf2,← hf1];refine ⟨?_,?_,?_,fun m z=>?_,?_⟩
  ·rw [az,if_neg (by decide +kernel),az,if_neg (by decide +kernel),az,if_pos rfl]
  ·rw [az,if_neg (by decide +kernel),az,if_pos rfl]
  ·rw [az,if_pos rfl]
  ·rw [az,if_neg z.2.2,az,if_neg z.2.1,az,if_neg z.1]; rfl
  ·exact Nat.le_trans (bu _ _ _) (Nat.succ_le_succ (Nat.le_trans (bu _ _ _) (Nat.succ_le_succ (bu _ _ _))))
def rm (C CH NC NL:Addr):Sp:=fun vs H Q E=>∃ (p la lb:Addr) (past ahead:List Bk) (now:Bk) (n wy:Str) (k:Int),vs=[.ref p,.str n,.str wy,.int k]∧cg C CH H p la lb past now ahead∧past.length≤1000∧now.length≤1000 ∧
 ((aO now n=none∧E (.ref NC) none H)∨∃ s cs rs,aO now n=some (s,cs,rs) ∧
  ((rF wy k cs rs∧E (.ref NL) none H)∨∃ bs cs' rs',fj wy cs rs bs∧0≤k∧k<bs.length∧lV wy cs rs (bs.eraseIdx k.toNat) cs' rs'∧bA cs'∧bA rs'∧kX C CH H p la past now (bW now n (s,cs',rs')) Q))
theorem okx_aZ (T:Txt K mg t):aU P w K mg base (CX1 P w) 10 t.f_aZ t.d_aZ ["self","name","way","k"] (rm t.a_ai t.a_ae t.a_ab t.a_af):=by
 refine T.F_aZ.ok1 sc_aZ (fun vs H Q E h=>?_) (fun cdv A outer s H vs Q E hr h=>?_)
 ·obtain ⟨p,la,lb,past,ahead,now,n,wy,k,rfl,_⟩:=h; rfl
 ·obtain ⟨p,la,lb,past,ahead,now,n,wy,k,rfl,hc,hz,hn,q⟩:=h;obtain ⟨dx,fs,d,e1,cl,_⟩:=hc.ob;refine ⟨_,(aj (aY (bF (pv 0) T.cl_ae T.m_aj (ok_aj T).up (hr.mono (by first | decide | omega)) T.b_aj .nil aN (aa (pv 1) (aa (aC (Ap T) (hr.mono (by first | decide | omega)) rfl T.mg_cutsew T.F_cut.kp T.b_cut .nil aN (aa (bF (pv 0) T.cl_ae T.m_am (okx_am T) (hr.mono (by first | decide | omega)) T.b_am .nil aN (aa (pv 1) af)) (aa (pv 2) (aa (pv 3) af)))) af))))),?_⟩;left;refine aw e1 (cl.no _ (by decide +kernel)) ?_;left;refine aw e1 (cl.no _ (by decide +kernel)) ?_;left;rcases q with ⟨g,q⟩ | ⟨s,cs,rs,g,q⟩
  ·exact ⟨p,la,lb,past,ahead,now,n,rfl,hc,.inl ⟨g,q⟩⟩
  ·refine ⟨p,la,lb,past,ahead,now,n,rfl,hc,.inr ⟨_,g,fun v hv=>?_⟩⟩;obtain ⟨x,rfl,hx,hs,bc,br⟩:=hv;left;rcases q with ⟨a,q⟩ | ⟨bs,cs',rs',a1,a2,a3,a4,bc',br',q⟩
   ·exact ⟨x,wy,k,s,cs,rs,rfl,hx,hs,bc,br,.inr ⟨a,q⟩⟩
   ·refine ⟨x,wy,k,s,cs,rs,rfl,hx,hs,bc,br,.inl ⟨bs,cs',rs',a1,a2,a3,a4,fun x' H1 s1 hx'=>?_⟩⟩;left;refine ⟨p,la,lb,past,ahead,now,n,.ref x',(s,cs',rs'),rfl,hc.mono s1,hz,hn,⟨x',rfl,hx',hs,bc',br'⟩,fun lb' H2 m2 nl ch=>?_⟩;left;exact q.back s1 lb' H2 m2 nl ch
def rp (C CH NC NL BB BS:Addr):Sp:=fun vs H Q E=>∃ (p la lb:Addr) (past ahead:List Bk) (now:Bk) (n wy:Str) (k bt:Int),vs=[.ref p,.str n,.str wy,.int k,.int bt]∧cg C CH H p la lb past now ahead∧past.length≤1000∧now.length≤1000 ∧
  ((aO now n=none∧E (.ref NC) none H)∨∃ s cs rs,aO now n=some (s,cs,rs) ∧
    (((¬ wy="col"∧¬ wy="row")∧E (.ref NL) none H)∨∃ bs,fj wy cs rs bs ∧
     ((¬ (0≤k∧k<(bs.length:Int)+1)∧∀ H',ai H H'→E (.ref NL) none H')∨((0≤k∧k<(bs.length:Int)+1)∧cq bt=false∧∀ H',ai H H'→E (.ref BB) none H') ∨
      ((0≤k∧k<(bs.length:Int)+1)∧cq bt=true∧bs.length=39∧∀ H',ai H H'→E (.ref BS) none H') ∨
      ((0≤k∧k<(bs.length:Int)+1)∧cq bt=true∧bs.length<39∧∃ cs' rs',lV wy cs rs (fF bs k.toNat bt) cs' rs'∧bA cs'∧bA rs'∧kX C CH H p la past now (bW now n (s,cs',rs')) Q))))
theorem okx_a1 (T:Txt K mg t):aU P w K mg base (CX1 P w) 10 t.f_a1 t.d_a1 ["self","name","way","k","bit"] (rp t.a_ai t.a_ae t.a_ab t.a_af t.a_ah t.a_ac):=by
 refine T.F_a1.ok1 sc_a1 (fun vs H Q E h=>?_) (fun cdv A outer s H vs Q E hr h=>?_)
 ·obtain ⟨p,la,lb,past,ahead,now,n,wy,k,bt,rfl,_⟩:=h; rfl
 ·obtain ⟨p,la,lb,past,ahead,now,n,wy,k,bt,rfl,hc,hz,hn,q⟩:=h;obtain ⟨dx,fs,d,e1,cl,_⟩:=hc.ob;refine ⟨_,(aj (aY (bF (pv 0) T.cl_ae T.m_aj (ok_aj T).up (hr.mono (by first | decide | omega)) T.b_aj .nil aN (aa (pv 1) (aa (aC (Aq T) (hr.mono (by first | decide | omega)) rfl T.mg_putsew T.F_put.kp T.b_put .nil aN (aa (bF (pv 0) T.cl_ae T.m_am (okx_am T) (hr.mono (by first | decide | omega)) T.b_am .nil aN (aa (pv 1) af)) (aa (pv 2) (aa (pv 3) (aa (pv 4) af))))) af))))),?_⟩;left;refine aw e1 (cl.no _ (by decide +kernel)) ?_;left;refine aw e1 (cl.no _ (by decide +kernel)) ?_;left;rcases q with ⟨g,q⟩ | ⟨s,cs,rs,g,q⟩
  ·exact ⟨p,la,lb,past,ahead,now,n,rfl,hc,.inl ⟨g,q⟩⟩
  ·refine ⟨p,la,lb,past,ahead,now,n,rfl,hc,.inr ⟨_,g,fun v hv=>?_⟩⟩;obtain ⟨x,rfl,hx,hs,bc,br⟩:=hv;left;refine ⟨x,wy,k,bt,s,cs,rs,rfl,hx,hs,bc,br,?_⟩;rcases q with q | ⟨bs,a1,q⟩
   ·exact .inl q
   refine .inr ⟨bs,a1,?_⟩;rcases q with q | q | q | ⟨a2,a3,a4,cs',rs',a5,bc',br',q⟩
   ·exact .inl q
   ·exact .inr (.inl q)
   ·exact .inr (.inr (.inl q))
   ·refine .inr (.inr (.inr ⟨a2,a3,a4,cs',rs',a5,fun x' H1 s1 hx'=>?_⟩));left;refine ⟨p,la,lb,past,ahead,now,n,.ref x',(s,cs',rs'),rfl,hc.mono s1,hz,hn,⟨x',rfl,hx',hs,bc',br'⟩,fun lb' H2 m2 nl ch=>?_⟩;left;exact q.back s1 lb' H2 m2 nl ch
theorem lT.back {BS UF:Addr} {s:Int} {cs rs:List Int} {s2:Int} {cs2 rs2:List Int} {H H1:Hp} {Q Q':List Int→Hp→Addr→Prop} {E:XK} (h:lT BS UF s cs rs s2 cs2 rs2 H Q E) (s1:ai H H1) (hq:∀ c H' x,ai H1 H'→Q c H' x→Q' c H' x):lT BS UF s cs rs s2 cs2 rs2 H1 Q' E :=
 ⟨fun a H' z=>h.1 a H' (s1.trans z),fun a k hk b c d H' z e=>h.2.1 a k hk b c d H' (s1.trans z) e,fun a b x H' z=>hq _ H' x z (h.2.2 a b x H' (s1.trans z))⟩
def rq (C CH BN TK NC BS UF NL:Addr):Sp:=fun vs H Q E=>∃ (p la lb:Addr) (past ahead:List Bk) (now:Bk) (n o1 o2 wy:Str),vs=[.ref p,.str n,.str o1,.str o2,.str wy]∧n.cps.size≤1000∧cg C CH H p la lb past now ahead∧past.length≤1000∧now.length≤1000 ∧
 (cm n=false→∀ H',ai H H'→E (.ref BN) none H')∧(cm n=true→(aO now n).isSome=true→∀ H',ai H H'→E (.ref TK) none H') ∧
 (cm n=true→aO now n=none→(aO now o1=none→∀ H',ai H H'→E (.ref NC) none H')∧(∀ c1,aO now o1=some c1→aO now o2=none→∀ H',ai H H'→E (.ref NC) none H') ∧
  ∀ c1 c2,aO now o1=some c1→aO now o2=some c2 →
   (wy="col"→lT BS UF c1.1 c1.2.1 c1.2.2 c2.1 c2.2.1 c2.2.2 H (fun cs' _ _=>bA cs'∧kX C CH H p la past now (bW now n (c1.1,cs',c1.2.2)) Q) E) ∧
   (wy="row"→lT BS UF c1.1 c1.2.2 c1.2.1 c2.1 c2.2.2 c2.2.1 H (fun rs' _ _=>bA rs'∧kX C CH H p la past now (bW now n (c1.1,c1.2.1,rs')) Q) E) ∧
   (¬ wy="col"→¬ wy="row"→∀ H',ai H H'→E (.ref NL) none H'))
theorem okx_a2 (T:Txt K mg t):aU P w K mg base (CX1 P w) 11 t.f_a2 t.d_a2 ["self","name","one","other","way"] (rq t.a_ai t.a_ae t.a_ad t.a_ak t.a_ab t.a_ac t.a_ag t.a_af):=by
 refine T.F_a2.ok1 sc_a2 (fun vs H Q E h=>?_) (fun cdv A outer s H vs Q E hr h=>?_)
 ·obtain ⟨p,la,lb,past,ahead,now,n,o1,o2,wy,rfl,_⟩:=h; rfl
 ·obtain ⟨p,la,lb,past,ahead,now,n,o1,o2,wy,rfl,hsz,hc,hz,hn,k1,k2,k3⟩:=h;obtain ⟨dx,fs,d,e1,cl,_⟩:=hc.ob;refine ⟨_,(aJ (aY (bF (pv 0) T.cl_ae T.m_an (okx_an T) (hr.mono (by first | decide | omega)) T.b_an .nil aN (aa (pv 1) af))) (aj (aY (bF (pv 0) T.cl_ae T.m_aj (ok_aj T).up (hr.mono (by first | decide | omega)) T.b_aj .nil aN (aa (pv 1) (aa (aC (okx_az T) (hr.mono (by first | decide | omega)) rfl T.mg_az T.F_az.kp T.b_az .nil aN (aa (bF (pv 0) T.cl_ae T.m_am (okx_am T) (hr.mono (by first | decide | omega)) T.b_am .nil aN (aa (pv 2) af)) (aa (bF (pv 0) T.cl_ae T.m_am (okx_am T) (hr.mono (by first | decide | omega)) T.b_am .nil aN (aa (pv 3) af)) (aa (pv 4) af)))) af)))))),?_⟩;left;refine aw e1 (cl.no _ (by decide +kernel)) ?_;left;refine ⟨p,la,lb,past,ahead,now,n,rfl,hsz,hc,k1,k2,fun a1 a2 H1 s1=>?_⟩;obtain ⟨k4,k5,k6⟩:=k3 a1 a2;have hc1:=hc.mono s1;have e1':=s1 _ _ e1;left;refine aw e1' (cl.no _ (by decide +kernel)) ?_;left;refine aw e1' (cl.no _ (by decide +kernel)) ?_;left
  cases g1:aO now o1 with
  | none => exact ⟨p, la, lb, past, ahead, now, o1, rfl, hc1, .inl ⟨g1, k4 g1 H1 s1⟩⟩
  | some c1 =>
   refine ⟨p,la,lb,past,ahead,now,o1,rfl,hc1,.inr ⟨c1,g1,fun v1 hv1=>?_⟩⟩;obtain ⟨x1,rfl,hx1,hs1,bc1,br1⟩:=hv1;left;refine aw e1' (cl.no _ (by decide +kernel)) ?_;left
   cases g2:aO now o2 with
   | none=>exact ⟨p,la,lb,past,ahead,now,o2,rfl,hc1,.inl ⟨g2,k5 c1 g1 g2 H1 s1⟩⟩
   | some c2 =>
    refine ⟨p,la,lb,past,ahead,now,o2,rfl,hc1,.inr ⟨c2,g2,fun v2 hv2=>?_⟩⟩;obtain ⟨x2,rfl,hx2,hs2,bc2,br2⟩:=hv2;obtain ⟨k7,k8,k9⟩:=k6 c1 c2 g1 g2;left;refine ⟨x1,x2,wy,c1.1,c2.1,c1.2.1,c1.2.2,c2.2.1,c2.2.2,rfl,hx1,hx2,hs1,hs2,bc1,br1,bc2,br2,fun z=>(k7 z).back s1 fun cs' H2 x s2 q hx=>?_,fun z=>(k8 z).back s1 fun rs' H2 x s2 q hx=>?_,fun z1 z2=>k9 z1 z2 H1 s1⟩
    ·obtain ⟨bc',q⟩:=q;left;refine ⟨p,la,lb,past,ahead,now,n,.ref x,(c1.1,cs',c1.2.2),rfl,hc1.mono s2,hz,hn,⟨x,rfl,hx,hs1,bc',br1⟩,fun lb' H3 m3 nl ch=>?_⟩;left;exact q.back (s1.trans s2) lb' H3 m3 nl ch
    ·obtain ⟨br',q⟩:=q;left;refine ⟨p,la,lb,past,ahead,now,n,.ref x,(c1.1,c1.2.1,rs'),rfl,hc1.mono s2,hz,hn,⟨x,rfl,hx,hs1,bc1,br'⟩,fun lb' H3 m3 nl ch=>?_⟩;left;exact q.back (s1.trans s2) lb' H3 m3 nl ch
def oy (C CH NC BN TK NL:Addr):Sp:=fun vs H Q E=>∃ (p la lb:Addr) (past ahead:List Bk) (now:Bk) (n wy:Str) (k:Int) (o:Str),vs=[.ref p,.str n,.str wy,.int k,.str o]∧o.cps.size≤1000∧cg C CH H p la lb past now ahead∧past.length≤1000∧now.length≤900 ∧
 ((aO now n=none∧E (.ref NC) none H)∨∃ c,aO now n=some c∧((cm o=false∧∀ H',ai H H'→E (.ref BN) none H')∨(cm o=true∧(aO now o).isSome=true∧∀ H',ai H H'→E (.ref TK) none H')∨(cm o=true∧aO now o=none∧rF wy k c.2.1 c.2.2∧∀ H',ai H H'→E (.ref NL) none H') ∨
  (cm o=true∧aO now o=none∧∃ bs,fj wy c.2.1 c.2.2 bs∧0≤k∧k<bs.length∧∃ c1 c2:Clo,
   ((wy="col"∧c1=(c.1,c.2.1.take k.toNat,c.2.2)∧c2=(fz c.1 c.2.1 c.2.2 (k+1) 0,c.2.1.drop (k.toNat+1),shl c.2.2 (k+1)))∨(wy="row"∧c1=(c.1,c.2.1,c.2.2.take k.toNat)∧c2=(fz c.1 c.2.2 c.2.1 (k+1) 0,shl c.2.1 (k+1),c.2.2.drop (k.toNat+1)))) ∧
   kX C CH H p la past now (bW (bW now n c1) o c2) Q)))
theorem d8 {bk:Bk} {n:Str} {c:Clo}:(bW bk n c).length≤bk.length+1:=by
 unfold bW
 split
 ·rw [List.length_map]; omega
 ·rw [List.length_append]; exact Nat.le_refl _
theorem okx_aE (T:Txt K mg t):aU P w K mg base (CX1 P w) 11 t.f_aE t.d_aE ["self","name","way","k","other"] (oy t.a_ai t.a_ae t.a_ab t.a_ad t.a_ak t.a_af):=by
 refine T.F_aE.ok1 sc_aE (fun vs H Q E h=>?_) (fun cdv A outer s H vs Q E hr h=>?_)
 ·obtain ⟨p,la,lb,past,ahead,now,n,wy,k,o,rfl,_⟩:=h; rfl
 ·obtain ⟨p,la,lb,past,ahead,now,n,wy,k,o,rfl,hsz,hc,hz,hn,q⟩:=h;obtain ⟨dx,fs,d,e1,cl,_⟩:=hc.ob;refine aI (aF (i:=5) sc_aE.nd rfl (Or.inl rfl) (bF (pv 0) T.cl_ae T.m_am (okx_am T) (hr.mono (by first | decide | omega)) T.b_am .nil aN (aa (pv 1) af))) fun _ _=>aI (aY (bF (pv 0) T.cl_ae T.m_an (okx_an T) (hr.mono (by first | decide | omega)) T.b_an .nil aN (aa (pv 4) af))) fun _ _=>aI (aF (i:=6) sc_aE.nd rfl (Or.inl rfl) (aC (okx_bj T) (hr.mono (by first | decide | omega)) rfl T.mg_bj T.F_bj.kp T.b_bj .nil aN (aa (pv 5) (aa (pv 2) (aa (pv 3) af))))) fun _ _=>aI (aF (i:=7) sc_aE.nd rfl (Or.inl rfl) (aW jD rfl T.no_dict (by rfl) (aa (bB K rfl (pv 0) rfl) af))) fun _ _=>aI (eG (cP hr) (pv 7) (pv 1) (ar (aq K rfl) (pv 6) ag (fun _ _=>rfl)) rfl) fun _ _=>aI (eG (cP hr) (pv 7) (pv 4) (ar (aq K rfl) (pv 6) ag (fun _ _=>rfl)) rfl) fun _ _=>cK (aY (bF (pv 0) T.cl_ae T.m_av (ok_av T).up (hr.mono (by first | decide | omega)) T.b_av .nil aN (aa (pv 7) af))) fun _ _=>?_;left;refine aw e1 (cl.no _ (by decide +kernel)) ?_;left;rcases q with ⟨g,q⟩ | ⟨c,g,q⟩
  ·exact ⟨p,la,lb,past,ahead,now,n,rfl,hc,.inl ⟨g,q⟩⟩
  ·refine ⟨p,la,lb,past,ahead,now,n,rfl,hc,.inr ⟨c,g,fun v hv=>?_⟩⟩;obtain ⟨x,rfl,hx,hs,bc,br⟩:=hv;left;refine aw e1 (cl.no _ (by decide +kernel)) ?_;left;rcases q with ⟨a,q⟩ | ⟨a,b,q⟩ | ⟨a,b,nl,q⟩ | ⟨a,b,bs,iw,h0,h1,c1,c2,hcc,q⟩
   ·exact ⟨p,la,lb,past,ahead,now,o,rfl,hsz,hc,fun _=>q,fun z=>absurd (z.symm.trans a) (by decide),fun z=>absurd (z.symm.trans a) (by decide)⟩
   ·exact ⟨p,la,lb,past,ahead,now,o,rfl,hsz,hc,fun z=>absurd (z.symm.trans a) (by decide),fun _ _=>q,fun _ z=>by rw [z] at b; cases b⟩
   ·refine ⟨p,la,lb,past,ahead,now,o,rfl,hsz,hc,fun z=>absurd (z.symm.trans a) (by decide),fun _ z=>(by rw [b] at z; cases z),fun _ _ H1 s1=>?_⟩;left;exact ⟨x,wy,k,c.1,c.2.1,c.2.2,rfl,hx.mono s1,hs,bc,br,.inr ⟨nl,q H1 s1⟩⟩
   ·refine ⟨p,la,lb,past,ahead,now,o,rfl,hsz,hc,fun z=>absurd (z.symm.trans a) (by decide),fun _ z=>(by rw [b] at z; cases z),fun _ _ H1 s1=>?_⟩;left;refine ⟨x,wy,k,c.1,c.2.1,c.2.2,rfl,hx.mono s1,hs,bc,br,.inl ⟨bs,iw,h0,h1,fun tp x1 x2 H2 s2 et gc gr=>?_⟩⟩
    have hv:fx t.a_ai H2 (.ref x1) c1∧fx t.a_ai H2 (.ref x2) c2:=by
     rcases hcc with ⟨rfl,rfl,rfl⟩ | ⟨rfl,rfl,rfl⟩
     ·obtain ⟨y1,y2⟩:=gc rfl;exact ⟨⟨x1,rfl,y1,hs,iQ bc _,br⟩,⟨x2,rfl,y2,jE _ _ _ _ _,iP bc _,jW br _⟩⟩
     ·obtain ⟨y1,y2⟩:=gr rfl;exact ⟨⟨x1,rfl,y1,hs,bc,iQ br _⟩,⟨x2,rfl,y2,jE _ _ _ _ _,jW bc _,iP br _⟩⟩
    obtain ⟨hv1,hv2⟩:=hv;have s12:=s1.trans s2;have hc2:=hc.mono s12;obtain ⟨dx2,fs2,d2,i1,i2,kvs,e2,pw⟩:=hc2.ob;have lk:kvs.length=now.length:=Paired.length pw;left;refine bD i1 T.cl_ae T.naC_cloths i2.c ?_;left;refine ⟨d2,kvs,rfl,e2,fun d3 n3=>?_⟩;have s3:=ai.new (o:=HO.dK kvs) n3;have f3:=ae (H:=H2) (a:=d3) (o:=HO.dK kvs);generalize upd H2 d3 (HO.dK kvs)=H3 at s3 f3 ⊢;left;refine ak (SqT.of (s3 _ _ et)) rfl ?_;left;refine ⟨d3,_,rfl,jc.k (k:=Sum.inr n) f3 (by rw [lk]; exact aP (by omega)),?_⟩;have s4:ai H2 (upd H3 d3 (.dK (cH kvs (Sum.inr n) (.ref x1)))):=s3.later n3;have f4:=ae (H:=H3) (a:=d3) (o:=HO.dK (cH kvs (Sum.inr n) (.ref x1)));have p4:=(pw.but (s4.butL []) Apt.nil).put n (hv1.mono s4)
    have l4:(cH kvs (Sum.inr n) (.ref x1)).length≤now.length+1:=by
     rw [Paired.length p4]; exact d8
    generalize hk4:cH kvs (Sum.inr n) (.ref x1)=kvs4 at f4 p4 l4 s4 ⊢;generalize upd H3 d3 (.dK kvs4)=H4 at s4 f4 p4 ⊢;left;refine ak (SqT.of (s4 _ _ et)) rfl ?_;left;refine ⟨d3,_,rfl,jc.k (k:=Sum.inr o) f4 (aP (by omega)),?_⟩;have s5:ai H2 (upd H4 d3 (.dK (cH kvs4 (Sum.inr o) (.ref x2)))):=s4.later n3;have f5:=ae (H:=H4) (a:=d3) (o:=HO.dK (cH kvs4 (Sum.inr o) (.ref x2)));have p5:=((pw.but (s5.butL []) Apt.nil).put n (hv1.mono s5)).put o (hv2.mono s5);rw [hk4] at p5;generalize upd H4 d3 (.dK (cH kvs4 (Sum.inr o) (.ref x2)))=H5 at s5 f5 p5 ⊢;left;refine aw (s5 _ _ i1) (i2.no _ (by decide +kernel)) ?_;left;refine ⟨p,la,lb,d3,past,ahead,now,_,rfl,hc2.mono s5,hz,⟨_,f5,p5⟩,fun lb' H6 m6 nl ch=>?_⟩;left;exact q.back (s12.trans s5) lb' H6 m6 nl ch
def kg (wd W:Str) (l:List V):List V:=if decide (wd=W)=true then l++[V.str W] else l
theorem gZ {wd W:Str} {l:List V} {n:Nat} (h:l.length≤n):(kg wd W l).length≤n+1:=by
 unfold kg
 split
 ·rw [List.length_append,List.length_singleton]; omega
 ·omega
structure lO (K:W.Frag) (t:Ad) (C:Addr) (wd:Str):Prop where
 xi:fi K C
 k1:W.kitOne K (.ref C) (.ref t.a_ad)=some (decide (wd="name"))
 k2:W.kitOne K (.ref C) (.ref t.a_ak)=some (decide (wd="taken"))
 k3:W.kitOne K (.ref C) (.ref t.a_ab)=some (decide (wd="cloth"))
 k4:W.kitOne K (.ref C) (.ref t.a_af)=some (decide (wd="line"))
 k5:W.kitOne K (.ref C) (.ref t.a_ah)=some (decide (wd="bit"))
 k6:W.kitOne K (.ref C) (.ref t.a_ac)=some (decide (wd="size"))
 k7:W.kitOne K (.ref C) (.ref t.a_ag)=some (decide (wd="unfit"))
 k8:W.kitOne K (.ref C) (.ref t.a_aa)=some (decide (wd="left"))
 fin:(kg wd "left" (kg wd "unfit" (kg wd "size" (kg wd "bit" (kg wd "line" (kg wd "cloth" (kg wd "taken" (kg wd "name" []))))))))=[V.str wd]
theorem Txt.c8_BadName (T:Txt K mg t):lO K t t.a_ad "name":=⟨T.xi_ad,T.kt_ad_ad,T.kt_ad_ak,T.kt_ad_ab,T.kt_ad_af,T.kt_ad_ah,T.kt_ad_ac,T.kt_ad_ag,T.kt_ad_aa,by decide +kernel⟩
theorem Txt.c8_Taken (T:Txt K mg t):lO K t t.a_ak "taken":=⟨T.xi_ak,T.kt_ak_ad,T.kt_ak_ak,T.kt_ak_ab,T.kt_ak_af,T.kt_ak_ah,T.kt_ak_ac,T.kt_ak_ag,T.kt_ak_aa,by decide +kernel⟩
theorem Txt.c8_NoCloth (T:Txt K mg t):lO K t t.a_ab "cloth":=⟨T.xi_ab,T.kt_ab_ad,T.kt_ab_ak,T.kt_ab_ab,T.kt_ab_af,T.kt_ab_ah,T.kt_ab_ac,T.kt_ab_ag,T.kt_ab_aa,by decide +kernel⟩
theorem Txt.c8_NoLine (T:Txt K mg t):lO K t t.a_af "line":=⟨T.xi_af,T.kt_af_ad,T.kt_af_ak,T.kt_af_ab,T.kt_af_af,T.kt_af_ah,T.kt_af_ac,T.kt_af_ag,T.kt_af_aa,by decide +kernel⟩
theorem Txt.c8_BadBit (T:Txt K mg t):lO K t t.a_ah "bit":=⟨T.xi_ah,T.kt_ah_ad,T.kt_ah_ak,T.kt_ah_ab,T.kt_ah_af,T.kt_ah_ah,T.kt_ah_ac,T.kt_ah_ag,T.kt_ah_aa,by decide +kernel⟩
theorem Txt.c8_BadSize (T:Txt K mg t):lO K t t.a_ac "size":=⟨T.xi_ac,T.kt_ac_ad,T.kt_ac_ak,T.kt_ac_ab,T.kt_ac_af,T.kt_ac_ah,T.kt_ac_ac,T.kt_ac_ag,T.kt_ac_aa,by decide +kernel⟩
theorem Txt.c8_Unfit (T:Txt K mg t):lO K t t.a_ag "unfit":=⟨T.xi_ag,T.kt_ag_ad,T.kt_ag_ak,T.kt_ag_ab,T.kt_ag_af,T.kt_ag_ah,T.kt_ag_ac,T.kt_ag_ag,T.kt_ag_aa,by decide +kernel⟩
theorem Txt.c8_NothingLeft (T:Txt K mg t):lO K t t.a_aa "left":=⟨T.xi_aa,T.kt_aa_ad,T.kt_aa_ak,T.kt_aa_ab,T.kt_aa_af,T.kt_aa_ah,T.kt_aa_ac,T.kt_aa_ag,T.kt_aa_aa,by decide +kernel⟩
def sp_bq (K:W.Frag) (t:Ad):Sp:=fun vs H Q _=>∃ (e C:Addr) (xo:Option Addr) (wd:Str),vs=[.ref e]∧H e=some (xh e C xo)∧lO K t C wd∧∀ l H',ai H H'→H l=none→H' l=some (.lst [.str wd])→Q (.ref l) H'
theorem wg (T:Txt K mg t):xj P w K mg base 1 t.f_bq t.d_bq ["_law_e"] (sp_bq K t):=by
 refine T.F_bq.okQ sc_bq (fun vs H Q E h=>?_) (fun cdv A outer s H vs Q E hr h=>?_)
 ·obtain ⟨e,C,xo,wd,rfl,_⟩:=h; rfl
 ·obtain ⟨e,C,xo,wd,rfl,he,c,k⟩:=h;refine aI (aF (i:=1) sc_bq.nd rfl (Or.inl rfl) (bP af)) fun _ _=>aI (c9 (aL (bS (ax (cL K rfl) rfl T.no_bh (by rfl) (aa (pv 0) (aa (dA (v:=.ref _) rfl T.mg_ad rfl) af)))) (aj (aY (h9 K rfl PySem.F.plainAttrs_list PySem.F.slot_list_append PySem.F.type_list_append bT (pv 1) (aa av af)))) aA)) fun _ _=>aI (c9 (aL (bS (ax (cL K rfl) rfl T.no_bh (by rfl) (aa (pv 0) (aa (dA (v:=.ref _) rfl T.mg_ak rfl) af)))) (aj (aY (h9 K rfl PySem.F.plainAttrs_list PySem.F.slot_list_append PySem.F.type_list_append bT (pv 1) (aa av af)))) aA)) fun _ _=>aI (c9 (aL (bS (ax (cL K rfl) rfl T.no_bh (by rfl) (aa (pv 0) (aa (dA (v:=.ref _) rfl T.mg_ab rfl) af)))) (aj (aY (h9 K rfl PySem.F.plainAttrs_list PySem.F.slot_list_append PySem.F.type_list_append bT (pv 1) (aa av af)))) aA)) fun _ _=>aI (c9 (aL (bS (ax (cL K rfl) rfl T.no_bh (by rfl) (aa (pv 0) (aa (dA (v:=.ref _) rfl T.mg_af rfl) af)))) (aj (aY (h9 K rfl PySem.F.plainAttrs_list PySem.F.slot_list_append PySem.F.type_list_append bT (pv 1) (aa av af)))) aA)) fun _ _=>aI (c9 (aL (bS (ax (cL K rfl) rfl T.no_bh (by rfl) (aa (pv 0) (aa (dA (v:=.ref _) rfl T.mg_ah rfl) af)))) (aj (aY (h9 K rfl PySem.F.plainAttrs_list PySem.F.slot_list_append PySem.F.type_list_append bT (pv 1) (aa av af)))) aA)) fun _ _=>aI (c9 (aL (bS (ax (cL K rfl) rfl T.no_bh (by rfl) (aa (pv 0) (aa (dA (v:=.ref _) rfl T.mg_ac rfl) af)))) (aj (aY (h9 K rfl PySem.F.plainAttrs_list PySem.F.slot_list_append PySem.F.type_list_append bT (pv 1) (aa av af)))) aA)) fun _ _=>aI (c9 (aL (bS (ax (cL K rfl) rfl T.no_bh (by rfl) (aa (pv 0) (aa (dA (v:=.ref _) rfl T.mg_ag rfl) af)))) (aj (aY (h9 K rfl PySem.F.plainAttrs_list PySem.F.slot_list_append PySem.F.type_list_append bT (pv 1) (aa av af)))) aA)) fun _ _=>aI (c9 (aL (bS (ax (cL K rfl) rfl T.no_bh (by rfl) (aa (pv 0) (aa (dA (v:=.ref _) rfl T.mg_aa rfl) af)))) (aj (aY (h9 K rfl PySem.F.plainAttrs_list PySem.F.slot_list_append PySem.F.type_list_append bT (pv 1) (aa av af)))) aA)) fun _ _=>cK (ay (pv 1)) fun _ _=>?_;left;refine ⟨Nat.zero_le _,fun l nl=>?_⟩;have s0:ai H (upd H l (.lst [])):=ai.new nl;have f0:=ae (H:=H) (a:=l) (o:=HO.lst []);have z0:([]:List V).length≤0:=Nat.le_refl _;generalize upd H l (HO.lst [])=H0 at s0 f0 ⊢;left;refine de (fun σ' H'=>σ'=[some (.ref e),some (.ref l)]∧ai H H'∧H' l=some (.lst (kg wd "name" []))) ?_ ?_
  ·left;refine fG (s0 _ _ he) c.xi c.k1 ?_;left
   cases hd:decide (wd="name") with
   | false =>
    left;exact ⟨rfl,s0,by unfold kg; rw [hd]; exact f0⟩
   | true =>
    left;refine cF f0 ?_;left;refine bU f0 (aP (by omega)) ?_;left;exact ⟨rfl,s0.later nl,by rw [ae]; unfold kg; rw [hd]; rfl⟩
  rintro σ1 H1 ⟨rfl,s1,f1⟩;have z1:=gZ (wd:=wd) (W:="name") z0;left;refine de (fun σ' H'=>σ'=[some (.ref e),some (.ref l)]∧ai H H'∧H' l=some (.lst (kg wd "taken" (kg wd "name" [])))) ?_ ?_
  ·left;refine fG (s1 _ _ he) c.xi c.k2 ?_;left
   cases hd:decide (wd="taken") with
   | false =>
    left;exact ⟨rfl,s1,by unfold kg; rw [hd]; exact f1⟩
   | true =>
    left;refine cF f1 ?_;left;refine bU f1 (aP (by omega)) ?_;left;exact ⟨rfl,s1.later nl,by rw [ae]; unfold kg; rw [hd]; rfl⟩
  rintro σ2 H2 ⟨rfl,s2,f2⟩;have z2:=gZ (wd:=wd) (W:="taken") z1;left;refine de (fun σ' H'=>σ'=[some (.ref e),some (.ref l)]∧ai H H'∧H' l=some (.lst (kg wd "cloth" (kg wd "taken" (kg wd "name" []))))) ?_ ?_
  ·left;refine fG (s2 _ _ he) c.xi c.k3 ?_;left
   cases hd:decide (wd="cloth") with
   | false =>
    left;exact ⟨rfl,s2,by unfold kg; rw [hd]; exact f2⟩
   | true =>
    left;refine cF f2 ?_;left;refine bU f2 (aP (by omega)) ?_;left;exact ⟨rfl,s2.later nl,by rw [ae]; unfold kg; rw [hd]; rfl⟩
  rintro σ3 H3 ⟨rfl,s3,f3⟩;have z3:=gZ (wd:=wd) (W:="cloth") z2;left;refine de (fun σ' H'=>σ'=[some (.ref e),some (.ref l)]∧ai H H'∧H' l=some (.lst (kg wd "line" (kg wd "cloth" (kg wd "taken" (kg wd "name" [])))))) ?_ ?_
  ·left;refine fG (s3 _ _ he) c.xi c.k4 ?_;left
   cases hd:decide (wd="line") with
   | false =>
    left;exact ⟨rfl,s3,by unfold kg; rw [hd]; exact f3⟩
   | true =>
    left;refine cF f3 ?_;left;refine bU f3 (aP (by omega)) ?_;left;exact ⟨rfl,s3.later nl,by rw [ae]; unfold kg; rw [hd]; rfl⟩
  rintro σ4 H4 ⟨rfl,s4,f4⟩;have z4:=gZ (wd:=wd) (W:="line") z3;left;refine de (fun σ' H'=>σ'=[some (.ref e),some (.ref l)]∧ai H H'∧H' l=some (.lst (kg wd "bit" (kg wd "line" (kg wd "cloth" (kg wd "taken" (kg wd "name" []))))))) ?_ ?_
  ·left;refine fG (s4 _ _ he) c.xi c.k5 ?_;left
   cases hd:decide (wd="bit") with
   | false =>
    left;exact ⟨rfl,s4,by unfold kg; rw [hd]; exact f4⟩
   | true =>
    left;refine cF f4 ?_;left;refine bU f4 (aP (by omega)) ?_;left;exact ⟨rfl,s4.later nl,by rw [ae]; unfold kg; rw [hd]; rfl⟩
  rintro σ5 H5 ⟨rfl,s5,f5⟩;have z5:=gZ (wd:=wd) (W:="bit") z4;left;refine de (fun σ' H'=>σ'=[some (.ref e),some (.ref l)]∧ai H H'∧H' l=some (.lst (kg wd "size" (kg wd "bit" (kg wd "line" (kg wd "cloth" (kg wd "taken" (kg wd "name" [])))))))) ?_ ?_
  ·left;refine fG (s5 _ _ he) c.xi c.k6 ?_;left
   cases hd:decide (wd="size") with
   | false =>
    left;exact ⟨rfl,s5,by unfold kg; rw [hd]; exact f5⟩
   | true =>
    left;refine cF f5 ?_;left;refine bU f5 (aP (by omega)) ?_;left;exact ⟨rfl,s5.later nl,by rw [ae]; unfold kg; rw [hd]; rfl⟩
  rintro σ6 H6 ⟨rfl,s6,f6⟩;have z6:=gZ (wd:=wd) (W:="size") z5;left;refine de (fun σ' H'=>σ'=[some (.ref e),some (.ref l)]∧ai H H'∧H' l=some (.lst (kg wd "unfit" (kg wd "size" (kg wd "bit" (kg wd "line" (kg wd "cloth" (kg wd "taken" (kg wd "name" []))))))))) ?_ ?_
  ·left;refine fG (s6 _ _ he) c.xi c.k7 ?_;left
   cases hd:decide (wd="unfit") with
   | false =>
    left;exact ⟨rfl,s6,by unfold kg; rw [hd]; exact f6⟩
   | true =>
    left;refine cF f6 ?_;left;refine bU f6 (aP (by omega)) ?_;left;exact ⟨rfl,s6.later nl,by rw [ae]; unfold kg; rw [hd]; rfl⟩
  rintro σ7 H7 ⟨rfl,s7,f7⟩;have z7:=gZ (wd:=wd) (W:="unfit") z6;left;refine de (fun σ' H'=>σ'=[some (.ref e),some (.ref l)]∧ai H H'∧H' l=some (.lst (kg wd "left" (kg wd "unfit" (kg wd "size" (kg wd "bit" (kg wd "line" (kg wd "cloth" (kg wd "taken" (kg wd "name" [])))))))))) ?_ ?_
  ·left;refine fG (s7 _ _ he) c.xi c.k8 ?_;left
   cases hd:decide (wd="left") with
   | false =>
    left;exact ⟨rfl,s7,by unfold kg; rw [hd]; exact f7⟩
   | true =>
    left;refine cF f7 ?_;left;refine bU f7 (aP (by omega)) ?_;left;exact ⟨rfl,s7.later nl,by rw [ae]; unfold kg; rw [hd]; rfl⟩
  rintro σ8 H8 ⟨rfl,s8,f8⟩;have z8:=gZ (wd:=wd) (W:="left") z7;left;rw [c.fin] at f8;exact k l H8 s8 nl f8
def sp_bm (C:Addr):Sp:=fun vs H Q _=>∃ (p:Addr) (s:Int) (cs rs:List Int),vs=[.ref p]∧aR C H p s cs rs∧∀ tp c r H',ai H H'→H c=none→H r=none→H' tp=some (.tup [.int s,.ref c,.ref r])→H' c=some (.lst (cs.map V.int))→H' r=some (.lst (rs.map V.int))→Q (.ref tp) H'
theorem ok_bm (T:Txt K mg t):aU P w K mg base CX0 2 t.f_bm t.d_bm ["_law_cloth"] (sp_bm t.a_ai):=by
 refine T.F_bm.ok sc_bm (fun vs H Q E h=>?_) (fun cdv A outer s H vs Q E hr h=>?_)
 ·obtain ⟨p,s,cs,rs,rfl,_⟩:=h; rfl
 ·obtain ⟨p,s,cs,rs,rfl,hc,z⟩:=h;obtain ⟨dx,a,b,e1,e2,e3⟩:=hc.ob;refine ⟨_,(aj (ay (bq (aa (aT (pv 0) T.cl_ai T.m_ao (ok_ao T) (hr.mono (by first | decide | omega)) T.b_ao .nil aS) (aa (aT (pv 0) T.cl_ai T.m_au (ok_au T) (hr.mono (by first | decide | omega)) T.b_au .nil aS) (aa (aT (pv 0) T.cl_ai T.m_ar (ok_ar T) (hr.mono (by first | decide | omega)) T.b_ar .nil aS) af)))))),?_⟩;left;refine aw e1 (dH _ _ _ (by decide +kernel)) ?_;left;refine ⟨p,s,cs,rs,rfl,hc,?_⟩;left;refine aw e1 (dH _ _ _ (by decide +kernel)) ?_;left;refine ⟨p,s,cs,rs,rfl,hc,fun l1 n1=>?_⟩;have s1:=ai.new (o:=HO.lst (cs.map V.int)) n1;left;refine aw (s1 _ _ e1) (dH _ _ _ (by decide +kernel)) ?_;left;refine ⟨p,s,cs,rs,rfl,hc.mono s1,fun l2 n2=>?_⟩;have s2:=ai.new (o:=HO.lst (rs.map V.int)) n2;left;refine ⟨by show 3≤sizeLine; decide,fun tp ntp=>?_⟩;have s3:=ai.new (o:=HO.tup [V.int s,V.ref l1,V.ref l2]) ntp;exact z tp l1 l2 _ (s1.trans (s2.trans s3)) n1 (s1.free n2) ae (s3 _ _ (s2 _ _ ae)) (s3 _ _ ae)
def sC (s:Int) (cs rs:List Int):PyData:=.tuple [.int s,.list (cs.map PyData.int),.list (rs.map PyData.int)]
theorem sJ {s:Int} {cs rs:List Int} (bc:bA cs) (br:bA rs):Ok3 (sC s cs rs):=by
 refine .inr (.inr ⟨_,rfl,by show 3≤1000; decide,fun e he=>?_⟩);simp only [List.mem_cons,List.not_mem_nil,or_false] at he;rcases he with rfl | rfl | rfl
 ·exact u3 _
 ·exact mn (by have:=bc.1; omega)
 ·exact mn (by have:=br.1; omega)
theorem kx {H:Hp} {tp c r:Addr} {s:Int} {cs rs:List Int} (h:H tp=some (.tup [.int s,.ref c,.ref r])) (hc:H c=some (.lst (cs.map V.int))) (hr:H r=some (.lst (rs.map V.int))):Rep H (sC s cs rs) (.ref tp):=by
 have r1:=fY hc;have r2:=fY hr;simp only [sC,Rep,RepL] at r1 r2 ⊢;exact ⟨tp,_,rfl,h,_,_,rfl,rfl,_,_,rfl,r1,_,_,rfl,r2,rfl⟩
def cU (H:Hp) (q:Addr) (c:Clo):Prop:=∃ a b,H q=some (.tup [.int c.1,.ref a,.ref b])∧H a=some (.lst (c.2.1.map V.int))∧H b=some (.lst (c.2.2.map V.int))
theorem cU.mono {H H':Hp} {q:Addr} {c:Clo} (s:ai H H') (h:cU H q c):cU H' q c:=by
 obtain ⟨a,b,h1,h2,h3⟩:=h;exact ⟨a,b,s _ _ h1,s _ _ h2,s _ _ h3⟩
def dX (c:Clo):Prop:=(c.1=0∨c.1=1)∧bA c.2.1∧bA c.2.2
theorem bf {c:Bool} {α β:Prop} (h:c=false) (q:β):if c=true then α else β:=by subst h; exact q
theorem bO {c:Bool} {α β:Prop} (h:c=true) (q:α):if c=true then α else β:=by subst h; exact q
def PwL (H:Hp) (kvs:List (Key×V)) (bk:Bk):Prop:=Paired (fun (kv:Key×V) (nc:Str×Clo)=>kv.1=Sum.inr nc.1∧∃ q,kv.2=.ref q∧cU H q nc.2) kvs bk
def LB (H:Hp) (b:Addr) (bk:Bk):Prop:=∃ kvs,H b=some (.dK kvs)∧PwL H kvs bk
theorem LB.mono {H H':Hp} {b:Addr} {bk:Bk} (s:ai H H') (h:LB H b bk):LB H' b bk:=by
 obtain ⟨kvs,e,p⟩:=h;exact ⟨kvs,s _ _ e,Paired.mapP p fun _ _ ⟨z,q,e,r⟩=>⟨z,q,e,r.mono s⟩⟩
theorem PwL.get {H:Hp} {kvs:List (Key×V)} {bk:Bk} (h:PwL H kvs bk) (n:Str):(dW kvs (Sum.inr n)=none∧aO bk n=none)∨∃ q c,dW kvs (Sum.inr n)=some (.ref q)∧aO bk n=some c∧cU H q c:=by
 induction h with
 | nil=>exact .inl ⟨rfl,rfl⟩
 | @cons p nc ps ncs r _ ih =>
  by_cases e:nc.1=n
  ·obtain ⟨r1,q,r2,r3⟩:=r;exact .inr ⟨q,nc.2,by rw [gj ((dJ r1).mpr e),r2],by unfold aO; rw [List.find?_cons_of_pos (by simpa using e)]; rfl,r3⟩
  ·have e1:dW (p::ps) (Sum.inr n)=dW ps (Sum.inr n):=gi fun z=>e ((dJ r.1).mp z);have e2:aO (nc::ncs) n=aO ncs n:=by unfold aO; rw [List.find?_cons_of_neg (by simpa using e)]
   rw [e1,e2]; exact ih
def dm (bk:Bk) (n:Str):Str:=if cm n=true then (if (aO bk n).isSome=true then "taken" else "") else "name"
def aM (wy:Str) (c:Clo):List Int:=if wy="row" then c.2.2 else c.2.1
def bV (c:Clo) (wy:Str) (k more:Int):Str:=if ("col"=wy∨"row"=wy)∧0≤k∧k<(aM wy c).length+more then "" else "line"
def cC (c:Clo) (wy:Str) (bs:List Int):Clo:=if wy="col" then (c.1,bs,c.2.2) else (c.1,c.2.1,bs)
def b7 (wy:Str) (c:Clo):List Int:=if wy="row" then c.2.1 else c.2.2
def sdI (wy:Str):Int:=1+(if decide (wy="row")=true then 1 else 0)
theorem cU.side {H:Hp} {q:Addr} {c:Clo} (h:cU H q c) (wy:Str):∃ a b x y,H q=some (.tup [.int c.1,.ref a,.ref b])∧H a=some (.lst (c.2.1.map V.int))∧H b=some (.lst (c.2.2.map V.int))∧atI [V.int c.1,V.ref a,V.ref b] (sdI wy)=some (.ref x)∧H x=some (.lst ((aM wy c).map V.int))∧atI [V.int c.1,V.ref a,V.ref b] (3 - sdI wy)=some (.ref y)∧H y=some (.lst ((b7 wy c).map V.int)):=by
 obtain ⟨a,b,h1,h2,h3⟩:=h;unfold sdI aM b7;by_cases e:wy="row"
 ·rw [decide_eq_true e,if_pos rfl,if_pos e,if_pos e];exact ⟨a,b,b,a,h1,h2,h3,rfl,h3,rfl,h2⟩
 ·rw [decide_eq_false e,if_neg (by decide),if_neg e,if_neg e];exact ⟨a,b,a,b,h1,h2,h3,rfl,h2,rfl,h3⟩
def sp_be:Sp:=fun vs H Q _=>∃ (q l:Addr) (wy:Str) (c:Clo) (bs:List Int),vs=[.ref q,.str wy,.ref l]∧cU H q c∧H l=some (.lst (bs.map V.int))∧∀ r H',ai H H'→cU H' r (cC c wy bs)→Q (.ref r) H'
theorem ok_be (T:Txt K mg t):aU P w K mg base CX0 1 t.f_be t.d_be ["_law_plan","_law_way","_law_bits_here"] sp_be:=by
 refine T.F_be.ok sc_be (fun vs H Q E h=>?_) (fun cdv A outer s H vs Q E hr h=>?_)
 ·obtain ⟨q,l,wy,c,bs,rfl,_⟩:=h; rfl
 ·obtain ⟨q,l,wy,c,bs,rfl,⟨a,b,hq,ha,hb⟩,hl,k⟩:=h;refine ⟨_,(aJ (aL (aD bJ (pv 1) av (aG _)) (aj (ay (bq (aa (ar (aq K rfl) (pv 0) ag (fun _ _=>rfl)) (aa (pv 2) (aa (ar (aq K rfl) (pv 0) ag (fun _ _=>rfl)) af)))))) aA) (aj (ay (bq (aa (ar (aq K rfl) (pv 0) ag (fun _ _=>rfl)) (aa (ar (aq K rfl) (pv 0) ag (fun _ _=>rfl)) (aa (pv 2) af))))))),?_⟩;unfold cC at k;left;by_cases hw:wy="col"
  ·refine bO (decide_eq_true hw) ?_;rw [if_pos hw] at k;left;refine ak (SqT.of hq) rfl ?_;left;refine ak (SqT.of hq) rfl ?_;left;refine ⟨by show 3≤sizeLine; decide,fun r nr=>?_⟩;have sr:=ai.new (o:=HO.tup [V.int c.1,V.ref l,V.ref b]) nr;have er:=ae (H:=H) (a:=r) (o:=HO.tup [V.int c.1,V.ref l,V.ref b]);generalize upd H r (HO.tup [V.int c.1,V.ref l,V.ref b])=H1 at sr er ⊢;exact k r H1 sr ⟨l,b,er,sr _ _ hl,sr _ _ hb⟩
  ·refine bf (decide_eq_false hw) ?_;rw [if_neg hw] at k;left;refine ak (SqT.of hq) rfl ?_;left;refine ak (SqT.of hq) rfl ?_;left;refine ⟨by show 3≤sizeLine; decide,fun r nr=>?_⟩;have sr:=ai.new (o:=HO.tup [V.int c.1,V.ref a,V.ref l]) nr;have er:=ae (H:=H) (a:=r) (o:=HO.tup [V.int c.1,V.ref a,V.ref l]);generalize upd H r (HO.tup [V.int c.1,V.ref a,V.ref l])=H1 at sr er ⊢;exact k r H1 sr ⟨a,l,er,sr _ _ ha,sr _ _ hl⟩
def sp_aY:Sp:=fun vs H Q _=>∃ (q:Addr) (wy:Str) (k m:Int) (c:Clo),vs=[.ref q,.str wy,.int k,.int m]∧cU H q c∧PyData.strOk wy=true∧∀ H',ai H H'→Q (.str (bV c wy k m)) H'
theorem ok_aY (T:Txt K mg t):aU P w K mg base CX0 1 t.f_aY t.d_aY ["_law_plan","_law_way","_law_k","_law_more"] sp_aY:=by
 refine T.F_aY.ok sc_aY (fun vs H Q E h=>?_) (fun cdv A outer s H vs Q E hr h=>?_)
 ·obtain ⟨q,wy,k,m,c,rfl,_⟩:=h; rfl
 ·obtain ⟨q,wy,k,m,c,rfl,⟨a,b,hq,ha,hb⟩,ow,z⟩:=h;refine aI (aL (aD (lG hr.units) (pv 1) (bq (aa av (aa av af))) rfl) (aj (ay av)) aA) fun _ _=>aI (aL (PW.pt (jb (aD kS (pv 2) ag (aG _)) (gI (aD DD (pv 2) (aB aZ (ax (bH K rfl) rfl T.no_len (by rfl) (aa (ar (aq K rfl) (pv 0) (aB aZ ag (aW j8 rfl T.no_int (by rfl) (aa (cO bJ (pv 1) av (aG _)) af))) (fun _ _=>rfl)) af)) (pv 3)) (aG _))))) (aj (ay av)) aA) fun _ _=>cK (ay av) fun _ _=>?_;left;refine ⟨by show 2≤sizeLine; decide,fun r nr=>?_⟩;have sr:=ai.new (o:=HO.tup [V.str "col",V.str "row"]) nr;have er:=ae (H:=H) (a:=r) (o:=HO.tup [V.str "col",V.str "row"]);generalize upd H r (HO.tup [V.str "col",V.str "row"])=H1 at sr er ⊢;refine mL er (by decide +kernel) (by decide +kernel) ow ?_;by_cases hw:"col"=wy∨"row"=wy
  rotate_left
  ·have h1:decide (("col":Str)=wy)=false:=decide_eq_false fun e=>hw (.inl e);have h2:decide (("row":Str)=wy)=false:=decide_eq_false fun e=>hw (.inr e);rw [h1,h2];left;have:=z H1 sr
   unfold bV at this;rw [if_neg fun e=>hw e.1] at this;exact this
  have h1:(!(decide (("col":Str)=wy)||decide (("row":Str)=wy)))=false:=by
   rcases hw with e | e
   ·rw [decide_eq_true e]; rfl
   ·rw [decide_eq_true e,Bool.or_true]; rfl
  rw [h1];left;by_cases h2:k<0
  ·refine bO (decide_eq_true h2) ?_;left;have:=z H1 sr
   unfold bV at this;rw [if_neg fun e=>by have:=e.2.1; omega] at this;exact this
  refine bf (decide_eq_false h2) ?_;obtain ⟨a',b',x,y,g1,_,_,i1,gx,_,_⟩:=(cU.mono sr ⟨a,b,hq,ha,hb⟩).side wy;left;refine ak (SqT.of g1) i1 ?_;left;refine bI gx ?_;rw [List.length_map];left;have z:=z H1 sr;unfold bV at z;by_cases h3:k<(aM wy c).length+m
  ·rw [if_pos ⟨hw,by omega,h3⟩] at z;rw [decide_eq_false (by omega:¬ ((aM wy c).length:Int)+m≤k)];left;exact z
  ·rw [if_neg fun e=>h3 e.2.2] at z;rw [decide_eq_true (by omega:((aM wy c).length:Int)+m≤k)];left;exact z
theorem zh {c:Nat}:nX c=decide (c∈(("abcdefghijklmnopqrstuvwxyz":Str)).cps.toList):=by
 have el:(("abcdefghijklmnopqrstuvwxyz":Str)).cps.toList=(List.range 26).map (97+·):=by decide +kernel
 have ea:(("a":Str)).cps.toList=[97]:=by decide +kernel
 have ez:(("z":Str)).cps.toList=[122]:=by decide +kernel
 have lt1:∀ {c d:Nat},[c]<[d]↔c<d:=fun {c d}=>by
  rw [List.cons_lt_cons_iff];exact ⟨fun h=>h.elim id fun h=>absurd h.2 (by decide),.inl⟩
 unfold nX;rw [ea,ez,el];have e1:decide ((sgn c).cps.toList<[97])=decide (c<97):=decide_eq_decide.mpr lt1;have e2:decide ([122]<(sgn c).cps.toList)=decide (122<c):=decide_eq_decide.mpr lt1;rw [e1,e2];by_cases h:97≤c∧c≤122
 ·rw [decide_eq_false (by omega:¬ c<97),decide_eq_false (by omega:¬ 122<c),decide_eq_true (List.mem_map.mpr ⟨c - 97,List.mem_range.mpr (by omega),by omega⟩)]; rfl
 ·rw [decide_eq_false (p:=c∈_) (fun z=>h (by obtain ⟨i,hi,rfl⟩:=List.mem_map.mp z; have:=List.mem_range.mp hi; omega))];by_cases h1:c<97
  ·rw [decide_eq_true h1]; rfl
  ·rw [decide_eq_true (by omega:122<c),Bool.not_true,Bool.and_false]
def sp_aF:Sp:=fun vs H Q _=>∃ (b:Addr) (n:Str) (bk:Bk),vs=[.ref b,.str n]∧LB H b bk∧n.cps.size≤1000∧∀ H',ai H H'→Q (.str (dm bk n)) H'
theorem ok_aF (T:Txt K mg t):aU P w K mg base CX0 1 t.f_aF t.d_aF ["_law_book","_law_name"] sp_aF:=by
 refine T.F_aF.ok sc_aF (fun vs H Q E h=>?_) (fun cdv A outer s H vs Q E hr h=>?_)
 ·obtain ⟨b,n,bk,rfl,_⟩:=h; rfl
 ·obtain ⟨b,n,bk,rfl,hb,hz,k⟩:=h;refine aI (aF (i:=2) sc_aF.nd rfl (Or.inr rfl) av) fun _ _=>aI (aL (PW.pt (jb (aD kS (ax pI rfl T.no_len (by rfl) (aa (pv 1) af)) ag (aG _)) (jb (aD mG (ax pI rfl T.no_len (by rfl) (aa (pv 1) af)) ag (aG _)) (gI (cJ (bS (ax (lA K rfl rfl) rfl T.no_all (by rfl) (aa (fE (N:=["_law_sign","_law_letters"]) (cap:=[none,some 2]) rfl ⟨rfl,rfl,rfl,rfl,rfl,rfl⟩ (u5 (pv 1)) (fun _ _ _=>(bC (i:=0) (show (["_law_sign","_law_letters"]:List Str).Nodup by decide +kernel) rfl (Or.inl rfl))) (fun _ _ _=>dQ) (fun _ _ _=>(cO wj (pv 0) (pv 1) rfl))) af)))))))) (aj (ay av)) aA) fun _ _=>aI (aL (ib (ui (cP hr) (pv 1) (pv 0))) (aj (ay av)) aA) fun _ _=>cK (ay av) fun _ _=>?_;have hz':n.length≤sizeLine:=Nat.le_trans hz (by decide);have bad:cm n=false→∀ H',ai H H'→Q (.str "name") H':=fun h H' s'=>by
   have:=k H' s'
   unfold dm at this;rw [h,if_neg (by decide)] at this;exact this
  left;refine qv hz' ?_;left;have en:cm n=(decide (0<n.cps.size)&&decide (n.cps.size≤12)&&n.cps.toList.all nX):=rfl;by_cases h1:((n.length:Nat):Int)<1
  ·refine bO (decide_eq_true h1) ?_;left;exact bad (by rw [en,decide_eq_false (by have:n.length=n.cps.size:=rfl; omega:¬ 0<n.cps.size)]; rfl) H (ai.refl _)
  refine bf (decide_eq_false h1) ?_;left;refine qv hz' ?_;left;by_cases h2:(12:Int)<((n.length:Nat):Int)
  ·refine bO (decide_eq_true h2) ?_;left;exact bad (by rw [en,decide_eq_false (by have:n.length=n.cps.size:=rfl; omega:¬ n.cps.size≤12),Bool.and_false]; rfl) H (ai.refl _)
  refine bf (decide_eq_false h2) ?_;left;refine ⟨n,rfl,fun l nl=>?_⟩;refine kN ((n.cps.toList.map nX).map V.bl) (by rw [List.length_map,List.length_map,Array.length_toList]) hz nl (fun i c y o H' Q' hc hy s5 q=>?_) (fun H1 s1 e1=>?_)
  ·rw [List.getElem?_map,List.getElem?_map,Array.getElem?_toList,hc] at hy
   cases hy;left;refine ⟨_,_,rfl,rfl,?_⟩;rw [Ah,← zh];exact q _ (ai.refl _)
  left;refine mK e1 ?_;rw [List.all_map,show (id∘nX)=nX from rfl];rw [decide_eq_true (by have:n.length=n.cps.size:=rfl; omega:0<n.cps.size),decide_eq_true (by have:n.length=n.cps.size:=rfl; omega:n.cps.size≤12),Bool.true_and,Bool.true_and] at en;rw [← en];left
  cases hn:cm n with
  | false =>
   left;exact bad hn H1 s1
  | true =>
   left;obtain ⟨kvs,g1,pw⟩:=hb.mono s1;refine ⟨b,_,rfl,dB.k (k:=Sum.inr n) g1,?_⟩;have k:=k H1 s1;unfold dm at k;rw [hn,if_pos rfl] at k;rcases pw.get n with ⟨g2,g3⟩ | ⟨v,c,g2,g3,_⟩
   ·rw [g3] at k;rw [g2,Option.isSome_none];left;exact k
   ·rw [g3] at k;rw [g2,Option.isSome_some];left;exact k
def i4 (c:Clo) (wy:Str) (n:Int):List Int:=(b7 wy c).map fun b=>(b+n)%2
def nW (c:Clo) (wy:Str) (k:Nat):Clo:=if wy="col" then ((c.1+((aM wy c).take (k+1)).sum)%2,c.2.1.drop (k+1),i4 c wy (k+1)) else ((c.1+((aM wy c).take (k+1)).sum)%2,i4 c wy (k+1),c.2.2.drop (k+1))
theorem b9 {c:Clo} (h:dX c) (wy:Str):bA (aM wy c):=by
 unfold aM; split
 ·exact h.2.2
 ·exact h.2.1
theorem fB {c:Clo} (h:dX c) (wy:Str):bA (b7 wy c):=by
 unfold b7; split
 ·exact h.2.1
 ·exact h.2.2
theorem nC {bs:List Int} (h:bA bs) (n:Nat):fS (bs.take n):=je (fun z hz=>h.2 z (List.mem_of_mem_take hz)) (by rw [List.length_take]; have:=h.1; omega)
def sp_bg:Sp:=fun vs H Q _=>∃ (q:Addr) (wy:Str) (k:Nat) (c:Clo),vs=[.ref q,.str wy,.int (k:Nat)]∧cU H q c∧dX c∧("col"=wy∨"row"=wy)∧k<(aM wy c).length∧∀ tp r1 r2 H',ai H H'→H' tp=some (.tup [.ref r1,.ref r2])→cU H' r1 (cC c wy ((aM wy c).take k))→cU H' r2 (nW c wy k)→Q (.ref tp) H'
theorem ok_bg (T:Txt K mg t):aU P w K mg base CX0 2 t.f_bg t.d_bg ["_law_plan","_law_way","_law_k"] sp_bg:=by
 refine T.F_bg.ok sc_bg (fun vs H Q E h=>?_) (fun cdv A outer s H vs Q E hr h=>?_)
 ·obtain ⟨q,wy,k,c,rfl,_⟩:=h; rfl
 ·obtain ⟨q,wy,k,c,rfl,hq,ck,hw,hk,z⟩:=h;obtain ⟨a,b,x,y,g1,ga,gb,i1,gx,i2,gy⟩:=hq.side wy;have bs:=b9 ck wy;have bx:=fB ck wy;have lx:=bx.1;refine aI (aF (i:=3) sc_bg.nd rfl (Or.inl rfl) (aB aZ ag (aW j8 rfl T.no_int (by rfl) (aa (cO bJ (pv 1) av (aG _)) af)))) fun _ _=>aI (aF (i:=4) sc_bg.nd rfl (Or.inl rfl) (aB bh (aB aZ (ar (aq K rfl) (pv 0) ag (fun _ _=>rfl)) (ax (lB K rfl rfl) rfl T.no_sum (by rfl) (aa (bQ (cf K rfl) (ar (aq K rfl) (pv 0) (pv 3) (fun _ _=>rfl)) cj (bZ (aB aZ (pv 2) ag))) af))) ag)) fun _ _=>aI (lH (i:=5) sc_bg.nd rfl (Or.inl rfl) (N:=["_law_bit","_law_k"]) (cap:=[none,some 2]) rfl ⟨rfl,rfl,rfl,rfl,rfl,rfl⟩ (dP (ar (aq K rfl) (pv 0) (aB fq ag (pv 3)) (fun _ _=>rfl))) (fun _ _ _=>(bC (i:=0) (show (["_law_bit","_law_k"]:List Str).Nodup by decide +kernel) rfl (Or.inl rfl))) (fun _ _ _=>dQ) (fun _ _ _=>(aB bh (aB aZ (aB aZ (pv 0) (pv 1)) ag) ag)) (by rfl)) fun _ _=>aI (aF (i:=6) sc_bg.nd rfl (Or.inl rfl) (aC (ok_be T) (hr.mono (by first | decide | omega)) rfl T.mg_be T.F_be.kp T.b_be .nil aS (aa (pv 0) (aa (pv 1) (aa (bQ (cf K rfl) (ar (aq K rfl) (pv 0) (pv 3) (fun _ _=>rfl)) cj (bZ (pv 2))) af))))) fun _ _=>aI (aL (aD bJ (pv 1) av (aG _)) (aj (ay (bq (aa (pv 6) (aa (bq (aa (pv 4) (aa (bQ (cf K rfl) (ar (aq K rfl) (pv 0) ag (fun _ _=>rfl)) (bZ (aB aZ (pv 2) ag)) cj) (aa (pv 5) af)))) af))))) aA) fun _ _=>cK (ay (bq (aa (pv 6) (aa (bq (aa (pv 4) (aa (pv 5) (aa (bQ (cf K rfl) (ar (aq K rfl) (pv 0) ag (fun _ _=>rfl)) (bZ (aB aZ (pv 2) ag)) cj) af)))) af)))) fun _ _=>?_;have es:(1+(if decide (wy="row")=true then (1:Int) else 0))=sdI wy:=rfl;left;rw [es];generalize sdI wy=sd at i1 i2;refine ak (SqT.of g1) rfl ?_;left;refine ak (SqT.of g1) i1 ?_;left;refine di gx fun l1 H1 s1 _ e1=>?_;rw [dF (by omega),show ((k:Int)+1).toNat=k+1 by omega] at e1;left;refine vc e1 (nC bs _) ?_;left;refine bR (by decide) ?_;left;refine ak (SqT.of (s1 _ _ g1)) i2 ?_;left;refine ⟨⟨_,SqL.of (s1 _ _ gy)⟩,fun l2 n2=>?_⟩;refine kM ((i4 c wy (k+1)).map V.int) (by unfold i4; rw [List.length_map,List.length_map,List.length_map]) (SqL.of (s1 _ _ gy)) (by rw [List.length_map]; omega) n2 (fun i x y o H' Q' hx hy sB q=>?_) (fun H2 s2 e2=>?_)
  ·unfold i4 at hy;rw [List.getElem?_map] at hx;rw [List.getElem?_map,List.getElem?_map] at hy
   cases hb:(b7 wy c)[i]? with
   | none=>rw [hb] at hx; cases hx
   | some b =>
    rw [hb] at hx hy
    cases hx
    cases hy;left;refine bR (by decide) ?_;left;rw [show b+(k:Int)+1=b+((k:Int)+1) by omega];exact q _ (ai.refl _)
  have s12:=s1.trans s2;left;refine ak (SqT.of (s12 _ _ g1)) i1 ?_;left;refine di (s12 _ _ gx) fun l3 H3 s3 _ e3=>?_;rw [dF (by omega),Int.toNat_natCast] at e3;have s13:=s12.trans s3;left;refine ⟨q,l3,wy,c,_,rfl,hq.mono s13,e3,fun r1 H4 s4 p1=>?_⟩;have s14:=s13.trans s4;have e2:=s4 _ _ (s3 _ _ e2);left;have hs:nW c wy k=if wy="col" then ((c.1+((aM wy c).take (k+1)).sum)%2,c.2.1.drop (k+1),i4 c wy (k+1)) else ((c.1+((aM wy c).take (k+1)).sum)%2,i4 c wy (k+1),c.2.2.drop (k+1)):=rfl
  by_cases hc:wy="col"
  ·rw [if_pos hc] at hs;refine bO (decide_eq_true hc) ?_;left;refine ak (SqT.of (s14 _ _ g1)) rfl ?_;left;refine di (s14 _ _ ga) fun l5 H5 s5 _ e5=>?_;rw [show ((k:Int)+1)=((k+1:Nat):Int) by omega,c6] at e5;left;refine ⟨by show 3≤sizeLine; decide,fun r2 nr2=>?_⟩;have sr2:=ai.new (o:=HO.tup [V.int ((c.1+((aM wy c).take (k+1)).sum)%2),V.ref l5,V.ref l2]) nr2;have er2:=ae (H:=H5) (a:=r2) (o:=HO.tup [V.int ((c.1+((aM wy c).take (k+1)).sum)%2),V.ref l5,V.ref l2]);generalize upd H5 r2 (HO.tup [V.int ((c.1+((aM wy c).take (k+1)).sum)%2),V.ref l5,V.ref l2])=H6 at sr2 er2 ⊢;left;refine ⟨by show 2≤sizeLine; decide,fun tp ntp=>?_⟩;have stp:=ai.new (o:=HO.tup [V.ref r1,V.ref r2]) ntp;have etp:=ae (H:=H6) (a:=tp) (o:=HO.tup [V.ref r1,V.ref r2]);generalize upd H6 tp (HO.tup [V.ref r1,V.ref r2])=H7 at stp etp ⊢;exact z tp r1 r2 H7 (s14.trans (s5.trans (sr2.trans stp))) etp (p1.mono (s5.trans (sr2.trans stp))) (by rw [hs]; exact ⟨l5,l2,stp _ _ er2,(sr2.trans stp) _ _ e5,(s5.trans (sr2.trans stp)) _ _ e2⟩)
  ·rw [if_neg hc] at hs;refine bf (decide_eq_false hc) ?_;left;refine ak (SqT.of (s14 _ _ g1)) rfl ?_;left;refine di (s14 _ _ gb) fun l5 H5 s5 _ e5=>?_;rw [show ((k:Int)+1)=((k+1:Nat):Int) by omega,c6] at e5;left;refine ⟨by show 3≤sizeLine; decide,fun r2 nr2=>?_⟩;have sr2:=ai.new (o:=HO.tup [V.int ((c.1+((aM wy c).take (k+1)).sum)%2),V.ref l2,V.ref l5]) nr2;have er2:=ae (H:=H5) (a:=r2) (o:=HO.tup [V.int ((c.1+((aM wy c).take (k+1)).sum)%2),V.ref l2,V.ref l5]);generalize upd H5 r2 (HO.tup [V.int ((c.1+((aM wy c).take (k+1)).sum)%2),V.ref l2,V.ref l5])=H6 at sr2 er2 ⊢;left;refine ⟨by show 2≤sizeLine; decide,fun tp ntp=>?_⟩;have stp:=ai.new (o:=HO.tup [V.ref r1,V.ref r2]) ntp;have etp:=ae (H:=H6) (a:=tp) (o:=HO.tup [V.ref r1,V.ref r2]);generalize upd H6 tp (HO.tup [V.ref r1,V.ref r2])=H7 at stp etp ⊢;exact z tp r1 r2 H7 (s14.trans (s5.trans (sr2.trans stp))) etp (p1.mono (s5.trans (sr2.trans stp))) (by rw [hs]; exact ⟨l2,l5,stp _ _ er2,(s5.trans (sr2.trans stp)) _ _ e2,(sr2.trans stp) _ _ e5⟩)
def unW (c1 c2:Clo) (wy:Str):Str:=if "col"=wy∨"row"=wy then (if (b7 wy c1).length=(b7 wy c2).length∧(aM wy c1).length+(aM wy c2).length≤38 then (if i4 c1 wy ((aM wy c1).length+1)=b7 wy c2 then "" else "unfit") else "size") else "line"
theorem uM (c1 c2:Clo) (wy:Str):unW c1 c2 wy=if "col"=wy∨"row"=wy then (if (b7 wy c1).length=(b7 wy c2).length∧(aM wy c1).length+(aM wy c2).length≤38 then (if i4 c1 wy ((aM wy c1).length+1)=b7 wy c2 then ("":Str) else ("unfit":Str)) else ("size":Str)) else ("line":Str):=by unfold unW; rfl
def unB (c1 c2:Clo) (wy:Str):Clo:=cC c1 wy (aM wy c1++[(c1.1+(aM wy c1).sum+c2.1)%2]++aM wy c2)
def sp_bd:Sp:=fun vs H Q _=>∃ (q1 q2:Addr) (wy:Str) (c1 c2:Clo),vs=[.ref q1,.ref q2,.str wy]∧cU H q1 c1∧cU H q2 c2∧dX c1∧dX c2∧PyData.strOk wy=true∧∀ tp v H',ai H H'→H' tp=some (.tup [.str (unW c1 c2 wy),v])→(unW c1 c2 wy=""→∃ r,v=.ref r∧cU H' r (unB c1 c2 wy))→Q (.ref tp) H'
theorem ok_bd (T:Txt K mg t):aU P w K mg base CX0 2 t.f_bd t.d_bd ["_law_one","_law_other","_law_way"] sp_bd:=by
 refine T.F_bd.ok sc_bd (fun vs H Q E h=>?_) (fun cdv A outer s H vs Q E hr h=>?_)
 ·obtain ⟨q1,q2,wy,c1,c2,rfl,_⟩:=h; rfl
 ·obtain ⟨q1,q2,wy,c1,c2,rfl,h1,h2,k1,k2,ow,z⟩:=h;obtain ⟨a1,b1,x1,y1,g1,_,_,i1,gx1,j1,gy1⟩:=h1.side wy;obtain ⟨a2,b2,x2,y2,g2,_,_,i2,gx2,j2,gy2⟩:=h2.side wy;have lx1:=(b9 k1 wy).1;have ly1:=(fB k1 wy).1;have lx2:=(b9 k2 wy).1;have ly2:=(fB k2 wy).1;have bs1:=b9 k1 wy;refine aI (aF (i:=3) sc_bd.nd rfl (Or.inl rfl) (aB aZ ag (aW j8 rfl T.no_int (by rfl) (aa (cO bJ (pv 2) av (aG _)) af)))) fun _ _=>aI (aL (aD (lG hr.units) (pv 2) (bq (aa av (aa av af))) rfl) (aj (ay (bq (aa av (aa eA af))))) aA) fun _ _=>aI (aL (PW.pt (jb (aD gQ (ax (bH K rfl) rfl T.no_len (by rfl) (aa (ar (aq K rfl) (pv 0) (aB fq ag (pv 3)) (fun _ _=>rfl)) af)) (ax (bH K rfl) rfl T.no_len (by rfl) (aa (ar (aq K rfl) (pv 1) (aB fq ag (pv 3)) (fun _ _=>rfl)) af)) (aG _)) (gI (aD mG (aB aZ (ax (bH K rfl) rfl T.no_len (by rfl) (aa (ar (aq K rfl) (pv 0) (pv 3) (fun _ _=>rfl)) af)) (ax (bH K rfl) rfl T.no_len (by rfl) (aa (ar (aq K rfl) (pv 1) (pv 3) (fun _ _=>rfl)) af))) ag (aG _))))) (aj (ay (bq (aa av (aa eA af))))) aA) fun _ _=>aI (aF (i:=4) sc_bd.nd rfl (Or.inr rfl) (aB aZ (ax (bH K rfl) rfl T.no_len (by rfl) (aa (ar (aq K rfl) (pv 0) (pv 3) (fun _ _=>rfl)) af)) ag)) fun _ _=>aI (aL (aD (qm hr.units) (fE (N:=["_law_bit","_law_wide"]) (cap:=[none,some 4]) rfl ⟨rfl,rfl,rfl,rfl,rfl,rfl⟩ (dP (ar (aq K rfl) (pv 0) (aB fq ag (pv 3)) (fun _ _=>rfl))) (fun _ _ _=>(bC (i:=0) (show (["_law_bit","_law_wide"]:List Str).Nodup by decide +kernel) rfl (Or.inl rfl))) (fun _ _ _=>dQ) (fun _ _ _=>(aB bh (aB aZ (pv 0) (pv 1)) ag))) (ar (aq K rfl) (pv 1) (aB fq ag (pv 3)) (fun _ _=>rfl)) (aG _)) (aj (ay (bq (aa av (aa eA af))))) aA) fun _ _=>aI (aF (i:=5) sc_bd.nd rfl (Or.inl rfl) (aB bh (aB aZ (aB aZ (ar (aq K rfl) (pv 0) ag (fun _ _=>rfl)) (ax (lB K rfl rfl) rfl T.no_sum (by rfl) (aa (ar (aq K rfl) (pv 0) (pv 3) (fun _ _=>rfl)) af))) (ar (aq K rfl) (pv 1) ag (fun _ _=>rfl))) ag)) fun _ _=>cK (ay (bq (aa av (aa (aC (ok_be T) (hr.mono (by first | decide | omega)) rfl T.mg_be T.F_be.kp T.b_be .nil aS (aa (pv 0) (aa (pv 2) (aa (aB eP (aB eP (ar (aq K rfl) (pv 0) (pv 3) (fun _ _=>rfl)) (bP (aa (pv 5) af))) (ar (aq K rfl) (pv 1) (pv 3) (fun _ _=>rfl))) af)))) af)))) fun _ _=>?_;have es:(1+(if decide (wy="row")=true then (1:Int) else 0))=sdI wy:=rfl;have ez:=uM c1 c2 wy;left;rw [es];refine ⟨by show 2≤sizeLine; decide,fun r nr=>?_⟩;have sr:=ai.new (o:=HO.tup [V.str "col",V.str "row"]) nr;have er:=ae (H:=H) (a:=r) (o:=HO.tup [V.str "col",V.str "row"]);generalize upd H r (HO.tup [V.str "col",V.str "row"])=H1 at sr er ⊢;refine mL er (by decide +kernel) (by decide +kernel) ow ?_;by_cases hw:"col"=wy∨"row"=wy
  rotate_left
  ·rw [decide_eq_false fun e=>hw (.inl e),decide_eq_false fun e=>hw (.inr e)];rw [if_neg hw] at ez;left;refine ⟨by show 2≤sizeLine; decide,fun tp ntp=>?_⟩;have stp:=ai.new (o:=HO.tup [V.str "line",V.non]) ntp;have etp:=ae (H:=H1) (a:=tp) (o:=HO.tup [V.str "line",V.non]);generalize upd H1 tp (HO.tup [V.str "line",V.non])=H2 at stp etp ⊢;exact z tp _ H2 (sr.trans stp) (by rw [ez]; exact etp) fun e=>absurd (ez.symm.trans e) (by decide +kernel)
  rw [if_pos hw] at ez
  have hb:(!(decide (("col":Str)=wy)||decide (("row":Str)=wy)))=false:=by
   rcases hw with e | e
   ·rw [decide_eq_true e]; rfl
   ·rw [decide_eq_true e,Bool.or_true]; rfl
  rw [hb];generalize sdI wy=sd at i1 i2 j1 j2 ⊢;have g1:=sr _ _ g1;have g2:=sr _ _ g2;have gx1:=sr _ _ gx1;have gx2:=sr _ _ gx2;have gy1:=sr _ _ gy1;have gy2:=sr _ _ gy2;have h1:=h1.mono sr;left;refine ak (SqT.of g1) j1 ?_;left;refine bI gy1 ?_;rw [List.length_map];left;refine ak (SqT.of g2) j2 ?_;left;refine bI gy2 ?_;rw [List.length_map];left;by_cases hl:(b7 wy c1).length=(b7 wy c2).length
  rotate_left
  ·rw [if_neg fun e=>hl e.1] at ez;rw [decide_eq_false (by omega:¬ ((b7 wy c1).length:Int)=(b7 wy c2).length)];left;refine ⟨by show 2≤sizeLine; decide,fun tp ntp=>?_⟩;have stp:=ai.new (o:=HO.tup [V.str "size",V.non]) ntp;have etp:=ae (H:=H1) (a:=tp) (o:=HO.tup [V.str "size",V.non]);generalize upd H1 tp (HO.tup [V.str "size",V.non])=H2 at stp etp ⊢;exact z tp _ H2 (sr.trans stp) (by rw [ez]; exact etp) fun e=>absurd (ez.symm.trans e) (by decide +kernel)
  rw [decide_eq_true (by omega:((b7 wy c1).length:Int)=(b7 wy c2).length)];left;refine ak (SqT.of g1) i1 ?_;left;refine bI gx1 ?_;rw [List.length_map];left;refine ak (SqT.of g2) i2 ?_;left;refine bI gx2 ?_;rw [List.length_map];left;by_cases hm:(aM wy c1).length+(aM wy c2).length≤38
  rotate_left
  ·rw [if_neg fun e=>hm e.2] at ez;rw [decide_eq_true (by omega:(38:Int)<(aM wy c1).length+(aM wy c2).length)];left;refine ⟨by show 2≤sizeLine; decide,fun tp ntp=>?_⟩;have stp:=ai.new (o:=HO.tup [V.str "size",V.non]) ntp;have etp:=ae (H:=H1) (a:=tp) (o:=HO.tup [V.str "size",V.non]);generalize upd H1 tp (HO.tup [V.str "size",V.non])=H2 at stp etp ⊢;exact z tp _ H2 (sr.trans stp) (by rw [ez]; exact etp) fun e=>absurd (ez.symm.trans e) (by decide +kernel)
  rw [if_pos ⟨hl,hm⟩] at ez;rw [decide_eq_false (by omega:¬ (38:Int)<(aM wy c1).length+(aM wy c2).length)];left;refine ak (SqT.of g1) i1 ?_;left;refine bI gx1 ?_;rw [List.length_map];left;refine ak (SqT.of g1) j1 ?_;left;refine ⟨⟨_,SqL.of gy1⟩,fun l2 n2=>?_⟩;refine kM ((i4 c1 wy ((aM wy c1).length+1)).map V.int) (by unfold i4; rw [List.length_map,List.length_map,List.length_map]) (SqL.of gy1) (by rw [List.length_map]; omega) n2 (fun i x y o H' Q' hx hy sB q=>?_) (fun H2 s2 e2=>?_)
  ·unfold i4 at hy;rw [List.getElem?_map] at hx;rw [List.getElem?_map,List.getElem?_map] at hy
   cases hb:(b7 wy c1)[i]? with
   | none=>rw [hb] at hx; cases hx
   | some b =>
    rw [hb] at hx hy
    cases hx
    cases hy;left;refine bR (by decide) ?_;left;exact q _ (ai.refl _)
  left;refine ak (SqT.of (s2 _ _ g2)) j2 ?_;left;refine o9 e2 (s2 _ _ gy2) ?_;left;have s02:=sr.trans s2;by_cases ha:i4 c1 wy ((aM wy c1).length+1)=b7 wy c2
  rotate_left
  ·rw [if_neg ha] at ez;rw [decide_eq_false ha];left;refine ⟨by show 2≤sizeLine; decide,fun tp ntp=>?_⟩;have stp:=ai.new (o:=HO.tup [V.str "unfit",V.non]) ntp;have etp:=ae (H:=H2) (a:=tp) (o:=HO.tup [V.str "unfit",V.non]);generalize upd H2 tp (HO.tup [V.str "unfit",V.non])=H3 at stp etp ⊢;exact z tp _ H3 (s02.trans stp) (by rw [ez]; exact etp) fun e=>absurd (ez.symm.trans e) (by decide +kernel)
  rw [if_pos ha] at ez;rw [decide_eq_true ha];left;refine ak (SqT.of (s2 _ _ g1)) rfl ?_;left;refine ak (SqT.of (s2 _ _ g1)) i1 ?_;left;refine vc (s2 _ _ gx1) (by have:=nC bs1 (aM wy c1).length; rw [List.take_length] at this; exact this) ?_;left;refine ak (SqT.of (s2 _ _ g2)) rfl ?_;left;refine bR (by decide) ?_;left;refine ak (SqT.of (s2 _ _ g1)) i1 ?_;left;refine ⟨by show 1≤sizeLine; decide,fun l3 nl3=>?_⟩;have sl3:=ai.new (o:=HO.lst [V.int ((c1.1+(aM wy c1).sum+c2.1)%2)]) nl3;have el3:=ae (H:=H2) (a:=l3) (o:=HO.lst [V.int ((c1.1+(aM wy c1).sum+c2.1)%2)]);generalize upd H2 l3 (HO.lst [V.int ((c1.1+(aM wy c1).sum+c2.1)%2)])=H3 at sl3 el3 ⊢;have s23:=s2.trans sl3;refine eK (s23 _ _ gx1) el3 (Nat.le_trans (show (List.map V.int (aM wy c1)).length+1≤1000 by rw [List.length_map]; omega) (by decide)) fun l4 H4 s4 _ e4=>?_;have s24:=s23.trans s4;left;refine ak (SqT.of (s24 _ _ g2)) i2 ?_;left;refine eK e4 (s24 _ _ gx2) (Nat.le_trans (show ((aM wy c1).map V.int++[V.int ((c1.1+(aM wy c1).sum+c2.1)%2)]).length+((aM wy c2).map V.int).length≤1000 by rw [List.length_append,List.length_map,List.length_map,List.length_singleton]; omega) (by decide)) fun l5 H5 s5 _ e5=>?_;have e5:H5 l5=some (.lst ((aM wy c1++[(c1.1+(aM wy c1).sum+c2.1)%2]++aM wy c2).map V.int)):=by rw [e5,List.map_append,List.map_append]; rfl
  have s25:=s24.trans s5;left;refine ⟨q1,l5,wy,c1,_,rfl,h1.mono s25,e5,fun rr H6 s6 p6=>?_⟩;left;refine ⟨by show 2≤sizeLine; decide,fun tp ntp=>?_⟩;have stp:=ai.new (o:=HO.tup [V.str "",V.ref rr]) ntp;have etp:=ae (H:=H6) (a:=tp) (o:=HO.tup [V.str "",V.ref rr]);generalize upd H6 tp (HO.tup [V.str "",V.ref rr])=H7 at stp etp ⊢;exact z tp _ H7 (sr.trans (s25.trans (s6.trans stp))) (by rw [ez]; exact etp) fun _=>⟨rr,rfl,p6.mono stp⟩
set_option genInjectivity false in
set_option genSizeOf false in
inductive Dd
 | lay (n:Str) (c:Clo)
 | drop (n:Str)
 | turn (n wy:Str) (k:Int)
 | put (n wy:Str) (k b:Int)
 | cut (n wy:Str) (k:Int)
 | sew (n o1 o2 wy:Str)
 | part (n wy:Str) (k:Int) (o:Str)
def kW (H:Hp) (v:Addr):Dd→Prop
 | .lay n c=>∃ q,H v=some (.tup [.str "lay",.str n,.ref q])∧cU H q c
 | .drop n=>H v=some (.tup [.str "drop",.str n])
 | .turn n wy k=>H v=some (.tup [.str "turn",.str n,.str wy,.int k])
 | .put n wy k b=>H v=some (.tup [.str "put",.str n,.str wy,.int k,.int b])
 | .cut n wy k=>H v=some (.tup [.str "cut",.str n,.str wy,.int k])
 | .sew n a b wy=>H v=some (.tup [.str "sew",.str n,.str a,.str b,.str wy])
 | .part n wy k o=>H v=some (.tup [.str "part",.str n,.str wy,.int k,.str o])
theorem kW.mono {H H':Hp} {v:Addr} {d:Dd} (s:ai H H') (h:kW H v d):kW H' v d:=by
 cases d with
 | lay n c=>obtain ⟨q,h1,h2⟩:=h; exact ⟨q,s _ _ h1,h2.mono s⟩
 | _=>exact s _ _ h
def fy (c:Clo) (wy:Str) (k:Int) (m:Int) (f:List Int→Str×List Int):Str×Clo:=if bV c wy k m="" then ((f (aM wy c)).1,cC c wy (f (aM wy c)).2) else ("line",c)
def eL (bk:Bk) (n:Str) (f:Clo→Str×Clo):Str×Bk:=match aO bk n with
 | none=>("cloth",bk)
 | some c=>((f c).1,bW bk n (f c).2)
def pz (k:Nat) (bs:List Int):Str×List Int:=("",bs.take k++[1 - bs.getD k 0]++bs.drop (k+1))
def vK (k:Nat) (bs:List Int):Str×List Int:=("",bs.take k++bs.drop (k+1))
def nQ (k:Nat) (b:Int) (bs:List Int):Str×List Int:=if b=0∨b=1 then (if bs.length≤38 then ("",bs.take k++[b]++bs.drop k) else ("size",bs)) else ("bit",bs)
def bz (bk:Bk):Dd→Str×Bk
  | .lay n c => (dm bk n, bW bk n c)
  | .drop n => if (aO bk n).isSome = true then ("", fN bk n) else ("cloth", bk)
  | .turn n wy k => eL bk n fun c => fy c wy k 0 (pz k.toNat)
  | .cut n wy k => eL bk n fun c => fy c wy k 0 (vK k.toNat)
  | .put n wy k b => eL bk n fun c => fy c wy k 1 (nQ k.toNat b)
  | .sew n o1 o2 wy => if dm bk n = "" then (match aO bk o1, aO bk o2 with
      | some c1,some c2=>(unW c1 c2 wy,bW bk n (unB c1 c2 wy))
      | _,_=>("cloth",bk)) else (dm bk n,bk)
  | .part n wy k o => match aO bk n with
      | none=>("cloth",bk)
      | some c=>if dm bk o="" then (if bV c wy k 0="" then ("",bW (bW bk n (cC c wy ((aM wy c).take k.toNat))) o (nW c wy k.toNat)) else ("line",bk)) else (dm bk o,bk)
theorem fe {c:Clo} {wy:Str} {k m:Int} (h:bV c wy k m=""):("col"=wy∨"row"=wy)∧0≤k∧k<(aM wy c).length+m:=by
 unfold bV at h
 split at h
 ·assumption
 ·exact absurd h (by decide +kernel)
theorem lF {c:Clo} {wy:Str} {k m:Int} (h:¬ bV c wy k m=""):bV c wy k m="line":=by
 unfold bV at h ⊢
 split
 ·rename_i z; rw [if_pos z] at h; exact absurd rfl h
 ·rfl
theorem cU.frz {H H':Hp} {q f:Addr} {c:Clo} {kvs:List (Key×V)} (h:cU H q c) (hf:H f=some (.dK kvs)) (m:bN [f] H H'):cU H' q c:=by
 have no:∀ {y:Addr} {o:HO},H y=some o→(∀ kvs,o≠.dK kvs)→H' y=some o:=fun {y o} e n=>m _ _ e fun z=>by
  rw [List.mem_singleton.mp z,hf] at e;injection e with e;exact n _ e.symm
 obtain ⟨a,b,h1,h2,h3⟩:=h;exact ⟨a,b,no h1 (fun _ z=>nomatch z),no h2 (fun _ z=>nomatch z),no h3 (fun _ z=>nomatch z)⟩
section
variable {H:Hp} {kvs:List (Key×V)} {bk:Bk}
theorem PwL.but {H':Hp} {f:Addr} {kvs':List (Key×V)} (h:PwL H kvs bk) (hf:H f=some (.dK kvs')) (m:bN [f] H H'):PwL H' kvs bk:=Paired.mapP h fun _ _ ⟨z,q,e,r⟩=>⟨z,q,e,r.frz hf m⟩
theorem PwL.any (h:PwL H kvs bk) (n:Str):(kvs.any fun kv=>decide (kv.1=Sum.inr n))=bk.any fun nc=>decide (nc.1=n):=by
 induction h with
 | nil=>rfl
 | cons r _ ih =>
  rw [List.any_cons,List.any_cons,ih]
  congr 1
  exact decide_eq_decide.mpr (dJ r.1)
theorem PwL.set (h:PwL H kvs bk) {n:Str} {q:Addr} {c:Clo} (hv:cU H q c):PwL H (kvs.map fun kv=>if kv.1=Sum.inr n then (kv.1,.ref q) else kv) (bk.map fun nc=>if nc.1=n then (nc.1,c) else nc):=by
 induction h with
 | nil=>exact .nil
 | cons r _ ih =>
  refine .cons ?_ ih
  rename_i p nc _ _ _;dsimp only;by_cases e:nc.1=n
  ·rw [if_pos ((dJ r.1).mpr e),if_pos e]; exact ⟨r.1,q,rfl,hv⟩
  ·rw [if_neg (fun z=>e ((dJ r.1).mp z)),if_neg e]; exact r
theorem PwL.put (h:PwL H kvs bk) (n:Str) {q:Addr} {c:Clo} (hv:cU H q c):PwL H (cH kvs (Sum.inr n) (.ref q)) (bW bk n c):=by
 unfold cH bW;rw [h.any n]
 split
 ·exact h.set hv
 ·exact Paired.snoc h ⟨rfl,q,rfl,hv⟩
theorem PwL.drop (h:PwL H kvs bk) (n:Str):PwL H (eV kvs (Sum.inr n)) (fN bk n):=by
 unfold eV fN
 induction h with
 | nil=>exact .nil
 | cons r _ ih =>
  rename_i p nc _ _ _;by_cases e:nc.1=n
  ·rw [List.filter_cons_of_neg (by simpa using (dJ r.1).mpr e),List.filter_cons_of_neg (by simpa using e)]; exact ih
  ·rw [List.filter_cons_of_pos (by simpa using fun z=>e ((dJ r.1).mp z)),List.filter_cons_of_pos (by simpa using e)]; exact .cons r ih
end
theorem LB.put {H:Hp} {f q:Addr} {bk:Bk} {n:Str} {c:Clo} (h:LB H f bk) (hq:cU H q c):∃ kvs,H f=some (.dK kvs)∧kvs.length=bk.length∧LB (upd H f (.dK (cH kvs (Sum.inr n) (.ref q)))) f (bW bk n c):=by
 obtain ⟨kvs,e,p⟩:=h;have m:bN [f] H (upd H f (.dK (cH kvs (Sum.inr n) (.ref q)))):=(bN.refl _ _).upd List.mem_cons_self;exact ⟨kvs,e,Paired.length p,_,ae,(p.but e m).put n (hq.frz e m)⟩
def Chg (bk:Bk) (n:Str):Dd→Prop
 | .drop m=>m=n
 | .turn m wy k=>m=n∧PyData.strOk wy=true
 | .cut m wy k=>m=n∧PyData.strOk wy=true
 | .put m wy k b=>m=n∧PyData.strOk wy=true
 | .part m wy k o=>m=n∧PyData.strOk wy=true∧o.cps.size≤1000
 | _=>False
def sp_aW:Sp:=fun vs H Q _=>∃ (f v:Addr) (bk:Bk) (dd:Dd) (n:Str) (c:Clo),vs=[.ref f,.ref v]∧LB H f bk∧bk.length≤900∧kW H v dd∧Chg bk n dd∧aO bk n=some c∧dX c ∧
 ∀ tp H',bN [f] H H'→H' tp=some (.tup [.str (bz bk dd).1,.ref f])→((bz bk dd).1=""→LB H' f (bz bk dd).2)→Q (.ref tp) H'
theorem ok_aW (T:Txt K mg t):aU P w K mg base CX0 3 t.f_aW t.d_aW ["_law_fresh","_law_deed"] sp_aW:=by
 refine T.F_aW.ok sc_aW (fun vs H Q E h=>?_) (fun cdv A outer s H vs Q E hr h=>?_)
 ·obtain ⟨f,v,bk,dd,n,c,rfl,_⟩:=h; rfl
 ·obtain ⟨f,v,bk,dd,n,c,rfl,hf,hl,hd,hg,gc,ck,z⟩:=h;refine aI (aF (i:=2) sc_aW.nd rfl (Or.inl rfl) (gH (cP hr) (pv 0) (ar (aq K rfl) (pv 1) ag (fun _ _=>rfl)) (fun _ _=>rfl))) fun _ _=>aI (aL (aD bJ (ar (aq K rfl) (pv 1) ag (fun _ _=>rfl)) av (aG _)) (aJ (aY (su (pv 0) (ar (aq K rfl) (pv 1) ag (fun _ _=>rfl)) ⟨rfl,rfl,rfl,rfl⟩)) (aj (ay (bq (aa av (aa (pv 0) af)))))) aA) fun _ _=>aI (aL (PW.pt (eR (aD bJ (ar (aq K rfl) (pv 1) ag (fun _ _=>rfl)) av (aG _)) (eJ (aD gQ (aC (ok_aF T) (hr.mono (by first | decide | omega)) rfl T.mg_aF T.F_aF.kp T.b_aF .nil aS (aa (pv 0) (aa (ar (aq K rfl) (pv 1) ag (fun _ _=>rfl)) af))) av (aG _))))) (aj (ay (bq (aa (aC (ok_aF T) (hr.mono (by first | decide | omega)) rfl T.mg_aF T.F_aF.kp T.b_aF .nil aS (aa (pv 0) (aa (ar (aq K rfl) (pv 1) ag (fun _ _=>rfl)) af))) (aa (pv 0) af))))) aA) fun _ _=>aI (Cv (i:=3) (j:=4) rfl sc_aW.nd rfl rfl (by decide) rfl rfl (aa (ar (aq K rfl) (pv 1) ag (fun _ _=>rfl)) (aa (ar (aq K rfl) (pv 1) ag (fun _ _=>rfl)) af)) (by rfl)) fun _ _=>aI (aF (i:=5) sc_aW.nd rfl (Or.inl rfl) (aC (ok_aY T) (hr.mono (by first | decide | omega)) rfl T.mg_aY T.F_aY.kp T.b_aY .nil aS (aa (pv 2) (aa (pv 3) (aa (pv 4) (aa (aW j8 rfl T.no_int (by rfl) (aa (cO bJ (ar (aq K rfl) (pv 1) ag (fun _ _=>rfl)) av (aG _)) af)) af)))))) fun _ _=>aI (aL (aD gQ (pv 5) av (aG _)) (aj (ay (bq (aa (pv 5) (aa (pv 0) af))))) aA) fun _ _=>aI (aF (i:=6) sc_aW.nd rfl (Or.inl rfl) (ar (aq K rfl) (pv 2) (aB aZ ag (aW j8 rfl T.no_int (by rfl) (aa (cO bJ (pv 3) av (aG _)) af))) (fun _ _=>rfl))) fun _ _=>aI (aL (aD bJ (ar (aq K rfl) (pv 1) ag (fun _ _=>rfl)) av (aG _)) (aJ (aL (aD (lG hr.units) (ar (aq K rfl) (pv 1) ag (fun _ _=>rfl)) (bq (aa ag (aa ag af))) rfl) (aj (ay (bq (aa av (aa (pv 0) af))))) aA) (aJ (aL (aD mG (ax (bH K rfl) rfl T.no_len (by rfl) (aa (pv 6) af)) ag (aG _)) (aj (ay (bq (aa av (aa (pv 0) af))))) aA) (aj (eG (cP hr) (pv 0) (ar (aq K rfl) (pv 1) ag (fun _ _=>rfl)) (aC (ok_be T) (hr.mono (by first | decide | omega)) rfl T.mg_be T.F_be.kp T.b_be .nil aS (aa (pv 2) (aa (pv 3) (aa (aB eP (aB eP (bQ (cf K rfl) (pv 6) cj (bZ (pv 4))) (bP (aa (ar (aq K rfl) (pv 1) ag (fun _ _=>rfl)) af))) (bQ (cf K rfl) (pv 6) (bZ (pv 4)) cj)) af)))) rfl)))) (aj (aL (aD bJ (ar (aq K rfl) (pv 1) ag (fun _ _=>rfl)) av (aG _)) (aj (eG (cP hr) (pv 0) (ar (aq K rfl) (pv 1) ag (fun _ _=>rfl)) (aC (ok_be T) (hr.mono (by first | decide | omega)) rfl T.mg_be T.F_be.kp T.b_be .nil aS (aa (pv 2) (aa (pv 3) (aa (aB eP (bQ (cf K rfl) (pv 6) cj (bZ (pv 4))) (bQ (cf K rfl) (pv 6) (bZ (aB aZ (pv 4) ag)) cj)) af)))) rfl)) (aj (aL (aD bJ (ar (aq K rfl) (pv 1) ag (fun _ _=>rfl)) av (aG _)) (aj (eG (cP hr) (pv 0) (ar (aq K rfl) (pv 1) ag (fun _ _=>rfl)) (aC (ok_be T) (hr.mono (by first | decide | omega)) rfl T.mg_be T.F_be.kp T.b_be .nil aS (aa (pv 2) (aa (pv 3) (aa (aB eP (aB eP (bQ (cf K rfl) (pv 6) cj (bZ (pv 4))) (bP (aa (aB fq ag (ar (aH K rfl) (pv 6) (pv 4) (fun _ _=>rfl))) af))) (bQ (cf K rfl) (pv 6) (bZ (aB aZ (pv 4) ag)) cj)) af)))) rfl)) (aJ (ky (aC (ok_bg T) (hr.mono (by first | decide | omega)) rfl T.mg_bg T.F_bg.kp T.b_bg .nil aS (aa (pv 2) (aa (pv 3) (aa (pv 4) af)))) (jL (n:=2) K rfl rfl (dv (bC (i:=7) sc_aW.nd rfl (Or.inl rfl)) (dv (bC (i:=8) sc_aW.nd rfl (Or.inl rfl)) jM)))) (aJ (eG (cP hr) (pv 0) (ar (aq K rfl) (pv 1) ag (fun _ _=>rfl)) (pv 7) rfl) (aj (eG (cP hr) (pv 0) (ar (aq K rfl) (pv 1) ag (fun _ _=>rfl)) (pv 8) rfl))))))))) fun _ _=>cK (ay (bq (aa av (aa (pv 0) af)))) fun _ _=>?_;obtain ⟨kvs,ef,pw⟩:=id hf;obtain ⟨q,gv,hq⟩:∃ q,dW kvs (Sum.inr n)=some (.ref q)∧cU H q c:=by
   rcases pw.get n with ⟨_,g⟩ | ⟨q,c',g1,g2,g3⟩
   ·rw [gc] at g; cases g
   ·rw [gc] at g2; cases g2; exact ⟨q,g1,g3⟩
  left
  cases dd with
  | lay => exact hg.elim
  | sew => exact hg.elim
  | drop m =>
   change m=n at hg;subst hg;change H v=some (.tup _) at hd;have en:bz bk (.drop m)=(("":Str),fN bk m):=by show (if _ then _ else _)=_; rw [gc]; rfl
   rw [en] at z;refine ak (SqT.of hd) rfl ?_;left;refine ⟨f,.ref q,rfl,by rw [← gv]; exact dB.k (k:=Sum.inr m) ef,?_⟩;left;refine ak (SqT.of hd) rfl ?_;left;refine bO (by decide +kernel) ?_;left;refine ⟨f,rfl,.inl ⟨kvs,.inl ef⟩,?_⟩;left;refine ak (SqT.of hd) rfl ?_;left;refine ⟨kvs,Sum.inr m,.ref q,ef,rfl,gv,?_⟩;have mB:bN [f] H (upd H f (.dK (eV kvs (Sum.inr m)))):=(bN.refl _ _).upd List.mem_cons_self;have lb:LB (upd H f (.dK (eV kvs (Sum.inr m)))) f (fN bk m):=⟨_,ae,(pw.but ef mB).drop m⟩
   generalize upd H f (.dK (eV kvs (Sum.inr m)))=H1 at mB lb ⊢;left;refine ⟨by show 2≤sizeLine; decide,fun tp ntp=>?_⟩;have stp:=ai.new (o:=HO.tup [V.str "",V.ref f]) ntp;have etp:=ae (H:=H1) (a:=tp) (o:=HO.tup [V.str "",V.ref f]);generalize upd H1 tp (HO.tup [V.str "",V.ref f])=H2 at stp etp ⊢;exact z tp H2 (mB.trans (stp.butL _)) etp fun _=>lb.mono stp
  | turn m wy k =>
   obtain ⟨rfl,ow⟩:=hg;change H v=some (.tup _) at hd;refine ak (SqT.of hd) rfl ?_;left;refine ⟨f,.ref q,rfl,by rw [← gv]; exact dB.k (k:=Sum.inr m) ef,?_⟩;left;refine ak (SqT.of hd) rfl ?_;left;refine bf (by decide +kernel) ?_;left;refine ak (SqT.of hd) rfl ?_;left;refine bf (by decide +kernel) ?_;left;refine ak (SqT.of hd) rfl ?_;left;refine ak (SqT.of hd) rfl ?_;left;refine ⟨_,_,rfl,?_⟩;left;refine ak (SqT.of hd) rfl ?_;left;refine ⟨q,wy,k,0,c,rfl,hq,ow,fun H3 s3=>?_⟩;left;have en0:bz bk (.turn m wy k)=((fy c wy k 0 (pz k.toNat)).1,bW bk m (fy c wy k 0 (pz k.toNat)).2):=by show eL bk m _=_; unfold eL; rw [gc]
   refine jk ?_;by_cases hw:bV c wy k 0=""
   rotate_left
   ·rw [decide_eq_false hw];left;refine ⟨by show 2≤sizeLine; decide,fun tp ntp=>?_⟩;have stp:=ai.new (o:=HO.tup [V.str (bV c wy k 0),V.ref f]) ntp;have etp:=ae (H:=H3) (a:=tp) (o:=HO.tup [V.str (bV c wy k 0),V.ref f]);generalize upd H3 tp (HO.tup [V.str (bV c wy k 0),V.ref f])=HR at stp etp ⊢;have en:(bz bk (.turn m wy k)).1=bV c wy k 0:=by rw [en0]; unfold fy; rw [if_neg hw,lF hw]
    exact z tp HR ((s3.trans stp).butL _) (by rw [en]; exact etp) fun e=>absurd (by rw [en] at e; exact e) hw
   rw [decide_eq_true hw];unfold fy at en0;rw [if_pos hw] at en0;obtain ⟨hW,h0,h1⟩:=fe hw;obtain ⟨j,rfl⟩:∃ j:Nat,k=(j:Int):=⟨k.toNat,by omega⟩
   rw [Int.toNat_natCast] at en0;obtain ⟨a',b',x,y,g1,_,_,i1,gx,_,_⟩:=(hq.mono s3).side wy;have bs:=(b9 ck wy).1;have hd:=s3 _ _ hd;left;refine ak (SqT.of g1) i1 ?_;left;refine ak (SqT.of hd) rfl ?_;left;refine bf (by decide +kernel) ?_;left;refine ak (SqT.of hd) rfl ?_;left;refine bf (by decide +kernel) ?_;left;refine ak (SqT.of hd) rfl ?_;left;refine bO (by decide +kernel) ?_;left;refine di gx fun l1 H4 s4 _ e1=>?_;rw [dF (by omega),Int.toNat_natCast] at e1;left;refine aQ (SqL.of (s4 _ _ gx)) (cw (i:=(j:Int)) (by omega) (by omega)) ?_;rw [Int.toNat_natCast];left;refine ⟨by show 1≤sizeLine; decide,fun l2 nl2=>?_⟩;have sl2:=ai.new (o:=HO.lst [V.int (1 - (aM wy c).getD j 0)]) nl2;have el2:=ae (H:=H4) (a:=l2) (o:=HO.lst [V.int (1 - (aM wy c).getD j 0)]);generalize upd H4 l2 (HO.lst [V.int (1 - (aM wy c).getD j 0)])=H5 at sl2 el2 ⊢;refine eK (sl2 _ _ e1) el2 (Nat.le_trans (show (List.map V.int (List.take j (aM wy c))).length+[V.int (1 - (aM wy c).getD j 0)].length≤1000 by simp only [List.length_append,List.length_map,List.length_take,List.length_drop,List.length_singleton]; omega) (by decide)) fun l3 H6 s6 _ e3=>?_;left;have s46:=s4.trans (sl2.trans s6);refine di (s46 _ _ gx) fun l4 H7 s7 _ e4=>?_;rw [show ((j:Int)+1)=((j+1:Nat):Int) by omega,c6] at e4;left;refine eK (s7 _ _ e3) e4 (Nat.le_trans (show (List.map V.int (List.take j (aM wy c))++[V.int (1 - (aM wy c).getD j 0)]).length+(List.map V.int (List.drop (j+1) (aM wy c))).length≤1000 by simp only [List.length_append,List.length_map,List.length_take,List.length_drop,List.length_singleton]; omega) (by decide)) fun l5 H8 s8 _ e5=>?_;have e5:H8 l5=some (.lst ((pz j (aM wy c)).2.map V.int)):=by rw [e5]; show _=some (HO.lst (List.map V.int (_++[_]++_))); rw [List.map_append,List.map_append]; rfl
   have s36:=s46.trans (s7.trans s8);left;refine ⟨q,l5,wy,c,_,rfl,hq.mono (s3.trans s36),e5,fun r H9 s9 p9=>?_⟩;have sE:=(s3.trans s36).trans s9;left;refine ak (SqT.of ((s36.trans s9) _ _ hd)) rfl ?_;left;obtain ⟨kvs2,e9,l9,lb⟩:=(hf.mono sE).put (n:=m) p9;refine ⟨f,_,rfl,jc.k (k:=Sum.inr m) e9 (by rw [l9]; exact aP (by omega)),?_⟩;have mB:bN [f] H (upd H9 f (.dK (cH kvs2 (Sum.inr m) (.ref r)))):=(sE.butL _).upd List.mem_cons_self;generalize upd H9 f (.dK (cH kvs2 (Sum.inr m) (.ref r)))=HP at mB lb ⊢;left;refine ⟨by show 2≤sizeLine; decide,fun tp ntp=>?_⟩;have stp:=ai.new (o:=HO.tup [V.str "",V.ref f]) ntp;have etp:=ae (H:=HP) (a:=tp) (o:=HO.tup [V.str "",V.ref f]);generalize upd HP tp (HO.tup [V.str "",V.ref f])=HQ at stp etp ⊢;exact z tp HQ (mB.trans (stp.butL _)) (by rw [en0]; exact etp) fun _=>by rw [en0]; exact lb.mono stp
  | cut m wy k =>
   obtain ⟨rfl,ow⟩:=hg;change H v=some (.tup _) at hd;refine ak (SqT.of hd) rfl ?_;left;refine ⟨f,.ref q,rfl,by rw [← gv]; exact dB.k (k:=Sum.inr m) ef,?_⟩;left;refine ak (SqT.of hd) rfl ?_;left;refine bf (by decide +kernel) ?_;left;refine ak (SqT.of hd) rfl ?_;left;refine bf (by decide +kernel) ?_;left;refine ak (SqT.of hd) rfl ?_;left;refine ak (SqT.of hd) rfl ?_;left;refine ⟨_,_,rfl,?_⟩;left;refine ak (SqT.of hd) rfl ?_;left;refine ⟨q,wy,k,0,c,rfl,hq,ow,fun H3 s3=>?_⟩;left;have en0:bz bk (.cut m wy k)=((fy c wy k 0 (vK k.toNat)).1,bW bk m (fy c wy k 0 (vK k.toNat)).2):=by show eL bk m _=_; unfold eL; rw [gc]
   refine jk ?_;by_cases hw:bV c wy k 0=""
   rotate_left
   ·rw [decide_eq_false hw];left;refine ⟨by show 2≤sizeLine; decide,fun tp ntp=>?_⟩;have stp:=ai.new (o:=HO.tup [V.str (bV c wy k 0),V.ref f]) ntp;have etp:=ae (H:=H3) (a:=tp) (o:=HO.tup [V.str (bV c wy k 0),V.ref f]);generalize upd H3 tp (HO.tup [V.str (bV c wy k 0),V.ref f])=HR at stp etp ⊢;have en:(bz bk (.cut m wy k)).1=bV c wy k 0:=by rw [en0]; unfold fy; rw [if_neg hw,lF hw]
    exact z tp HR ((s3.trans stp).butL _) (by rw [en]; exact etp) fun e=>absurd (by rw [en] at e; exact e) hw
   rw [decide_eq_true hw];unfold fy at en0;rw [if_pos hw] at en0;obtain ⟨hW,h0,h1⟩:=fe hw;obtain ⟨j,rfl⟩:∃ j:Nat,k=(j:Int):=⟨k.toNat,by omega⟩
   rw [Int.toNat_natCast] at en0;obtain ⟨a',b',x,y,g1,_,_,i1,gx,_,_⟩:=(hq.mono s3).side wy;have bs:=(b9 ck wy).1;have hd:=s3 _ _ hd;left;refine ak (SqT.of g1) i1 ?_;left;refine ak (SqT.of hd) rfl ?_;left;refine bf (by decide +kernel) ?_;left;refine ak (SqT.of hd) rfl ?_;left;refine bO (by decide +kernel) ?_;left;refine di gx fun l1 H4 s4 _ e1=>?_;rw [dF (by omega),Int.toNat_natCast] at e1;left;refine di (s4 _ _ gx) fun l2 H5 s5 _ e2=>?_;rw [show ((j:Int)+1)=((j+1:Nat):Int) by omega,c6] at e2;left;refine eK (s5 _ _ e1) e2 (Nat.le_trans (show (List.map V.int (List.take j (aM wy c))).length+(List.map V.int (List.drop (j+1) (aM wy c))).length≤1000 by simp only [List.length_append,List.length_map,List.length_take,List.length_drop,List.length_singleton]; omega) (by decide)) fun l3 H6 s6 _ e3=>?_;have e3:H6 l3=some (.lst ((vK j (aM wy c)).2.map V.int)):=by rw [e3,← List.map_append]; rfl
   have s36:=s4.trans (s5.trans s6);left;refine ⟨q,l3,wy,c,_,rfl,hq.mono (s3.trans s36),e3,fun r H9 s9 p9=>?_⟩;have sE:=(s3.trans s36).trans s9;left;refine ak (SqT.of ((s36.trans s9) _ _ hd)) rfl ?_;left;obtain ⟨kvs2,e9,l9,lb⟩:=(hf.mono sE).put (n:=m) p9;refine ⟨f,_,rfl,jc.k (k:=Sum.inr m) e9 (by rw [l9]; exact aP (by omega)),?_⟩;have mB:bN [f] H (upd H9 f (.dK (cH kvs2 (Sum.inr m) (.ref r)))):=(sE.butL _).upd List.mem_cons_self;generalize upd H9 f (.dK (cH kvs2 (Sum.inr m) (.ref r)))=HP at mB lb ⊢;left;refine ⟨by show 2≤sizeLine; decide,fun tp ntp=>?_⟩;have stp:=ai.new (o:=HO.tup [V.str "",V.ref f]) ntp;have etp:=ae (H:=HP) (a:=tp) (o:=HO.tup [V.str "",V.ref f]);generalize upd HP tp (HO.tup [V.str "",V.ref f])=HQ at stp etp ⊢;exact z tp HQ (mB.trans (stp.butL _)) (by rw [en0]; exact etp) fun _=>by rw [en0]; exact lb.mono stp
  | put m wy k b =>
   obtain ⟨rfl,ow⟩:=hg;change H v=some (.tup _) at hd;refine ak (SqT.of hd) rfl ?_;left;refine ⟨f,.ref q,rfl,by rw [← gv]; exact dB.k (k:=Sum.inr m) ef,?_⟩;left;refine ak (SqT.of hd) rfl ?_;left;refine bf (by decide +kernel) ?_;left;refine ak (SqT.of hd) rfl ?_;left;refine bf (by decide +kernel) ?_;left;refine ak (SqT.of hd) rfl ?_;left;refine ak (SqT.of hd) rfl ?_;left;refine ⟨_,_,rfl,?_⟩;left;refine ak (SqT.of hd) rfl ?_;left;refine ⟨q,wy,k,1,c,rfl,hq,ow,fun H3 s3=>?_⟩;left;have en0:bz bk (.put m wy k b)=((fy c wy k 1 (nQ k.toNat b)).1,bW bk m (fy c wy k 1 (nQ k.toNat b)).2):=by show eL bk m _=_; unfold eL; rw [gc]
   refine jk ?_;by_cases hw:bV c wy k 1=""
   rotate_left
   ·rw [decide_eq_false hw];left;refine ⟨by show 2≤sizeLine; decide,fun tp ntp=>?_⟩;have stp:=ai.new (o:=HO.tup [V.str (bV c wy k 1),V.ref f]) ntp;have etp:=ae (H:=H3) (a:=tp) (o:=HO.tup [V.str (bV c wy k 1),V.ref f]);generalize upd H3 tp (HO.tup [V.str (bV c wy k 1),V.ref f])=HR at stp etp ⊢;have en:(bz bk (.put m wy k b)).1=bV c wy k 1:=by rw [en0]; unfold fy; rw [if_neg hw,lF hw]
    exact z tp HR ((s3.trans stp).butL _) (by rw [en]; exact etp) fun e=>absurd (by rw [en] at e; exact e) hw
   rw [decide_eq_true hw];unfold fy at en0;rw [if_pos hw] at en0;obtain ⟨hW,h0,h1⟩:=fe hw;obtain ⟨j,rfl⟩:∃ j:Nat,k=(j:Int):=⟨k.toNat,by omega⟩
   rw [Int.toNat_natCast] at en0;obtain ⟨a',b',x,y,g1,_,_,i1,gx,_,_⟩:=(hq.mono s3).side wy;have bs:=(b9 ck wy).1;have hd:=s3 _ _ hd;left;refine ak (SqT.of g1) i1 ?_;left;refine ak (SqT.of hd) rfl ?_;left;refine bO (by decide +kernel) ?_;left;refine ak (SqT.of hd) rfl ?_;left;refine ⟨by show 2≤sizeLine; decide,fun p2 np2=>?_⟩;have sp2:=ai.new (o:=HO.tup [V.int 0,V.int 1]) np2;have ep2:=ae (H:=H3) (a:=p2) (o:=HO.tup [V.int 0,V.int 1]);generalize upd H3 p2 (HO.tup [V.int 0,V.int 1])=H4 at sp2 ep2 ⊢;refine yN ep2 ?_;unfold nQ at en0;by_cases hb:b=0∨b=1
   rotate_left
   ·rw [decide_eq_false hb];rw [if_neg hb] at en0;left;refine ⟨by show 2≤sizeLine; decide,fun tp ntp=>?_⟩;have stp:=ai.new (o:=HO.tup [V.str "bit",V.ref f]) ntp;have etp:=ae (H:=H4) (a:=tp) (o:=HO.tup [V.str "bit",V.ref f]);generalize upd H4 tp (HO.tup [V.str "bit",V.ref f])=HR at stp etp ⊢;exact z tp HR ((s3.trans (sp2.trans stp)).butL _) (by rw [en0]; exact etp) fun e=>absurd (show ("bit":Str)="" from by rw [en0] at e; exact e) (by decide +kernel)
   rw [decide_eq_true hb];rw [if_pos hb] at en0;have gx:=sp2 _ _ gx;have hd:=sp2 _ _ hd;left;refine bI gx ?_;rw [List.length_map];left;by_cases hn:(aM wy c).length≤38
   rotate_left
   ·rw [decide_eq_true (by omega:(38:Int)<(aM wy c).length)];rw [if_neg hn] at en0;left;refine ⟨by show 2≤sizeLine; decide,fun tp ntp=>?_⟩;have stp:=ai.new (o:=HO.tup [V.str "size",V.ref f]) ntp;have etp:=ae (H:=H4) (a:=tp) (o:=HO.tup [V.str "size",V.ref f]);generalize upd H4 tp (HO.tup [V.str "size",V.ref f])=HR at stp etp ⊢;exact z tp HR ((s3.trans (sp2.trans stp)).butL _) (by rw [en0]; exact etp) fun e=>absurd (show ("size":Str)="" from by rw [en0] at e; exact e) (by decide +kernel)
   rw [decide_eq_false (by omega:¬ (38:Int)<(aM wy c).length)];rw [if_pos hn] at en0;left;refine di gx fun l1 H5 s5 _ e1=>?_;rw [dF (by omega),Int.toNat_natCast] at e1;left;refine ak (SqT.of (s5 _ _ hd)) rfl ?_;left;refine ⟨by show 1≤sizeLine; decide,fun l2 nl2=>?_⟩;have sl2:=ai.new (o:=HO.lst [V.int b]) nl2;have el2:=ae (H:=H5) (a:=l2) (o:=HO.lst [V.int b]);generalize upd H5 l2 (HO.lst [V.int b])=H6 at sl2 el2 ⊢;refine eK (sl2 _ _ e1) el2 (Nat.le_trans (show (List.map V.int (List.take j (aM wy c))).length+[V.int b].length≤1000 by simp only [List.length_append,List.length_map,List.length_take,List.length_drop,List.length_singleton]; omega) (by decide)) fun l3 H7 s7 _ e3=>?_;left;have s57:=s5.trans (sl2.trans s7);refine di (s57 _ _ gx) fun l4 H8 s8 _ e4=>?_;rw [c6] at e4;left;refine eK (s8 _ _ e3) e4 (Nat.le_trans (show (List.map V.int (List.take j (aM wy c))++[V.int b]).length+(List.map V.int (List.drop j (aM wy c))).length≤1000 by simp only [List.length_append,List.length_map,List.length_take,List.length_drop,List.length_singleton]; omega) (by decide)) fun l5 HA sA _ e5=>?_;have e5:HA l5=some (.lst (((aM wy c).take j++[b]++(aM wy c).drop j).map V.int)):=by rw [e5,List.map_append,List.map_append]; rfl
   have s36:=s57.trans (s8.trans sA);left;refine ⟨q,l5,wy,c,_,rfl,hq.mono (s3.trans (sp2.trans s36)),e5,fun r H9 s9 p9=>?_⟩;have sE:=(s3.trans (sp2.trans s36)).trans s9;left;refine ak (SqT.of ((s36.trans s9) _ _ hd)) rfl ?_;left;obtain ⟨kvs2,e9,l9,lb⟩:=(hf.mono sE).put (n:=m) p9;refine ⟨f,_,rfl,jc.k (k:=Sum.inr m) e9 (by rw [l9]; exact aP (by omega)),?_⟩;have mB:bN [f] H (upd H9 f (.dK (cH kvs2 (Sum.inr m) (.ref r)))):=(sE.butL _).upd List.mem_cons_self;generalize upd H9 f (.dK (cH kvs2 (Sum.inr m) (.ref r)))=HP at mB lb ⊢;left;refine ⟨by show 2≤sizeLine; decide,fun tp ntp=>?_⟩;have stp:=ai.new (o:=HO.tup [V.str "",V.ref f]) ntp;have etp:=ae (H:=HP) (a:=tp) (o:=HO.tup [V.str "",V.ref f]);generalize upd HP tp (HO.tup [V.str "",V.ref f])=HQ at stp etp ⊢;exact z tp HQ (mB.trans (stp.butL _)) (by rw [en0]; exact etp) fun _=>by rw [en0]; exact lb.mono stp
  | part m wy k o =>
   obtain ⟨rfl,ow,oz⟩:=hg;change H v=some (.tup _) at hd;refine ak (SqT.of hd) rfl ?_;left;refine ⟨f,.ref q,rfl,by rw [← gv]; exact dB.k (k:=Sum.inr m) ef,?_⟩;left;refine ak (SqT.of hd) rfl ?_;left;refine bf (by decide +kernel) ?_;left;refine ak (SqT.of hd) rfl ?_;left;refine bO (by decide +kernel) ?_;left;refine ak (SqT.of hd) rfl ?_;left;refine ⟨f,o,bk,rfl,hf,oz,fun H1 s1=>?_⟩;left;have en0:bz bk (.part m wy k o)=if dm bk o="" then (if bV c wy k 0="" then (("":Str),bW (bW bk m (cC c wy ((aM wy c).take k.toNat))) o (nW c wy k.toNat)) else (("line":Str),bk)) else (dm bk o,bk):=by show (match aO bk m with | none=>_ | some c=>_)=_; rw [gc]
   refine jk ?_;by_cases hw0:dm bk o=""
   rotate_left
   ·rw [if_neg hw0] at en0;rw [decide_eq_false hw0];left;refine ak (SqT.of (s1 _ _ hd)) rfl ?_;left;refine ⟨f,o,bk,rfl,hf.mono s1,oz,fun H2 s2=>?_⟩;left;refine ⟨by show 2≤sizeLine; decide,fun tp ntp=>?_⟩;have stp:=ai.new (o:=HO.tup [V.str (dm bk o),V.ref f]) ntp;have etp:=ae (H:=H2) (a:=tp) (o:=HO.tup [V.str (dm bk o),V.ref f]);generalize upd H2 tp (HO.tup [V.str (dm bk o),V.ref f])=HR at stp etp ⊢;exact z tp HR ((s1.trans (s2.trans stp)).butL _) (by rw [en0]; exact etp) fun e=>absurd (by rw [en0] at e; exact e) hw0
   rw [if_pos hw0] at en0;rw [decide_eq_true hw0];have hd:=s1 _ _ hd;have hf:=hf.mono s1;have hq:=hq.mono s1;have z:=fun tp H' (mm:bN [f] H1 H')=>z tp H' ((s1.butL _).trans mm);clear pw ef gv;generalize H1=H0 at hd hf hq z ⊢;clear s1
   rename_i Hold;left;refine ak (SqT.of hd) rfl ?_;left;refine ak (SqT.of hd) rfl ?_;left;refine ⟨_,_,rfl,?_⟩;left;refine ak (SqT.of hd) rfl ?_;left;refine ⟨q,wy,k,0,c,rfl,hq,ow,fun H3 s3=>?_⟩;left;refine jk ?_;by_cases hw:bV c wy k 0=""
   rotate_left
   ·rw [decide_eq_false hw];left;refine ⟨by show 2≤sizeLine; decide,fun tp ntp=>?_⟩;have stp:=ai.new (o:=HO.tup [V.str (bV c wy k 0),V.ref f]) ntp;have etp:=ae (H:=H3) (a:=tp) (o:=HO.tup [V.str (bV c wy k 0),V.ref f]);generalize upd H3 tp (HO.tup [V.str (bV c wy k 0),V.ref f])=HR at stp etp ⊢;have en:(bz bk (.part m wy k o)).1=bV c wy k 0:=by rw [en0]; rw [if_neg hw,lF hw]
    exact z tp HR ((s3.trans stp).butL _) (by rw [en]; exact etp) fun e=>absurd (by rw [en] at e; exact e) hw
   rw [decide_eq_true hw];rw [if_pos hw] at en0;obtain ⟨hW,h0,h1⟩:=fe hw;obtain ⟨j,rfl⟩:∃ j:Nat,k=(j:Int):=⟨k.toNat,by omega⟩
   rw [Int.toNat_natCast] at en0;obtain ⟨a',b',x,y,g1,_,_,i1,gx,_,_⟩:=(hq.mono s3).side wy;have bs:=(b9 ck wy).1;have hd:=s3 _ _ hd;left;refine ak (SqT.of g1) i1 ?_;left;refine ak (SqT.of hd) rfl ?_;left;refine bf (by decide +kernel) ?_;left;refine ak (SqT.of hd) rfl ?_;left;refine bf (by decide +kernel) ?_;left;refine ak (SqT.of hd) rfl ?_;left;refine bf (by decide +kernel) ?_;left;refine ⟨q,wy,j,c,rfl,hq.mono s3,ck,hW,by omega,fun tp r1 r2 H4 s4 et p1 p2=>?_⟩;left;refine iU et rfl ?_;left;refine ak (SqT.of (s4 _ _ hd)) rfl ?_;left;have s34:=s3.trans s4;obtain ⟨kvs2,e9,l9,lb⟩:=(hf.mono s34).put (n:=m) p1;refine ⟨f,_,rfl,jc.k (k:=Sum.inr m) e9 (by rw [l9]; exact aP (by omega)),?_⟩;have m4:bN [f] H4 (upd H4 f (.dK (cH kvs2 (Sum.inr m) (.ref r1)))):=(bN.refl _ _).upd List.mem_cons_self;have p2:=p2.frz e9 m4;have hdP:=m4 _ _ (s4 _ _ hd) fun zz=>by rw [← List.mem_singleton.mp zz,s4 _ _ hd] at e9; cases e9
   have mB:=(s34.butL [f]).trans m4;generalize upd H4 f (.dK (cH kvs2 (Sum.inr m) (.ref r1)))=HP at mB lb p2 hdP ⊢;left;refine ak (SqT.of hdP) rfl ?_;left;obtain ⟨kvs3,e8,l8,lb2⟩:=lb.put (n:=o) p2;have:=d8 (bk:=bk) (n:=m) (c:=cC c wy ((aM wy c).take j))
   refine ⟨f,_,rfl,jc.k (k:=Sum.inr o) e8 (by rw [l8]; exact aP (by omega)),?_⟩;have mC:bN [f] H0 (upd HP f (.dK (cH kvs3 (Sum.inr o) (.ref r2)))):=mB.upd List.mem_cons_self;generalize upd HP f (.dK (cH kvs3 (Sum.inr o) (.ref r2)))=HW at mC lb2 ⊢;left;refine ⟨by show 2≤sizeLine; decide,fun tq ntq=>?_⟩;have stq:=ai.new (o:=HO.tup [V.str "",V.ref f]) ntq;have etq:=ae (H:=HW) (a:=tq) (o:=HO.tup [V.str "",V.ref f]);generalize upd HW tq (HO.tup [V.str "",V.ref f])=HQ at stq etq ⊢;exact z tq HQ (mC.trans (stq.butL _)) (by rw [en0]; exact etq) fun _=>by rw [en0]; exact lb2.mono stq
def rD (bk:Bk):Prop:=∀ nc∈bk,dX nc.2
theorem rD.get {bk:Bk} (h:rD bk) {n:Str} {c:Clo} (g:aO bk n=some c):dX c:=by
 unfold aO at g
 cases e:bk.find? fun nc=>decide (nc.1=n) with
 | none=>rw [e] at g; cases g
 | some nc =>
  rw [e] at g
  cases g;exact h nc (List.mem_of_find?_eq_some e)
def xg:Dd→Prop
 | .lay n c=>n.cps.size≤1000∧dX c
 | .drop _=>True
 | .turn _ wy _=>PyData.strOk wy=true
 | .cut _ wy _=>PyData.strOk wy=true
 | .put _ wy _ _=>PyData.strOk wy=true
 | .sew n _ _ wy=>n.cps.size≤1000∧PyData.strOk wy=true
 | .part _ wy _ o=>PyData.strOk wy=true∧o.cps.size≤1000
def sp_aL:Sp:=fun vs H Q _=>∃ (b v:Addr) (bk:Bk) (dd:Dd),vs=[.ref b,.ref v]∧LB H b bk∧bk.length≤900∧rD bk∧kW H v dd∧xg dd ∧
 ∀ tp f H',ai H H'→H' tp=some (.tup [.str (bz bk dd).1,.ref f])→((bz bk dd).1=""→LB H' f (bz bk dd).2)→Q (.ref tp) H'
theorem ok_aL (T:Txt K mg t):aU P w K mg base CX0 4 t.f_aL t.d_aL ["_law_book","_law_deed"] sp_aL:=by
 refine T.F_aL.ok sc_aL (fun vs H Q E h=>?_) (fun cdv A outer s H vs Q E hr h=>?_)
 ·obtain ⟨b,v,bk,dd,rfl,_⟩:=h; rfl
 ·obtain ⟨b,v,bk,dd,rfl,hb,hl,hk,hd,ho,z⟩:=h;refine aI (aF (i:=2) sc_aL.nd rfl (Or.inl rfl) (aW jD rfl T.no_dict (by rfl) (aa (pv 0) af))) fun _ _=>aI (aL (aD bJ (ar (aq K rfl) (pv 1) ag (fun _ _=>rfl)) av (aG _)) (aJ (aF (i:=3) sc_aL.nd rfl (Or.inl rfl) (aC (ok_aF T) (hr.mono (by first | decide | omega)) rfl T.mg_aF T.F_aF.kp T.b_aF .nil aS (aa (pv 0) (aa (ar (aq K rfl) (pv 1) ag (fun _ _=>rfl)) af)))) (aJ (eG (cP hr) (pv 2) (ar (aq K rfl) (pv 1) ag (fun _ _=>rfl)) (ar (aq K rfl) (pv 1) ag (fun _ _=>rfl)) rfl) (aj (ay (bq (aa (pv 3) (aa (pv 2) af))))))) aA) fun _ _=>aI (aL (aD bJ (ar (aq K rfl) (pv 1) ag (fun _ _=>rfl)) av (aG _)) (aJ (aF (i:=3) sc_aL.nd rfl (Or.inl rfl) (aC (ok_aF T) (hr.mono (by first | decide | omega)) rfl T.mg_aF T.F_aF.kp T.b_aF .nil aS (aa (pv 0) (aa (ar (aq K rfl) (pv 1) ag (fun _ _=>rfl)) af)))) (aJ (aL (aD gQ (pv 3) av (aG _)) (aj (ay (bq (aa (pv 3) (aa (pv 2) af))))) aA) (aJ (aL (PW.pt (jb (ib (fW (cP hr) (ar (aq K rfl) (pv 1) ag (fun _ _=>rfl)) (pv 0))) (gI (ib (fW (cP hr) (ar (aq K rfl) (pv 1) ag (fun _ _=>rfl)) (pv 0)))))) (aj (ay (bq (aa av (aa (pv 2) af))))) aA) (aJ (ky (aC (ok_bd T) (hr.mono (by first | decide | omega)) rfl T.mg_bd T.F_bd.kp T.b_bd .nil aS (aa (gH (cP hr) (pv 0) (ar (aq K rfl) (pv 1) ag (fun _ _=>rfl)) (fun _ _=>rfl)) (aa (gH (cP hr) (pv 0) (ar (aq K rfl) (pv 1) ag (fun _ _=>rfl)) (fun _ _=>rfl)) (aa (ar (aq K rfl) (pv 1) ag (fun _ _=>rfl)) af)))) (jL (n:=2) K rfl rfl (dv (bC (i:=3) sc_aL.nd rfl (Or.inl rfl)) (dv (bC (i:=4) sc_aL.nd rfl (Or.inl rfl)) jM)))) (aJ (eG (cP hr) (pv 2) (ar (aq K rfl) (pv 1) ag (fun _ _=>rfl)) (pv 4) rfl) (aj (ay (bq (aa (pv 3) (aa (pv 2) af)))))))))) aA) fun _ _=>aI (aL (ib (fW (cP hr) (ar (aq K rfl) (pv 1) ag (fun _ _=>rfl)) (pv 0))) (aj (ay (bq (aa av (aa (pv 2) af))))) aA) fun _ _=>cK (ay (aC (ok_aW T) (hr.mono (by first | decide | omega)) rfl T.mg_aW T.F_aW.kp T.b_aW .nil aS (aa (pv 2) (aa (pv 1) af)))) fun _ _=>?_;obtain ⟨kvs,eb,pw⟩:=id hb;left;refine ⟨b,kvs,rfl,eb,fun f nf=>?_⟩;have s1:=ai.new (o:=HO.dK kvs) nf;have hf:LB (upd H f (HO.dK kvs)) f bk:=⟨kvs,ae,Paired.mapP pw fun _ _ ⟨x,q,e,r⟩=>⟨x,q,e,r.mono s1⟩⟩
  generalize upd H f (HO.dK kvs)=H1 at s1 hf ⊢;have hd:=hd.mono s1;have hb:=hb.mono s1;by_cases isl:∃ n c,dd=.lay n c
  ·obtain ⟨n,c,rfl⟩:=isl;obtain ⟨q,hv,hq⟩:=hd;left;refine ak (SqT.of hv) rfl ?_;left;refine bO (by decide +kernel) ?_;left;refine ak (SqT.of hv) rfl ?_;left;refine ⟨b,n,bk,rfl,hb,ho.1,fun H2 s2=>?_⟩;left;refine ak (SqT.of (s2 _ _ hv)) rfl ?_;left;refine ak (SqT.of (s2 _ _ hv)) rfl ?_;left;obtain ⟨kvs2,e9,l9,lb⟩:=(hf.mono s2).put (n:=n) (hq.mono s2);refine ⟨f,_,rfl,jc.k (k:=Sum.inr n) e9 (by rw [l9]; exact aP (by omega)),?_⟩;have sP:ai H (upd H2 f (.dK (cH kvs2 (Sum.inr n) (.ref q)))):=(s1.trans s2).later nf;generalize upd H2 f (.dK (cH kvs2 (Sum.inr n) (.ref q)))=HP at sP lb ⊢;left;refine ⟨by show 2≤sizeLine; decide,fun tp ntp=>?_⟩;have stp:=ai.new (o:=HO.tup [V.str (dm bk n),V.ref f]) ntp;have etp:=ae (H:=HP) (a:=tp) (o:=HO.tup [V.str (dm bk n),V.ref f]);generalize upd HP tp (HO.tup [V.str (dm bk n),V.ref f])=HQ at stp etp ⊢;exact z tp f HQ (sP.trans stp) etp fun _=>lb.mono stp
  by_cases iss:∃ n o1 o2 wy,dd=.sew n o1 o2 wy
  ·obtain ⟨n,o1,o2,wy,rfl⟩:=iss;change H1 v=some (.tup _) at hd;left;refine ak (SqT.of hd) rfl ?_;left;refine bf (by decide +kernel) ?_;left;refine ak (SqT.of hd) rfl ?_;left;refine bO (by decide +kernel) ?_;left;refine ak (SqT.of hd) rfl ?_;left;refine ⟨b,n,bk,rfl,hb,ho.1,fun H2 s2=>?_⟩;have en:bz bk (.sew n o1 o2 wy)=if dm bk n="" then (match aO bk o1,aO bk o2 with
    | some c1,some c2=>(unW c1 c2 wy,bW bk n (unB c1 c2 wy))
    | _,_=>(("cloth":Str),bk)) else (dm bk n,bk):=rfl
   have hd:=s2 _ _ hd;have hb:=hb.mono s2;have hf:=hf.mono s2;have s12:=s1.trans s2;left;refine jk ?_;by_cases hw:dm bk n=""
   rotate_left
   ·rw [decide_eq_false hw];rw [if_neg hw] at en;left;refine ⟨by show 2≤sizeLine; decide,fun tp ntp=>?_⟩;have stp:=ai.new (o:=HO.tup [V.str (dm bk n),V.ref f]) ntp;have etp:=ae (H:=H2) (a:=tp) (o:=HO.tup [V.str (dm bk n),V.ref f]);generalize upd H2 tp (HO.tup [V.str (dm bk n),V.ref f])=HR at stp etp ⊢;exact z tp f HR (s12.trans stp) (by rw [en]; exact etp) fun e=>absurd (by rw [en] at e; exact e) hw
   rw [decide_eq_true hw];rw [if_pos hw] at en;obtain ⟨kvs2,eb2,pw2⟩:=id hb;left;refine ak (SqT.of hd) rfl ?_;left;refine ⟨b,_,rfl,dB.k (k:=Sum.inr o1) eb2,?_⟩;rcases pw2.get o1 with ⟨g1,g2⟩ | ⟨q1,c1,g1,g2,h1⟩
   ·rw [g1,Option.isSome_none];rw [g2] at en;left;refine ⟨by show 2≤sizeLine; decide,fun tp ntp=>?_⟩;have stp:=ai.new (o:=HO.tup [V.str "cloth",V.ref f]) ntp;have etp:=ae (H:=H2) (a:=tp) (o:=HO.tup [V.str "cloth",V.ref f]);generalize upd H2 tp (HO.tup [V.str "cloth",V.ref f])=HR at stp etp ⊢;exact z tp f HR (s12.trans stp) (by rw [en]; exact etp) fun e=>absurd (show ("cloth":Str)="" from by rw [en] at e; exact e) (by decide +kernel)
   rw [g1,Option.isSome_some];rw [g2] at en;left;refine ak (SqT.of hd) rfl ?_;left;refine ⟨b,_,rfl,dB.k (k:=Sum.inr o2) eb2,?_⟩;rcases pw2.get o2 with ⟨g3,g4⟩ | ⟨q2,c2,g3,g4,h2⟩
   ·rw [g3,Option.isSome_none];rw [g4] at en;left;refine ⟨by show 2≤sizeLine; decide,fun tp ntp=>?_⟩;have stp:=ai.new (o:=HO.tup [V.str "cloth",V.ref f]) ntp;have etp:=ae (H:=H2) (a:=tp) (o:=HO.tup [V.str "cloth",V.ref f]);generalize upd H2 tp (HO.tup [V.str "cloth",V.ref f])=HR at stp etp ⊢;exact z tp f HR (s12.trans stp) (by rw [en]; exact etp) fun e=>absurd (show ("cloth":Str)="" from by rw [en] at e; exact e) (by decide +kernel)
   rw [g3,Option.isSome_some];rw [g4] at en;left;refine ak (SqT.of hd) rfl ?_;left;refine ⟨b,.ref q1,rfl,by rw [← g1]; exact dB.k (k:=Sum.inr o1) eb2,?_⟩;left;refine ak (SqT.of hd) rfl ?_;left;refine ⟨b,.ref q2,rfl,by rw [← g3]; exact dB.k (k:=Sum.inr o2) eb2,?_⟩;left;refine ak (SqT.of hd) rfl ?_;left;refine ⟨q1,q2,wy,c1,c2,rfl,h1,h2,hk.get g2,hk.get g4,ho.2,fun tq vv H3 s3 et hu=>?_⟩;left;refine iU et rfl ?_;left;refine ak (SqT.of (s3 _ _ hd)) rfl ?_;left;obtain ⟨kvs3,e3,pw3⟩:=id (hf.mono s3);have l3:kvs3.length=bk.length:=Paired.length pw3;have lbf:unW c1 c2 wy=""→LB (upd H3 f (.dK (cH kvs3 (Sum.inr n) vv))) f (bW bk n (unB c1 c2 wy)):=fun e=>by
    obtain ⟨r,rfl,p⟩:=hu e;obtain ⟨kvs4,e4,_,lb⟩:=(hf.mono s3).put (n:=n) p;rw [e3] at e4
    cases e4;exact lb
   refine ⟨f,_,rfl,jc.k (k:=Sum.inr n) e3 (by rw [l3]; exact aP (by omega)),?_⟩;have sP:ai H (upd H3 f (.dK (cH kvs3 (Sum.inr n) vv))):=(s12.trans s3).later nf;generalize upd H3 f (.dK (cH kvs3 (Sum.inr n) vv))=HP at sP lbf ⊢;left;refine ⟨by show 2≤sizeLine; decide,fun tp ntp=>?_⟩;have stp:=ai.new (o:=HO.tup [V.str (unW c1 c2 wy),V.ref f]) ntp;have etp:=ae (H:=HP) (a:=tp) (o:=HO.tup [V.str (unW c1 c2 wy),V.ref f]);generalize upd HP tp (HO.tup [V.str (unW c1 c2 wy),V.ref f])=HQ at stp etp ⊢;exact z tp f HQ (sP.trans stp) (by rw [en]; exact etp) fun e=>by
    rw [en] at e ⊢;exact (lbf e).mono stp
  obtain ⟨nm,n,dw,hv,m1,m2,hcg,hno⟩:∃ nm n dw,H1 v=some (.tup (.str nm::.str n::dw))∧(¬ nm="lay")∧(¬ nm="sew")∧Chg bk n dd∧(aO bk n=none→(bz bk dd).1="cloth"):=by
   cases dd with
   | lay n c=>exact absurd ⟨n,c,rfl⟩ isl
   | sew n o1 o2 wy=>exact absurd ⟨n,o1,o2,wy,rfl⟩ iss
   | drop n=>exact ⟨_,n,_,hd,by decide +kernel,by decide +kernel,rfl,fun g=>by show (if _ then _ else _:Str×Bk).1=_; rw [g]; rfl⟩
   | turn n wy k=>exact ⟨_,n,_,hd,by decide +kernel,by decide +kernel,⟨rfl,ho⟩,fun g=>by show (eL bk n _).1=_; unfold eL; rw [g]⟩
   | cut n wy k=>exact ⟨_,n,_,hd,by decide +kernel,by decide +kernel,⟨rfl,ho⟩,fun g=>by show (eL bk n _).1=_; unfold eL; rw [g]⟩
   | put n wy k b=>exact ⟨_,n,_,hd,by decide +kernel,by decide +kernel,⟨rfl,ho⟩,fun g=>by show (eL bk n _).1=_; unfold eL; rw [g]⟩
   | part n wy k o=>exact ⟨_,n,_,hd,by decide +kernel,by decide +kernel,⟨rfl,ho.1,ho.2⟩,fun g=>by simp only [bz]; rw [g]⟩
  left;refine ak (SqT.of hv) (bY (j:=0) rfl) ?_;left;refine bf (decide_eq_false m1) ?_;left;refine ak (SqT.of hv) (bY (j:=0) rfl) ?_;left;refine bf (decide_eq_false m2) ?_;obtain ⟨kvs2,eb2,pw2⟩:=id hb;left;refine ak (SqT.of hv) (bY (j:=1) rfl) ?_;left;refine ⟨b,_,rfl,dB.k (k:=Sum.inr n) eb2,?_⟩;rcases pw2.get n with ⟨g1,g2⟩ | ⟨q1,c1,g1,g2,h1⟩
  ·rw [g1,Option.isSome_none];have en:=hno g2;left;refine ⟨by show 2≤sizeLine; decide,fun tp ntp=>?_⟩;have stp:=ai.new (o:=HO.tup [V.str "cloth",V.ref f]) ntp;have etp:=ae (H:=H1) (a:=tp) (o:=HO.tup [V.str "cloth",V.ref f]);generalize upd H1 tp (HO.tup [V.str "cloth",V.ref f])=HR at stp etp ⊢;exact z tp f HR (s1.trans stp) (by rw [en]; exact etp) fun e=>absurd (show ("cloth":Str)="" from by rw [en] at e; exact e) (by decide +kernel)
  rw [g1,Option.isSome_some];left;exact ⟨f,v,bk,dd,n,c1,rfl,hf,hl,hd,hcg,g2,hk.get g2,fun tp H' mB et lb=>z tp f H' (fun a o e=>mB a o (s1 a o e) fun zz=>by rw [List.mem_singleton.mp zz,nf] at e; cases e) et lb⟩
end
section
theorem nE {c:Clo} {wy:Str} (h:"col"=wy∨"row"=wy):fj wy c.2.1 c.2.2 (aM wy c):=by
 rcases h with rfl | rfl
 ·exact .inl ⟨rfl,by unfold aM; rw [if_neg (by decide +kernel)]⟩
 ·exact .inr ⟨rfl,by unfold aM; rw [if_pos rfl]⟩
theorem rC {c:Clo} {wy:Str} (h:"col"=wy∨"row"=wy) (bs:List Int):lV wy c.2.1 c.2.2 bs (cC c wy bs).2.1 (cC c wy bs).2.2:=by
 rcases h with rfl | rfl
 ·exact .inl ⟨rfl,by unfold cC; rw [if_pos rfl],by unfold cC; rw [if_pos rfl]⟩
 ·exact .inr ⟨rfl,by unfold cC; rw [if_neg (by decide +kernel)],by unfold cC; rw [if_neg (by decide +kernel)]⟩
theorem nF {c:Clo} {wy:Str} {bs:List Int}:(c.1,(cC c wy bs).2.1,(cC c wy bs).2.2)=cC c wy bs:=by
 unfold cC; split<;>rfl
theorem kK {c:Clo} {wy:Str} {bs:List Int} (h:dX c) (hb:bA bs):bA (cC c wy bs).2.1∧bA (cC c wy bs).2.2:=by
 unfold cC; split
 ·exact ⟨hb,h.2.2⟩
 ·exact ⟨h.2.1,hb⟩
theorem u0 {wy:Str} (h:¬ ("col"=wy∨"row"=wy)):(¬ wy="col")∧¬ wy="row":=⟨fun e=>h (.inl e.symm),fun e=>h (.inr e.symm)⟩
theorem pX {c:Clo} {wy:Str} {k:Int} (h:¬ bV c wy k 0=""):rF wy k c.2.1 c.2.2:=by
 unfold bV at h;by_cases hw:"col"=wy∨"row"=wy
 ·refine .inr ⟨_,nE hw,fun e=>h (by rw [if_pos ⟨hw,e.1,by have:=e.2; omega⟩])⟩
 ·exact .inl (u0 hw)
theorem Aa {bs:List Int} {k:Nat} (h:k<bs.length):(pz k bs).2=lZ bs k:=by
 unfold pz lZ;rw [List.set_eq_take_append_cons_drop,if_pos h,List.append_assoc]; rfl
theorem B6 {bs:List Int} {k:Nat}:(vK k bs).2=bs.eraseIdx k:=by
 unfold vK;rw [List.eraseIdx_eq_take_drop_succ]
theorem Cy {bs:List Int} {k:Nat} {b:Int} (hb:b=0∨b=1) (h:bs.length≤38):nQ k b bs=(("":Str),fF bs k b):=by
 unfold nQ fF;rw [if_pos hb,if_pos h,List.append_assoc]; rfl
theorem xn {as bs:List Int} {n:Int} (h:as.map (fun b=>(b+n)%2)=bs) (j:Nat) (hj:j<as.length):gT as bs n j=false:=by
 subst h;unfold gT;rw [List.getD_eq_getElem?_getD,List.getD_eq_getElem?_getD,List.getElem?_map,List.getElem?_eq_getElem hj];refine decide_eq_false ?_
 show ¬ (as[j]+n+(as[j]+n)%2)%2=1
 omega
theorem zR {as bs:List Int} {n:Int} (hl:as.length=bs.length) (hb:∀ z∈bs,z=0∨z=1) (h:∀ j:Nat,j<as.length→gT as bs n j=false):as.map (fun b=>(b+n)%2)=bs:=by
 refine List.ext_getElem (by rw [List.length_map,hl]) fun j h1 h2=>?_;rw [List.length_map] at h1;rw [List.getElem_map];have hj:=of_decide_eq_false (h j h1);rw [List.getD_eq_getElem?_getD,List.getD_eq_getElem?_getD,List.getElem?_eq_getElem h1,List.getElem?_eq_getElem h2] at hj;have hj:¬ (as[j]+n+bs[j])%2=1:=hj;have:=hb _ (List.getElem_mem h2)
 omega
theorem btw {s s2:Int} {cs rs:List Int}:(fz s cs rs (cs.length:Nat) 0+s2)%2=(s+cs.sum+s2)%2:=by
 unfold fz;rw [Int.toNat_natCast,List.take_length]
 show ((s+(cs.sum+(rs.take 0).sum+(cs.length:Int)*0))%2+s2)%2=_
 rw [List.take_zero,List.sum_nil,Int.mul_zero];omega
theorem rO {s:Int} {cs rs:List Int} {k:Nat}:fz s cs rs ((k:Int)+1) 0=(s+(cs.take (k+1)).sum)%2:=by
 unfold fz;rw [show ((k:Int)+1).toNat=k+1 by omega]
 show (s+((cs.take (k+1)).sum+(rs.take 0).sum+((k:Int)+1)*0))%2=_
 rw [List.take_zero,List.sum_nil,Int.mul_zero]
 congr 1; omega
theorem vE {as bs:List Int} {x:Int} (ha:bA as) (hb:bA bs) (h:as.length+bs.length≤38) (hx:x=0∨x=1):bA (as++x::bs):=by
 refine ⟨by rw [List.length_append,List.length_cons]; omega,fun z hz=>?_⟩;rcases List.mem_append.mp hz with h1 | h1
 ·exact ha.2 z h1
 ·rcases List.mem_cons.mp h1 with h1 | h1
  ·rw [h1]; exact hx
  ·exact hb.2 z h1
theorem pU {bk:Bk} {n:Str} (h:cm n=false):dm bk n="name":=by unfold dm; rw [h,if_neg (by decide)]
theorem pW {bk:Bk} {n:Str} (h:cm n=true) (g:(aO bk n).isSome=true):dm bk n="taken":=by unfold dm; rw [h,if_pos rfl,if_pos g]
theorem pV {bk:Bk} {n:Str} (h:cm n=true) (g:aO bk n=none):dm bk n="":=by unfold dm; rw [h,if_pos rfl,g]; rfl
theorem xD {bs:List Int} (h:bA bs) (k:Nat):bA (bs.eraseIdx k):=⟨Nat.le_trans (List.length_eraseIdx_le ..) h.1,fun z hz=>h.2 z (List.mem_of_mem_eraseIdx hz)⟩
theorem jX {c:Clo}:aM "col" c=c.2.1:=by unfold aM; rw [if_neg (by decide +kernel)]
theorem jY {c:Clo}:aM "row" c=c.2.2:=by unfold aM; rw [if_pos rfl]
theorem j9 {c:Clo}:b7 "col" c=c.2.2:=by unfold b7; rw [if_neg (by decide +kernel)]
theorem kc {c:Clo}:b7 "row" c=c.2.1:=by unfold b7; rw [if_pos rfl]
theorem tN {c:Clo} {bs:List Int}:cC c "col" bs=(c.1,bs,c.2.2):=by unfold cC; rw [if_pos rfl]
theorem tO {c:Clo} {bs:List Int}:cC c "row" bs=(c.1,c.2.1,bs):=by unfold cC; rw [if_neg (by decide +kernel)]
theorem rZ {b:Int} (h:b=0∨b=1):cq b=true:=by rcases h with rfl | rfl<;>rfl
theorem xR {b:Int} (h:¬ (b=0∨b=1)):cq b=false:=by
 cases e:cq b with
 | false=>rfl
 | true=>exact absurd (by unfold cq at e; simp only [Bool.and_eq_true,decide_eq_true_eq] at e; omega) h
theorem uo {bs:List Int} {k:Nat} {b:Int} (h:bA bs) (hl:bs.length≤38) (hb:b=0∨b=1):bA (fF bs k b):=by
 unfold fF;refine ⟨by rw [List.length_append,List.length_cons,List.length_take,List.length_drop]; omega,fun z hz=>?_⟩;rcases List.mem_append.mp hz with h1 | h1
 ·exact h.2 z (List.mem_of_mem_take h1)
 ·rcases List.mem_cons.mp h1 with h1 | h1
  ·rw [h1]; exact hb
  ·exact h.2 z (List.mem_of_mem_drop h1)
theorem vi {BS UF:Addr} {c1 c2:Clo} {wy:Str} {H:Hp} {Q:List Int→Hp→Addr→Prop} {E:XK} (hW:"col"=wy∨"row"=wy) (k1:dX c1) (k2:dX c2)
  (h1:unW c1 c2 wy="size"→∀ H',ai H H'→E (.ref BS) none H') (h2:unW c1 c2 wy="unfit"→∀ d H',ai H H'→E (.ref UF) (some d) H')
  (h3:unW c1 c2 wy=""→∀ x H' bs,ai H H'→cC c1 wy bs=unB c1 c2 wy→bA bs→Q bs H' x):lT BS UF c1.1 (aM wy c1) (b7 wy c1) c2.1 (aM wy c2) (b7 wy c2) H Q E:=by
 have en:=uM c1 c2 wy;rw [if_pos hW] at en;refine ⟨fun nz=>h1 (by rw [en,if_neg fun e=>nz ⟨e.1,by have:=e.2; omega⟩]),fun z j hj b _ d H' s' _=>h2 (by rw [en,if_pos ⟨z.1,by have:=z.2; omega⟩,if_neg fun e=>by rw [xn e j hj] at b; cases b]) d H' s',fun z nb x H' s'=>?_⟩;refine h3 (by rw [en,if_pos ⟨z.1,by have:=z.2; omega⟩,if_pos (show i4 c1 wy _=b7 wy c2 from zR z.1 (fB k2 wy).2 nb)]) x H' _ s' ?_ ?_
 ·unfold unB; rw [btw,List.append_assoc]; rfl
 ·exact vE (b9 k1 wy) (b9 k2 wy) (by have:=z.2; omega) (by omega)
theorem zf {BS UF:Addr} {c1 c2:Clo} {H:Hp} {Q:List Int→Hp→Addr→Prop} {E:XK} (k1:dX c1) (k2:dX c2) (h1:unW c1 c2 "col"="size"→∀ H',ai H H'→E (.ref BS) none H') (h2:unW c1 c2 "col"="unfit"→∀ d H',ai H H'→E (.ref UF) (some d) H')
  (h3:unW c1 c2 "col"=""→∀ x H' bs,ai H H'→(c1.1,bs,c1.2.2)=unB c1 c2 "col"→bA bs→Q bs H' x):lT BS UF c1.1 c1.2.1 c1.2.2 c2.1 c2.2.1 c2.2.2 H Q E:=by
 have h:=vi (wy:="col") (.inl rfl) k1 k2 h1 h2 fun e x H' bs s' z=>h3 e x H' bs s' (by rw [← z,tN]);rw [jX,j9,jX,j9] at h;exact h
theorem zg {BS UF:Addr} {c1 c2:Clo} {H:Hp} {Q:List Int→Hp→Addr→Prop} {E:XK} (k1:dX c1) (k2:dX c2) (h1:unW c1 c2 "row"="size"→∀ H',ai H H'→E (.ref BS) none H') (h2:unW c1 c2 "row"="unfit"→∀ d H',ai H H'→E (.ref UF) (some d) H')
  (h3:unW c1 c2 "row"=""→∀ x H' bs,ai H H'→(c1.1,c1.2.1,bs)=unB c1 c2 "row"→bA bs→Q bs H' x):lT BS UF c1.1 c1.2.2 c1.2.1 c2.1 c2.2.2 c2.2.1 H Q E:=by
 have h:=vi (wy:="row") (.inr rfl) k1 k2 h1 h2 fun e x H' bs s' z=>h3 e x H' bs s' (by rw [← z,tO]);rw [jY,kc,jY,kc] at h;exact h
theorem A2 {c:Clo} {k:Nat}:nW c "col" k=(fz c.1 c.2.1 c.2.2 ((k:Int)+1) 0,c.2.1.drop (k+1),shl c.2.2 ((k:Int)+1)):=by
 unfold nW i4 shl;rw [if_pos rfl,jX,j9,rO]
theorem A3 {c:Clo} {k:Nat}:nW c "row" k=(fz c.1 c.2.2 c.2.1 ((k:Int)+1) 0,shl c.2.1 ((k:Int)+1),c.2.2.drop (k+1)):=by
 unfold nW i4 shl;rw [if_neg (by decide +kernel),jY,kc,rO]
end
section
variable {P:Program} {w:World} {K:W.Frag} {mg:Str→Option Value} {base:Heap} {t:Ad}
theorem vf {K:W.Frag} {S:Addr} {i:Nat} {tb:(L2.St→XK)→TS} {ts:TS} {D:cZ} {σ:L2.St} {H:Hp} (F:(L2.St→XK)→Prop) (h1:F (BO K S i ts D)) (h2:∀ ET,F ET→tb ET D σ H):D8 K S i tb ts D σ H:=h2 _ h1
def Dc (C CH:Addr):Sp:=fun vs H Q _=>∃ (p la lb v:Addr) (past ahead:List Bk) (now:Bk) (dd:Dd),vs=[.ref p,.ref v]∧cg C CH H p la lb past now ahead∧past.length≤900∧now.length≤900∧rD now∧kW H v dd∧xg dd ∧
 ((¬ (bz now dd).1="")→∀ l H',ai H H'→H' l=some (.lst [.str (bz now dd).1])→Q (.ref l) H') ∧
 ((bz now dd).1=""→∀ l lb' H',bN [p,la] H H'→H lb'=none→cg C CH H' p la lb' (past++[now]) (bz now dd).2 []→H' l=some (.lst [])→Q (.ref l) H')
abbrev Sts:=List Bk×Bk×List Bk
def giv (wd:Str) (S:Sts):List Bk:=if wd="redo" then S.2.2 else S.1
def sq (S:Sts):List Bk:=S.1++S.2.1::S.2.2.reverse
def Mv1 (wd:Str) (S S':Sts):Prop:=(wd="undo"∧∃ ps b,S.1=ps++[b]∧S'=(ps,b,S.2.2++[S.2.1]))∨(wd="redo"∧∃ ps b,S.2.2=ps++[b]∧S'=(S.1++[S.2.1],b,ps))
def Mv (wd:Str) (S S':Sts):Prop:=(giv wd S=[]∧S'=S)∨(sq S'=sq S∧(giv wd S).length=(giv wd S').length+1)
theorem gY {S:Sts}:giv "undo" S=S.1:=by unfold giv; rw [if_neg (by decide +kernel)]
theorem gX {S:Sts}:giv "redo" S=S.2.2:=by unfold giv; rw [if_pos rfl]
theorem Mv1.mv {wd:Str} {S S':Sts} (h:Mv1 wd S S'):Mv wd S S':=by
 obtain ⟨a,b,c⟩:=S;rcases h with ⟨rfl,ps,x,e,rfl⟩ | ⟨rfl,ps,x,e,rfl⟩
 ·cases e;refine .inr ⟨by simp [sq],?_⟩;rw [gY,gY]; simp
 ·cases e;refine .inr ⟨by simp [sq],?_⟩;rw [gX,gX]; simp
def Ba (C CH:Addr):Sp:=fun vs H Q _=>∃ (p la lb v:Addr) (S:Sts) (wd:Str),vs=[.ref p,.ref v]∧H v=some (.tup [.str wd])∧(wd="undo"∨wd="redo")∧cg C CH H p la lb S.1 S.2.1 S.2.2∧S.1.length≤900∧S.2.2.length≤900 ∧
 (giv wd S=[]→∀ l H',ai H H'→H' l=some (.lst [.str "left"])→Q (.ref l) H') ∧
 (∀ S',Mv1 wd S S'→∀ l H',bN [p,la,lb] H H'→cg C CH H' p la lb S'.1 S'.2.1 S'.2.2→H' l=some (.lst [])→Q (.ref l) H')
theorem xZ (T:Txt K mg t):aU P w K mg base CX0 12 t.f_Ldo t.d_Ldo ["_law_chest","_law_deed"] (fun vs H Q E=>Dc t.a_ai t.a_ae vs H Q E∨Ba t.a_ai t.a_ae vs H Q E):=by
 refine T.F_Ldo.ok eD (fun vs H Q E h=>?_) (fun cdv A outer s H vs Q E hr h=>?_)
 ·rcases h with ⟨p,la,lb,v,past,ahead,now,dd,rfl,_⟩ | ⟨p,la,lb,v,S,wd,rfl,_⟩<;>rfl
 ·refine aI (aF (i:=2) eD.nd rfl (Or.inl rfl) av) fun _ _=>aI (Cw (i:=4) eD.nd rfl rfl rfl T.mg_a3 (fun _ _=>(aj (aL (aD bJ (ar (aq K rfl) (pv 1) ag (fun _ _=>rfl)) av (aG _)) (aJ (aF (i:=3) eD.nd rfl (Or.inl rfl) (ar (aq K rfl) (pv 1) ag (fun _ _=>rfl))) (aj (aF (i:=2) eD.nd rfl (Or.inl rfl) (ft (pv 0) T.cl_ae T.m_a0 (okx_a0 T) (hr.mono (by first | decide | omega)) T.b_a0 .nil ja (aa (ar (aq K rfl) (pv 1) ag (fun _ _=>rfl)) (aa (yf T.mk_ai (okx_aw T) (hr.mono (by first | decide | omega)) rfl T.mg_ai T.b_aw .nil ja (aa (ar (aq K rfl) (pv 3) ag (fun _ _=>rfl)) (aa (aW (dj K rfl) rfl T.no_list (by rfl) (aa (ar (aq K rfl) (pv 3) ag (fun _ _=>rfl)) af)) (aa (aW (dj K rfl) rfl T.no_list (by rfl) (aa (ar (aq K rfl) (pv 3) ag (fun _ _=>rfl)) af)) af)))) af)))))) (aj (aL (aD bJ (ar (aq K rfl) (pv 1) ag (fun _ _=>rfl)) av (aG _)) (aj (aF (i:=2) eD.nd rfl (Or.inl rfl) (ft (pv 0) T.cl_ae T.m_aJ (okx_aJ T) (hr.mono (by first | decide | omega)) T.b_aJ .nil ja (aa (ar (aq K rfl) (pv 1) ag (fun _ _=>rfl)) af)))) (aj (aL (aD bJ (ar (aq K rfl) (pv 1) ag (fun _ _=>rfl)) av (aG _)) (aj (aF (i:=2) eD.nd rfl (Or.inl rfl) (ft (pv 0) T.cl_ae T.m_aO (okx_aO T) (hr.mono (by first | decide | omega)) T.b_aO .nil ja (aa (ar (aq K rfl) (pv 1) ag (fun _ _=>rfl)) (aa (ar (aq K rfl) (pv 1) ag (fun _ _=>rfl)) (aa (ar (aq K rfl) (pv 1) ag (fun _ _=>rfl)) af)))))) (aj (aL (aD bJ (ar (aq K rfl) (pv 1) ag (fun _ _=>rfl)) av (aG _)) (aj (aF (i:=2) eD.nd rfl (Or.inl rfl) (ft (pv 0) T.cl_ae T.m_a1 (okx_a1 T) (hr.mono (by first | decide | omega)) T.b_a1 .nil ja (aa (ar (aq K rfl) (pv 1) ag (fun _ _=>rfl)) (aa (ar (aq K rfl) (pv 1) ag (fun _ _=>rfl)) (aa (ar (aq K rfl) (pv 1) ag (fun _ _=>rfl)) (aa (ar (aq K rfl) (pv 1) ag (fun _ _=>rfl)) af))))))) (aj (aL (aD bJ (ar (aq K rfl) (pv 1) ag (fun _ _=>rfl)) av (aG _)) (aj (aF (i:=2) eD.nd rfl (Or.inl rfl) (ft (pv 0) T.cl_ae T.m_aZ (okx_aZ T) (hr.mono (by first | decide | omega)) T.b_aZ .nil ja (aa (ar (aq K rfl) (pv 1) ag (fun _ _=>rfl)) (aa (ar (aq K rfl) (pv 1) ag (fun _ _=>rfl)) (aa (ar (aq K rfl) (pv 1) ag (fun _ _=>rfl)) af)))))) (aj (aL (aD bJ (ar (aq K rfl) (pv 1) ag (fun _ _=>rfl)) av (aG _)) (aj (aF (i:=2) eD.nd rfl (Or.inl rfl) (ft (pv 0) T.cl_ae T.m_a2 (okx_a2 T) (hr.mono (by first | decide | omega)) T.b_a2 .nil ja (aa (ar (aq K rfl) (pv 1) ag (fun _ _=>rfl)) (aa (ar (aq K rfl) (pv 1) ag (fun _ _=>rfl)) (aa (ar (aq K rfl) (pv 1) ag (fun _ _=>rfl)) (aa (ar (aq K rfl) (pv 1) ag (fun _ _=>rfl)) af))))))) (aj (aL (aD bJ (ar (aq K rfl) (pv 1) ag (fun _ _=>rfl)) av (aG _)) (aj (aF (i:=2) eD.nd rfl (Or.inl rfl) (ft (pv 0) T.cl_ae T.m_aE (okx_aE T) (hr.mono (by first | decide | omega)) T.b_aE .nil ja (aa (ar (aq K rfl) (pv 1) ag (fun _ _=>rfl)) (aa (ar (aq K rfl) (pv 1) ag (fun _ _=>rfl)) (aa (ar (aq K rfl) (pv 1) ag (fun _ _=>rfl)) (aa (ar (aq K rfl) (pv 1) ag (fun _ _=>rfl)) af))))))) (aj (aL (aD bJ (ar (aq K rfl) (pv 1) ag (fun _ _=>rfl)) av (aG _)) (aj (aF (i:=2) eD.nd rfl (Or.inl rfl) (oZ (pv 0) T.cl_ae T.m_aP (okx_aP T) (hr.mono (by first | decide | omega)) T.b_aP .nil ja))) (aj (aF (i:=2) eD.nd rfl (Or.inl rfl) (oZ (pv 0) T.cl_ae T.m_aN (okx_aN T) (hr.mono (by first | decide | omega)) T.b_aN .nil ja)))))))))))))))))))) (fun _=>(aj (ay (ya (wg T) (fk.mark (fk.mono hr.q (by first | decide | omega))) rfl T.mg_bq T.F_bq.kp T.b_bq .nil (aa (pv 4) af)))))) fun _ _=>aI (aL (aD uh (pv 2) eA (aG _)) (aj (ay (bP af))) aA) fun _ _=>cK (ay (bP (aa av af))) fun _ _=>?_;rcases h with h | h
  ·obtain ⟨p,la,lb,v,past,ahead,now,dd,rfl,hc,hz,hn,bo,hd,ok,z1,D⟩:=h;obtain ⟨dx,fs,d,e1,cl,_⟩:=hc.ob;refine jO fun _ _=>?_;walk_at "rd1";walk_at "rd1";walk_at "rd1";walk_at "rd1";walk_at "rd1";walk_at "rd1";refine jO fun _ _=>?_;walk_at "rd1";refine vf (fun ET=>∀ (a b c d f:Option V) (C:Addr) (xo:Option Addr) (wd:Str) (H1:Hp),ai H H1→lO K t C wd→W.exmOne K (.ref C) (.ref t.a_a3)=some true→(∀ l H',ai H H'→H' l=some (.lst [.str wd])→Q (.ref l) H')→ET [a,b,c,d,f] (.ref C) xo H1) (fun a b c d f C xo wd H1 s1 c8 ct kk=>⟨C,rfl,ct,fun e he=>?_⟩) (fun ET fin=>?_)
   ·left;refine ⟨e,C,xo,wd,rfl,ae,c8,fun l H2 s2 nl el=>?_⟩;left;exact kk l H2 (s1.trans ((ai.new he).trans s2)) el
   have R:∀ wd:Str,(bz now dd).1=wd→(¬ wd="")→∀ l H',ai H H'→H' l=some (.lst [.str wd])→Q (.ref l) H':=fun wd e ne l H' s' el=>z1 (by rw [e]; exact ne) l H' s' (by rw [e]; exact el);left
   cases dd with
   | drop n =>
    change H v=some (.tup _) at hd;refine ak (SqT.of hd) rfl ?_;left;refine bf (by decide +kernel) ?_;left;refine ak (SqT.of hd) rfl ?_;left;refine bO (by decide +kernel) ?_;left;refine aw e1 (cl.no _ (by decide +kernel)) ?_;left;refine ak (SqT.of hd) rfl ?_;left
    cases g:aO now n with
    | none=>exact ⟨p,la,lb,past,ahead,now,n,rfl,hc,by omega,by omega,.inl ⟨g,(fin _ _ _ _ _ _ _ _ _ (ai.refl _) T.c8_NoCloth T.cat_ab (R "cloth" (by simp only [bz]; rw [g]; rfl) (by decide +kernel)))⟩⟩
    | some c =>
     have en:bz now (.drop n)=(("":Str),fN now n):=by simp only [bz]; rw [g]; rfl
     refine ⟨p,la,lb,past,ahead,now,n,rfl,hc,by omega,by omega,.inr ⟨by rw [g]; rfl,?_⟩⟩;intro lb' H5 m5 n5 ch;left;refine ⟨rfl,_,rfl,bO (decide_eq_true rfl) ?_⟩;left;refine ⟨Nat.zero_le _,fun l nl=>?_⟩;exact D (by rw [en]) l lb' _ (m5.new nl) n5 (by rw [en]; exact ch.mono (ai.new nl)) ae
   | turn n wy k =>
    change H v=some (.tup _) at hd;refine ak (SqT.of hd) rfl ?_;left;refine bf (by decide +kernel) ?_;left;refine ak (SqT.of hd) rfl ?_;left;refine bf (by decide +kernel) ?_;left;refine ak (SqT.of hd) rfl ?_;left;refine bO (by decide +kernel) ?_;left;refine aw e1 (cl.no _ (by decide +kernel)) ?_;left;refine ak (SqT.of hd) rfl ?_;left;refine ak (SqT.of hd) rfl ?_;left;refine ak (SqT.of hd) rfl ?_;left
    cases g:aO now n with
    | none=>exact ⟨p,la,lb,past,ahead,now,n,wy,k,rfl,hc,by omega,by omega,.inl ⟨g,(fin _ _ _ _ _ _ _ _ _ (ai.refl _) T.c8_NoCloth T.cat_ab (R "cloth" (by simp only [bz,eL]; rw [g]) (by decide +kernel)))⟩⟩
    | some c =>
     have ck:=bo.get g;by_cases hw:bV c wy k 0=""
     rotate_left
     ·exact ⟨p,la,lb,past,ahead,now,n,wy,k,rfl,hc,by omega,by omega,.inr ⟨c.1,c.2.1,c.2.2,g,.inl ⟨pX hw,(fin _ _ _ _ _ _ _ _ _ (ai.refl _) T.c8_NoLine T.cat_af (R "line" (by simp only [bz,eL,fy]; rw [g]; simp only [hw,if_false]) (by decide +kernel)))⟩⟩⟩
     obtain ⟨hW,h0,h1⟩:=fe hw;obtain ⟨j,rfl⟩:∃ j:Nat,k=(j:Int):=⟨k.toNat,by omega⟩
     have en:bz now (.turn n wy (j:Int))=(("":Str),bW now n (cC c wy (lZ (aM wy c) j))):=by simp only [bz,eL,fy]; rw [g]; simp only [hw,if_true,Int.toNat_natCast]; rw [Aa (by omega)]; rfl
     have bb:=b9 ck wy;have b2:=kK (wy:=wy) ck (show bA (lZ (aM wy c) j) from oS bb (by omega));refine ⟨p,la,lb,past,ahead,now,n,wy,_,rfl,hc,by omega,by omega,.inr ⟨c.1,c.2.1,c.2.2,g,.inr ⟨_,_,_,nE hW,h0,by omega,by rw [Int.toNat_natCast]; exact rC hW _,b2.1,b2.2,?_⟩⟩⟩;rw [nF];intro lb' H5 m5 n5 ch;left;refine ⟨rfl,_,rfl,bO (decide_eq_true rfl) ?_⟩;left;refine ⟨Nat.zero_le _,fun l nl=>?_⟩;exact D (by rw [en]) l lb' _ (m5.new nl) n5 (by rw [en]; exact ch.mono (ai.new nl)) ae
   | cut n wy k =>
    change H v=some (.tup _) at hd;refine ak (SqT.of hd) rfl ?_;left;refine bf (by decide +kernel) ?_;left;refine ak (SqT.of hd) rfl ?_;left;refine bf (by decide +kernel) ?_;left;refine ak (SqT.of hd) rfl ?_;left;refine bf (by decide +kernel) ?_;left;refine ak (SqT.of hd) rfl ?_;left;refine bf (by decide +kernel) ?_;left;refine ak (SqT.of hd) rfl ?_;left;refine bO (by decide +kernel) ?_;left;refine aw e1 (cl.no _ (by decide +kernel)) ?_;left;refine ak (SqT.of hd) rfl ?_;left;refine ak (SqT.of hd) rfl ?_;left;refine ak (SqT.of hd) rfl ?_;left
    cases g:aO now n with
    | none=>exact ⟨p,la,lb,past,ahead,now,n,wy,k,rfl,hc,by omega,by omega,.inl ⟨g,(fin _ _ _ _ _ _ _ _ _ (ai.refl _) T.c8_NoCloth T.cat_ab (R "cloth" (by simp only [bz,eL]; rw [g]) (by decide +kernel)))⟩⟩
    | some c =>
     have ck:=bo.get g;by_cases hw:bV c wy k 0=""
     rotate_left
     ·exact ⟨p,la,lb,past,ahead,now,n,wy,k,rfl,hc,by omega,by omega,.inr ⟨c.1,c.2.1,c.2.2,g,.inl ⟨pX hw,(fin _ _ _ _ _ _ _ _ _ (ai.refl _) T.c8_NoLine T.cat_af (R "line" (by simp only [bz,eL,fy]; rw [g]; simp only [hw,if_false]) (by decide +kernel)))⟩⟩⟩
     obtain ⟨hW,h0,h1⟩:=fe hw;obtain ⟨j,rfl⟩:∃ j:Nat,k=(j:Int):=⟨k.toNat,by omega⟩
     have en:bz now (.cut n wy (j:Int))=(("":Str),bW now n (cC c wy ((aM wy c).eraseIdx j))):=by simp only [bz,eL,fy]; rw [g]; simp only [hw,if_true,Int.toNat_natCast]; rw [B6]; rfl
     have bb:=b9 ck wy;have b2:=kK (wy:=wy) ck (show bA ((aM wy c).eraseIdx j) from xD bb j);refine ⟨p,la,lb,past,ahead,now,n,wy,_,rfl,hc,by omega,by omega,.inr ⟨c.1,c.2.1,c.2.2,g,.inr ⟨_,_,_,nE hW,h0,by omega,by rw [Int.toNat_natCast]; exact rC hW _,b2.1,b2.2,?_⟩⟩⟩;rw [nF];intro lb' H5 m5 n5 ch;left;refine ⟨rfl,_,rfl,bO (decide_eq_true rfl) ?_⟩;left;refine ⟨Nat.zero_le _,fun l nl=>?_⟩;exact D (by rw [en]) l lb' _ (m5.new nl) n5 (by rw [en]; exact ch.mono (ai.new nl)) ae
   | put n wy k b =>
    change H v=some (.tup _) at hd;refine ak (SqT.of hd) rfl ?_;left;refine bf (by decide +kernel) ?_;left;refine ak (SqT.of hd) rfl ?_;left;refine bf (by decide +kernel) ?_;left;refine ak (SqT.of hd) rfl ?_;left;refine bf (by decide +kernel) ?_;left;refine ak (SqT.of hd) rfl ?_;left;refine bO (by decide +kernel) ?_;left;refine aw e1 (cl.no _ (by decide +kernel)) ?_;left;refine ak (SqT.of hd) rfl ?_;left;refine ak (SqT.of hd) rfl ?_;left;refine ak (SqT.of hd) rfl ?_;left;refine ak (SqT.of hd) rfl ?_;left
    cases g:aO now n with
    | none=>exact ⟨p,la,lb,past,ahead,now,n,wy,k,b,rfl,hc,by omega,by omega,.inl ⟨g,(fin _ _ _ _ _ _ _ _ _ (ai.refl _) T.c8_NoCloth T.cat_ab (R "cloth" (by simp only [bz,eL]; rw [g]) (by decide +kernel)))⟩⟩
    | some c =>
     have ck:=bo.get g;have bb:=b9 ck wy;have en0:bz now (.put n wy k b)=((fy c wy k 1 (nQ k.toNat b)).1,bW now n (fy c wy k 1 (nQ k.toNat b)).2):=by simp only [bz,eL]; rw [g]
     refine ⟨p,la,lb,past,ahead,now,n,wy,k,b,rfl,hc,by omega,by omega,.inr ⟨c.1,c.2.1,c.2.2,g,?_⟩⟩;unfold fy at en0;by_cases hW:"col"=wy∨"row"=wy
     rotate_left
     ·rw [if_neg fun e=>hW (fe e).1] at en0;exact .inl ⟨u0 hW,(fin _ _ _ _ _ _ _ _ _ (ai.refl _) T.c8_NoLine T.cat_af (R "line" (by rw [en0]) (by decide +kernel)))⟩
     refine .inr ⟨_,nE hW,?_⟩;by_cases hw:bV c wy k 1=""
     rotate_left
     ·rw [if_neg hw] at en0;exact .inl ⟨fun e=>hw (by unfold bV; rw [if_pos ⟨hW,e.1,e.2⟩]),(fun H1 s1=>(fin _ _ _ _ _ _ _ _ _ s1 T.c8_NoLine T.cat_af (R "line" (by rw [en0]) (by decide +kernel))))⟩
     rw [if_pos hw] at en0;obtain ⟨_,h0,h1⟩:=fe hw;by_cases hb:b=0∨b=1
     rotate_left
     ·unfold nQ at en0;rw [if_neg hb] at en0;exact .inr (.inl ⟨⟨h0,h1⟩,xR hb,(fun H1 s1=>(fin _ _ _ _ _ _ _ _ _ s1 T.c8_BadBit T.cat_ah (R "bit" (by rw [en0]) (by decide +kernel))))⟩)
     by_cases hn:(aM wy c).length≤38
     rotate_left
     ·unfold nQ at en0;rw [if_pos hb,if_neg hn] at en0;exact .inr (.inr (.inl ⟨⟨h0,h1⟩,rZ hb,by have:=bb.1; omega,(fun H1 s1=>(fin _ _ _ _ _ _ _ _ _ s1 T.c8_BadSize T.cat_ac (R "size" (by rw [en0]) (by decide +kernel))))⟩))
     rw [Cy hb hn] at en0;have b2:=kK (wy:=wy) ck (uo (k:=k.toNat) bb hn hb);refine .inr (.inr (.inr ⟨⟨h0,h1⟩,rZ hb,by omega,_,_,rC hW _,b2.1,b2.2,?_⟩));rw [nF];intro lb' H5 m5 n5 ch;left;refine ⟨rfl,_,rfl,bO (decide_eq_true rfl) ?_⟩;left;refine ⟨Nat.zero_le _,fun l nl=>?_⟩;exact D (by rw [en0]) l lb' _ (m5.new nl) n5 (by rw [en0]; exact ch.mono (ai.new nl)) ae
   | sew n o1 o2 wy =>
    change H v=some (.tup _) at hd;refine ak (SqT.of hd) rfl ?_;left;refine bf (by decide +kernel) ?_;left;refine ak (SqT.of hd) rfl ?_;left;refine bf (by decide +kernel) ?_;left;refine ak (SqT.of hd) rfl ?_;left;refine bf (by decide +kernel) ?_;left;refine ak (SqT.of hd) rfl ?_;left;refine bf (by decide +kernel) ?_;left;refine ak (SqT.of hd) rfl ?_;left;refine bf (by decide +kernel) ?_;left;refine ak (SqT.of hd) rfl ?_;left;refine bO (by decide +kernel) ?_;left;refine aw e1 (cl.no _ (by decide +kernel)) ?_;left;refine ak (SqT.of hd) rfl ?_;left;refine ak (SqT.of hd) rfl ?_;left;refine ak (SqT.of hd) rfl ?_;left;refine ak (SqT.of hd) rfl ?_;left;refine ⟨p,la,lb,past,ahead,now,n,o1,o2,wy,rfl,ok.1,hc,by omega,by omega,fun a=>(fun H1 s1=>(fin _ _ _ _ _ _ _ _ _ s1 T.c8_BadName T.cat_ad (R "name" (by simp only [bz]; rw [pU a,if_neg (by decide +kernel)]) (by decide +kernel)))),fun a g=>(fun H1 s1=>(fin _ _ _ _ _ _ _ _ _ s1 T.c8_Taken T.cat_ak (R "taken" (by simp only [bz]; rw [pW a g,if_neg (by decide +kernel)]) (by decide +kernel)))),fun a g=>?_⟩;have nw:=pV a g;refine ⟨fun g1=>(fun H1 s1=>(fin _ _ _ _ _ _ _ _ _ s1 T.c8_NoCloth T.cat_ab (R "cloth" (by simp only [bz]; rw [nw,if_pos rfl,g1]) (by decide +kernel)))),fun c1 g1 g2=>(fun H1 s1=>(fin _ _ _ _ _ _ _ _ _ s1 T.c8_NoCloth T.cat_ab (R "cloth" (by simp only [bz]; rw [nw,if_pos rfl,g1,g2]) (by decide +kernel)))),fun c1 c2 g1 g2=>?_⟩;have en:bz now (.sew n o1 o2 wy)=(unW c1 c2 wy,bW now n (unB c1 c2 wy)):=by simp only [bz]; rw [nw,if_pos rfl,g1,g2]
    have k1:=bo.get g1;have k2:=bo.get g2;refine ⟨fun h=>?_,fun h=>?_,fun h1 h2=>(fun H1 s1=>(fin _ _ _ _ _ _ _ _ _ s1 T.c8_NoLine T.cat_af (R "line" (by rw [en,uM,if_neg fun e=>e.elim (fun e=>h1 e.symm) fun e=>h2 e.symm]) (by decide +kernel))))⟩
    ·subst h;refine zf k1 k2 (fun e=>(fun H1 s1=>(fin _ _ _ _ _ _ _ _ _ s1 T.c8_BadSize T.cat_ac (R "size" (by rw [en,e]) (by decide +kernel))))) (fun e d H1 s1=>(fin _ _ _ _ _ _ _ _ _ s1 T.c8_Unfit T.cat_ag (R "unfit" (by rw [en,e]) (by decide +kernel)))) (fun e x H' bs s' eb bb=>⟨bb,?_⟩);rw [eb];intro lb' H5 m5 n5 ch;left;refine ⟨rfl,_,rfl,bO (decide_eq_true rfl) ?_⟩;left;refine ⟨Nat.zero_le _,fun l nl=>?_⟩;exact D (by rw [en]; exact e) l lb' _ (m5.new nl) n5 (by rw [en]; exact ch.mono (ai.new nl)) ae
    ·subst h;refine zg k1 k2 (fun e=>(fun H1 s1=>(fin _ _ _ _ _ _ _ _ _ s1 T.c8_BadSize T.cat_ac (R "size" (by rw [en,e]) (by decide +kernel))))) (fun e d H1 s1=>(fin _ _ _ _ _ _ _ _ _ s1 T.c8_Unfit T.cat_ag (R "unfit" (by rw [en,e]) (by decide +kernel)))) (fun e x H' bs s' eb bb=>⟨bb,?_⟩);rw [eb];intro lb' H5 m5 n5 ch;left;refine ⟨rfl,_,rfl,bO (decide_eq_true rfl) ?_⟩;left;refine ⟨Nat.zero_le _,fun l nl=>?_⟩;exact D (by rw [en]; exact e) l lb' _ (m5.new nl) n5 (by rw [en]; exact ch.mono (ai.new nl)) ae
   | part n wy k o =>
    change H v=some (.tup _) at hd;refine ak (SqT.of hd) rfl ?_;left;refine bf (by decide +kernel) ?_;left;refine ak (SqT.of hd) rfl ?_;left;refine bf (by decide +kernel) ?_;left;refine ak (SqT.of hd) rfl ?_;left;refine bf (by decide +kernel) ?_;left;refine ak (SqT.of hd) rfl ?_;left;refine bf (by decide +kernel) ?_;left;refine ak (SqT.of hd) rfl ?_;left;refine bf (by decide +kernel) ?_;left;refine ak (SqT.of hd) rfl ?_;left;refine bf (by decide +kernel) ?_;left;refine ak (SqT.of hd) rfl ?_;left;refine bO (by decide +kernel) ?_;left;refine aw e1 (cl.no _ (by decide +kernel)) ?_;left;refine ak (SqT.of hd) rfl ?_;left;refine ak (SqT.of hd) rfl ?_;left;refine ak (SqT.of hd) rfl ?_;left;refine ak (SqT.of hd) rfl ?_;left;refine ⟨p,la,lb,past,ahead,now,n,wy,k,o,rfl,ok.2,hc,by omega,by omega,?_⟩
    cases g:aO now n with
    | none=>exact .inl ⟨rfl,(fin _ _ _ _ _ _ _ _ _ (ai.refl _) T.c8_NoCloth T.cat_ab (R "cloth" (by simp only [bz]; rw [g]) (by decide +kernel)))⟩
    | some c =>
     refine .inr ⟨c,rfl,?_⟩;have en0:bz now (.part n wy k o)=if dm now o="" then (if bV c wy k 0="" then (("":Str),bW (bW now n (cC c wy ((aM wy c).take k.toNat))) o (nW c wy k.toNat)) else (("line":Str),now)) else (dm now o,now):=by simp only [bz]; rw [g]
     cases hn:cm o with
     | false =>
      rw [pU hn,if_neg (by decide +kernel)] at en0;exact .inl ⟨rfl,(fun H1 s1=>(fin _ _ _ _ _ _ _ _ _ s1 T.c8_BadName T.cat_ad (R "name" (by rw [en0]) (by decide +kernel))))⟩
     | true =>
      cases go:aO now o with
      | some c' =>
       rw [pW hn (by rw [go]; rfl),if_neg (by decide +kernel)] at en0;exact .inr (.inl ⟨rfl,rfl,(fun H1 s1=>(fin _ _ _ _ _ _ _ _ _ s1 T.c8_Taken T.cat_ak (R "taken" (by rw [en0]) (by decide +kernel))))⟩)
      | none =>
       rw [pV hn go,if_pos rfl] at en0;by_cases hw:bV c wy k 0=""
       rotate_left
       ·rw [if_neg hw] at en0;exact .inr (.inr (.inl ⟨rfl,rfl,pX hw,(fun H1 s1=>(fin _ _ _ _ _ _ _ _ _ s1 T.c8_NoLine T.cat_af (R "line" (by rw [en0]) (by decide +kernel))))⟩))
       rw [if_pos hw] at en0;obtain ⟨hW,h0,h1⟩:=fe hw;refine .inr (.inr (.inr ⟨rfl,rfl,_,nE hW,h0,by omega,cC c wy ((aM wy c).take k.toNat),nW c wy k.toNat,?_,?_⟩))
       ·obtain ⟨j,rfl⟩:∃ j:Nat,k=(j:Int):=⟨k.toNat,by omega⟩
        rcases hW with rfl | rfl
        ·exact .inl ⟨rfl,by rw [tN,jX],by rw [Int.toNat_natCast,A2]⟩
        ·exact .inr ⟨rfl,by rw [tO,jY],by rw [Int.toNat_natCast,A3]⟩
       intro lb' H5 m5 n5 ch;left;refine ⟨rfl,_,rfl,bO (decide_eq_true rfl) ?_⟩;left;refine ⟨Nat.zero_le _,fun l nl=>?_⟩;exact D (by rw [en0]) l lb' _ (m5.new nl) n5 (by rw [en0]; exact ch.mono (ai.new nl)) ae
   | lay n c =>
    obtain ⟨q,hd,a,b,hq,ha,hb⟩:=hd;refine ak (SqT.of hd) rfl ?_;left;refine bO (by decide +kernel) ?_;left;refine ak (SqT.of hd) rfl ?_;left;refine aw e1 (cl.no _ (by decide +kernel)) ?_;left;refine ak (SqT.of hd) rfl ?_;left;refine ak (SqT.of hq) rfl ?_;left;refine ak (SqT.of hq) rfl ?_;left;refine ig ha fun l1 n1=>?_;have s1:=ai.new (o:=HO.lst (c.2.1.map V.int)) n1;have q1:=ae (H:=H) (a:=l1) (o:=HO.lst (c.2.1.map V.int));generalize upd H l1 (HO.lst (c.2.1.map V.int))=H1 at s1 q1 ⊢;left;refine ak (SqT.of (s1 _ _ hq)) rfl ?_;left;refine ig (s1 _ _ hb) fun l2 n2=>?_;have s2:=ai.new (o:=HO.lst (c.2.2.map V.int)) n2;have q2:=ae (H:=H1) (a:=l2) (o:=HO.lst (c.2.2.map V.int));generalize upd H1 l2 (HO.lst (c.2.2.map V.int))=H2 at s2 q2 ⊢;have s12:=s1.trans s2;left;intro x dxx nx ndx nex;have sM:ai H2 (upd (upd H2 dxx (.own x)) x (.ins t.a_ai dxx [])):=(ai.new ndx).later nx;obtain ⟨hsz,sh,bc,br⟩:=ok;have lc:=bc.1;have lr:=br.1;have sb:cq c.1=true:=by rcases sh with e | e<;>rw [e]<;>rfl
    refine ⟨x,dxx,l1,l2,c.1,c.2.1,c.2.2,rfl,ae,sM _ _ (s2 _ _ q1),sM _ _ q2,by omega,by omega,.inr (.inr ⟨⟨lc,lr⟩,by unfold dZ; rw [sb,bc.all,br.all]; rfl,fun H4 kp hC=>⟨rfl,?_⟩⟩)⟩;have s4:=s12.trans (iS (c:=0) (r:=0) nx ndx kp);left;refine ⟨p,la,lb,past,ahead,now,n,.ref x,c,rfl,hsz,hc.mono s4,by omega,by omega,⟨x,rfl,hC,sh,bc,br⟩,?_⟩;refine ⟨fun g=>(fun H1 s1=>(fin _ _ _ _ _ _ _ _ _ (s4.trans s1) T.c8_BadName T.cat_ad (R "name" (pU g) (by decide +kernel)))),fun g g2=>(fun H1 s1=>(fin _ _ _ _ _ _ _ _ _ (s4.trans s1) T.c8_Taken T.cat_ak (R "taken" (pW g g2) (by decide +kernel)))),fun g g2=>?_⟩;have en:bz now (.lay n c)=(dm now n,bW now n c):=rfl;have nw:=pV g g2;intro lb' H5 m5 n5 ch;left;refine ⟨rfl,_,rfl,bO (decide_eq_true rfl) ?_⟩;left;refine ⟨Nat.zero_le _,fun l nl=>?_⟩;exact D nw l lb' _ (((s4.butL _).trans m5).new nl) (s4.free n5) (ch.mono (ai.new nl)) ae
  ·obtain ⟨p,la,lb,v,S,wd,rfl,hd,hw,hc,h1,h2,z1,z2⟩:=h;obtain ⟨dx,fs,d,e1,cl,_⟩:=hc.ob;refine jO fun _ _=>?_;walk_at "rd1";walk_at "rd1";walk_at "rd1";walk_at "rd1";walk_at "rd1";walk_at "rd1";refine jO fun _ _=>?_;walk_at "rd1";refine vf (fun ET=>∀ (a b c d f:Option V) (C:Addr) (xo:Option Addr) (wd:Str) (H1:Hp),ai H H1→lO K t C wd→W.exmOne K (.ref C) (.ref t.a_a3)=some true→(∀ l H',ai H H'→H' l=some (.lst [.str wd])→Q (.ref l) H')→ET [a,b,c,d,f] (.ref C) xo H1) (fun a b c d f C xo wd H1 s1 c8 ct kk=>⟨C,rfl,ct,fun e he=>?_⟩) (fun ET fin=>?_)
   ·left;refine ⟨e,C,xo,wd,rfl,ae,c8,fun l H2 s2 nl el=>?_⟩;left;exact kk l H2 (s1.trans ((ai.new he).trans s2)) el
   left;rcases hw with hw | hw
   ·subst hw;refine ak (SqT.of hd) rfl ?_;left;refine bf (by decide +kernel) ?_;left;refine ak (SqT.of hd) rfl ?_;left;refine bf (by decide +kernel) ?_;left;refine ak (SqT.of hd) rfl ?_;left;refine bf (by decide +kernel) ?_;left;refine ak (SqT.of hd) rfl ?_;left;refine bf (by decide +kernel) ?_;left;refine ak (SqT.of hd) rfl ?_;left;refine bf (by decide +kernel) ?_;left;refine ak (SqT.of hd) rfl ?_;left;refine bf (by decide +kernel) ?_;left;refine ak (SqT.of hd) rfl ?_;left;refine bf (by decide +kernel) ?_;left;refine ak (SqT.of hd) rfl ?_;left;refine bO (by decide +kernel) ?_;left;refine aw e1 (cl.no _ (by decide +kernel)) ?_;left;refine ⟨p,la,lb,S.1,S.2.2,S.2.1,rfl,hc,by omega,?_⟩;rcases List.eq_nil_or_concat (S.1) with z | ⟨ps,b,z⟩
    ·exact .inl ⟨z,fin _ _ _ _ _ _ _ _ _ (ai.refl _) T.c8_NothingLeft T.cat_aa (z1 (by rw [gY]; exact z))⟩
    ·rw [List.concat_eq_append] at z;refine .inr ⟨ps,b,z,fun H1 m1 ch=>?_⟩;left;refine ⟨rfl,_,rfl,bO (decide_eq_true rfl) ?_⟩;left;refine ⟨Nat.zero_le _,fun l nl=>?_⟩;exact z2 _ (.inl ⟨rfl,ps,b,z,rfl⟩) l _ (m1.new nl) (ch.mono (ai.new nl)) ae
   ·subst hw;refine ak (SqT.of hd) rfl ?_;left;refine bf (by decide +kernel) ?_;left;refine ak (SqT.of hd) rfl ?_;left;refine bf (by decide +kernel) ?_;left;refine ak (SqT.of hd) rfl ?_;left;refine bf (by decide +kernel) ?_;left;refine ak (SqT.of hd) rfl ?_;left;refine bf (by decide +kernel) ?_;left;refine ak (SqT.of hd) rfl ?_;left;refine bf (by decide +kernel) ?_;left;refine ak (SqT.of hd) rfl ?_;left;refine bf (by decide +kernel) ?_;left;refine ak (SqT.of hd) rfl ?_;left;refine bf (by decide +kernel) ?_;left;refine ak (SqT.of hd) rfl ?_;left;refine bf (by decide +kernel) ?_;left;refine aw e1 (cl.no _ (by decide +kernel)) ?_;left;refine ⟨p,la,lb,S.1,S.2.2,S.2.1,rfl,hc,by omega,?_⟩;rcases List.eq_nil_or_concat (S.2.2) with z | ⟨ps,b,z⟩
    ·exact .inl ⟨z,fin _ _ _ _ _ _ _ _ _ (ai.refl _) T.c8_NothingLeft T.cat_aa (z1 (by rw [gX]; exact z))⟩
    ·rw [List.concat_eq_append] at z;refine .inr ⟨ps,b,z,fun H1 m1 ch=>?_⟩;left;refine ⟨rfl,_,rfl,bO (decide_eq_true rfl) ?_⟩;left;refine ⟨Nat.zero_le _,fun l nl=>?_⟩;exact z2 _ (.inr ⟨rfl,ps,b,z,rfl⟩) l _ (m1.new nl) (ch.mono (ai.new nl)) ae
theorem uW {X:Cx} (K:W.Frag) (h:X.K=K):IxR X DH:=B9
theorem tu {X:Cx} (K:W.Frag) (h:X.K=K):SlR X DL:=A8
structure Wd (x:Str):Prop where
 sz:0<x.cps.size∧x.cps.size≤12
 lt:∀ c∈x.cps.toList,97≤c∧c≤122
theorem Wd.str {x:Str} (h:Wd x):PyData.strOk x=true:=by
 unfold PyData.strOk;rw [Array.all_eq_true_iff_forall_mem];intro c hc;have:=h.lt c (Array.mem_toList_iff.mpr hc)
 exact decide_eq_true (by omega)
def cc (n:Nat):Nat:=97+n%26
theorem Dq {n:Nat}:((("abcdefghijklmnopqrstuvwxyz":Str)).cps.toList)[n%26]?=some (cc n):=by
 have:∀ m,m<26→((("abcdefghijklmnopqrstuvwxyz":Str)).cps.toList)[m]?=some (97+m):=by decide +kernel
 exact this _ (Nat.mod_lt _ (by decide))
theorem xy (u:Int):atI (("abcdefghijklmnopqrstuvwxyz":Str)).cps.toList (u%26)=some (cc (u%26).toNat):=by
 obtain ⟨m,hm⟩:∃ m:Nat,u%26=(m:Int):=⟨(u%26).toNat,by omega⟩
 have hl:m<26:=by omega
 rw [hm,Int.toNat_natCast];have h:=Dq (n:=m);rw [Nat.mod_eq_of_lt hl] at h;exact bY h
theorem fu {H:Hp} {l:Addr} {ns:List Str} (e:H l=some (.lst (ns.map V.str))):Rep H (.list (ns.map PyData.str)) (.ref l):=by
 simp only [Rep];refine ⟨l,_,rfl,e,?_⟩;clear e
 induction ns with
 | nil=>simp [RepL]
 | cons a r ih=>simp only [List.map_cons,RepL]; exact ⟨_,_,rfl,rfl,ih⟩
theorem r9 {ns:List Str} (h:∀ x∈ns,PyData.strOk x=true):PyData.canLayAll0 (ns.map PyData.str)=true:=by
 induction ns with
 | nil=>rfl
 | cons a r ih =>
  simp only [List.map_cons,PyData.canLayAll0,PyData.canLay0];rw [h a List.mem_cons_self,ih fun x hx=>h x (List.mem_cons_of_mem _ hx)]; rfl
theorem A4 {l:List Nat} {p c:Nat} (h:p<l.length):l.take p++[c]++l.drop (p+1)=l.set p c:=by
 rw [List.set_eq_take_append_cons_drop,if_pos h,List.append_assoc]; rfl
theorem zt {fl:List Str} {x:Str}:((fl.map PyData.str).any fun y=>PyData.eqv y (.str x))=decide (x∈fl):=by
 induction fl with
 | nil=>rfl
 | cons a r ih =>
  rw [List.map_cons,List.any_cons,ih];have:PyData.eqv (.str a) (.str x)=decide (a=x):=rfl
  rw [this];by_cases h:a=x
  ·subst h; simp
  ·have h2:¬ x=a:=fun z=>h z.symm;simp [h,h2]
def sp_a7:Sp:=fun vs H Q _=>∃ (q:Addr) (xs:List Int) (mm:Nat),vs=[.ref q,.int (mm:Nat)]∧H q=some (.lst (xs.map V.int))∧mm≤xs.length∧mm≤100∧∀ (l:Addr) (fl:List Str) H',ai H H'→H' l=some (.lst (fl.map V.str))→fl.length=mm→(∀ x∈fl,Wd x)→Q (.ref l) H'
theorem ok_a7 (T:Txt K mg t):aU P w K mg base CX0 1 t.f_a7 t.d_a7 ["_law_some","_law_many"] sp_a7:=by
 refine T.F_a7.ok sc_a7 (fun vs H Q E h=>?_) (fun cdv A outer s H vs Q E hr h=>?_)
 ·obtain ⟨q,xs,mm,rfl,_⟩:=h; rfl
 ·obtain ⟨q,xs,mm,rfl,hq,hl,hm,k⟩:=h;refine aI (aF (i:=2) sc_a7.nd rfl (Or.inr rfl) av) fun _ _=>aI (aF (i:=3) sc_a7.nd rfl (Or.inl rfl) (bP af)) fun _ _=>aI (eQ PassesOwn.never rfl (eB rfl T.no_br (aa (pv 1) af)) (bC (i:=4) sc_a7.nd rfl (Or.inl rfl)) (aJ (aF (i:=5) sc_a7.nd rfl (Or.inl rfl) (ax xr rfl T.no_abs (by rfl) (aa (ar (aH K rfl) (pv 0) (pv 4) (fun _ _=>rfl)) af))) (aJ (aF (i:=6) sc_a7.nd rfl (Or.inl rfl) (aB aZ ag (aB bh (pv 5) ag))) (aJ (aF (i:=7) sc_a7.nd rfl (Or.inr rfl) (aB gF (pv 5) ag)) (aJ (aF (i:=8) sc_a7.nd rfl (Or.inr rfl) (aB bh (aB gF (pv 5) ag) ag)) (aJ (aF (i:=9) sc_a7.nd rfl (Or.inl rfl) (gR PySem.F.plainAttrs_str PySem.F.slot_str_join PySem.F.type_str_join Al av (aa (fE (N:=["_law_k","_law_letters","_law_first","_law_by"]) (cap:=[none,some 2,some 7,some 8]) rfl ⟨rfl,rfl,rfl,rfl,rfl,rfl⟩ (eB rfl T.no_br (aa (pv 6) af)) (fun _ _ _=>(bC (i:=0) (show (["_law_k","_law_letters","_law_first","_law_by"]:List Str).Nodup by decide +kernel) rfl (Or.inl rfl))) (fun _ _ _=>dQ) (fun _ _ _=>(ar (uW K rfl) (pv 1) (aB bh (aB aZ (pv 2) (aB gG (pv 0) (pv 3))) ag) (fun _ _=>rfl)))) af))) (aJ (aF (i:=10) sc_a7.nd rfl (Or.inl rfl) (aB bh (aB gF (pv 5) ag) (pv 6))) (aJ (eQ PassesOwn.never rfl (eB rfl T.no_br (aa ag af)) (bC (i:=11) sc_a7.nd rfl (Or.inl rfl)) (aj (aL (aD (Ck hr.units) (pv 9) (pv 3) rfl) (aJ (aF (i:=12) sc_a7.nd rfl (Or.inl rfl) (ar (uW K rfl) (pv 2) (aB bh (aB aZ (pv 5) (pv 11)) ag) (fun _ _=>rfl))) (aj (aF (i:=9) sc_a7.nd rfl (Or.inl rfl) (aB mE (aB mE (bQ (tu K rfl) (pv 9) cj (bZ (pv 10))) (pv 12)) (bQ (tu K rfl) (pv 9) (bZ (aB aZ (pv 10) ag)) cj))))) aA))) (aj (aY (gR PySem.F.plainAttrs_list PySem.F.slot_list_append PySem.F.type_list_append bT (pv 3) (aa (pv 9) af)))))))))))) fun _ _=>cK (ay (pv 3)) fun _ _=>?_;left;refine ⟨Nat.zero_le _,fun l nl=>?_⟩;left;refine ⟨mm,rfl,by omega,by omega,?_⟩;rw [Int.toNat_natCast];refine d9 (n:=mm) (fun i σ' H'=>∃ (fl:List Str) (a4 a5 a6 a7 a8 a9 b0 b1 b2:Option V),σ'=[some (.ref q),some (.int (mm:Nat)),some (.str "abcdefghijklmnopqrstuvwxyz"),some (.ref l),a4,a5,a6,a7,a8,a9,b0,b1,b2]∧ai H H'∧H' l=some (.lst (fl.map V.str))∧fl.length=i∧∀ x∈fl,Wd x)
   ⟨[],none,none,none,none,none,none,none,none,none,rfl,ai.new nl,ae,rfl,fun x hx=>by cases hx⟩ ?_ ?_
  ·rintro i σ' H1 hi ⟨fl,a4,a5,a6,a7,a8,a9,b0,b1,b2,rfl,s1,e1,lf,hw⟩;left;refine aQ (SqL.of (s1 _ _ hq)) (cw (by omega) (by omega)) ?_;generalize xs.getD ((0:Int)+(i:Nat)).toNat 0=z;left;obtain ⟨r,hr0⟩:∃ r:Nat,(if z<0 then -z else z)=(r:Int):=⟨z.natAbs,by split<;>omega⟩
   rw [hr0];refine bR (by decide) ?_;left;obtain ⟨sz,hsz,h1,h2⟩:∃ sz:Nat,(1+(r:Int)%12)=(sz:Int)∧0<sz∧sz≤12:=⟨1+r%12,by omega,by omega,by omega⟩
   rw [hsz];refine bR ⟨by decide,by decide⟩ ?_;left;refine bR ⟨by decide,by decide⟩ ?_;left;refine bR (by decide) ?_;generalize (r:Int) / 13=f;generalize (r:Int) / 5%4=g;left;refine ⟨rfl,?_⟩;left;refine ⟨sz,rfl,by omega,by omega,fun l2 n2=>?_⟩;rw [Int.toNat_natCast];have hle:(("abcdefghijklmnopqrstuvwxyz":Str)).length≤sizeLine:=by decide +kernel
   refine rQ (fun j=>.str (sgn (cc ((f+((0:Int)+(j:Nat))*g)%26).toNat))) (by omega) n2 (fun j o H' Q' hj s2 qq=>?_) (fun H2 s2 e2=>?_)
   ·left;refine bR (.inl ⟨by omega,by omega⟩) ?_;left;refine bR (by decide) ?_;left;exact ⟨_,_,_,rfl,rfl,hle,xy _,qq _ (ai.refl _)⟩
   left;obtain ⟨cs,hcs⟩:∃ cs:List Nat,cs=(List.range sz).map fun j:Nat=>cc ((f+((0:Int)+(j:Nat))*g)%26).toNat:=⟨_,rfl⟩
   have lcs:cs.length=sz:=by rw [hcs,List.length_map,List.length_range]
   have e2:H2 l2=some (.lst ((cs.map sgn).map V.str)):=by rw [e2,hcs,List.map_map,List.map_map]; rfl
   refine ⟨"",l2,cs.map sgn,rfl,rfl,e2,tZ (by omega),?_⟩;have hx0:=xT cs;generalize Txt.join "" (cs.map sgn)=x0 at hx0 ⊢;have wc:∀ c∈cs,97≤c∧c≤122:=fun c hc=>by
    rw [hcs] at hc;obtain ⟨j,_,rfl⟩:=List.mem_map.mp hc;unfold cc; omega
   clear hcs;left;refine bR ⟨by decide,by decide⟩ ?_;left;refine bR (by omega:(0:Int)<(sz:Nat)) ?_;obtain ⟨p,hp,hps⟩:∃ p:Nat,(r:Int) / 7%(sz:Int)=(p:Int)∧p<sz:=⟨r / 7%sz,by rw [Int.natCast_emod,Int.natCast_ediv]; rfl,Nat.mod_lt _ h1⟩
   rw [hp];left;refine ⟨26,rfl,by decide,by decide,?_⟩;have s12:=s1.trans s2;have f1:=s2 _ _ e1;refine d9 (n:=26) (fun j σ' H'=>∃ (x:Str) (c1 c2:Option V),σ'=[some (.ref q),some (.int (mm:Nat)),some (.str "abcdefghijklmnopqrstuvwxyz"),some (.ref l),some (.int (0+(i:Nat))),some (.int r),some (.int sz),some (.int f),some (.int g),some (.str x),some (.int p),c1,c2]∧H'=H2∧x.cps.size=sz∧∀ c∈x.cps.toList,97≤c∧c≤122)
    ⟨x0,_,_,rfl,rfl,by rw [← Array.length_toList,hx0,lcs],by rw [hx0]; exact wc⟩ ?_ ?_
   ·rintro j σ' H' hj ⟨x,c1,c2,rfl,rfl,lx,wx0⟩;have lx':x.length≤sizeLine:=Nat.le_trans (show x.cps.size≤1000 by omega) (by decide)
    have wx:PyData.strOk x=true:=by
     unfold PyData.strOk;rw [Array.all_eq_true_iff_forall_mem];intro c' hc';exact decide_eq_true (by have:=wx0 _ (Array.mem_toList_iff.mpr hc'); omega)
    left;refine ⟨fl.map PyData.str,.str x,fu f1,rfl,r9 fun y hy=>(hw y hy).str,wx,by unfold PyData.depth; omega,?_⟩;rw [zt];by_cases hx:x∈fl
    ·refine ⟨_,rfl,bO (decide_eq_true hx) ?_⟩;left;refine bR (by decide) ?_;refine ⟨_,_,_,rfl,rfl,hle,xy _,?_⟩;rw [show cc (((r:Int)+(0+(j:Nat)))%26).toNat=cc (r+j) by unfold cc; omega];left;refine ⟨x,rfl,lx',?_⟩;left;have z1:(Txt.slice x none (some (p:Int))).length≤x.cps.size:=Txt.slice_le x _ _;have z2:(Txt.slice x (some ((p:Int)+1)) none).length≤x.cps.size:=Txt.slice_le x _ _;have z3:(⟨#[cc (r+j)]⟩:Str).length=1:=rfl;have zL:1000≤sizeLine:=by decide
     refine ⟨_,_,rfl,rfl,by omega,?_⟩
     have z4:(Txt.slice x none (some (p:Int))++(⟨#[cc (r+j)]⟩:Str)).length≤x.cps.size+1:=by
      show (Txt.slice x none (some (p:Int))++(⟨#[cc (r+j)]⟩:Str)).cps.size≤_
      rw [← Array.length_toList,xx,List.length_append,Array.length_toList];exact Nat.add_le_add z1 (Nat.le_refl 1)
     left;refine ⟨x,rfl,lx',?_⟩;refine ⟨_,_,rfl,rfl,by omega,?_⟩;left
     have ey:(Txt.slice x none (some (p:Int))++(⟨#[cc (r+j)]⟩:Str)++Txt.slice x (some ((p:Int)+1)) none).cps.toList=x.cps.toList.set p (cc (r+j)):=by
      rw [xx,xx,zk (by omega),show ((p:Int)+1)=((p+1:Nat):Int) by omega,zi (by omega)];exact A4 (by rw [Array.length_toList]; omega)
     refine ⟨_,_,_,rfl,rfl,by rw [← Array.length_toList,ey,List.length_set,Array.length_toList]; exact lx,fun c' hc'=>?_⟩;rw [ey] at hc';rcases List.mem_or_eq_of_mem_set hc' with h | h
     ·exact wx0 _ h
     ·rw [h]; unfold cc; omega
    ·refine ⟨_,rfl,bf (decide_eq_false hx) ?_⟩;left;exact ⟨x,_,_,rfl,rfl,lx,wx0⟩
   ·rintro σ' H' ⟨x,c1,c2,rfl,rfl,lx,wx0⟩;left;refine cF f1 ?_;left;refine bU f1 (by rw [List.length_map]; exact aP (by omega)) ?_;left;refine ⟨fl++[x],_,_,_,_,_,_,_,_,_,rfl,s12.later nl,by rw [ae,List.map_append]; rfl,by rw [List.length_append,lf]; rfl,fun y hy=>?_⟩;rcases List.mem_append.mp hy with h | h
    ·exact hw y h
    ·rw [List.mem_singleton.mp h];exact ⟨by omega,wx0⟩
  ·rintro σ' H1 ⟨fl,a4,a5,a6,a7,a8,a9,b0,b1,b2,rfl,s1,e1,lf,hw⟩;left;exact k l fl H1 s1 e1 lf hw
def zx (P:Program) (w:World) (td ty:TE):TE:=fun σ H Q=>td σ H fun x H1=>ty σ H1 fun y H2=>∃ a kvs F k v,x=.ref a∧vB P w a kvs F∧H2 a=some F∧y=kV k∧dW kvs k=some v∧Q v H2
theorem yb {X:Cx} {o i:Expr} {pos:Pos} {td ty:TE} (ho:PE X o td) (hi:PE X i ty) (hs:BQ i):PE X (.Subscript o i pos) (zx X.prog X.w td ty):=by
 intro pins s σ H Q I h;refine vn PySem.F.slot_dict_getitem.lookup hs (thn (ho pins s σ H _ I h) fun u s1 ⟨x,H1,I1,rx,q1⟩=>thn (hi pins s1 σ H1 _ I1 q1) fun iv s2 ⟨y,H2,I2,ry,a,kvs,F,k,v,ex,hF,hd,ey,hv,q2⟩=>?_);subst ex ey;obtain rfl:u=Value.ref a:=rx
 obtain ⟨vs,ep,rfl⟩:=hF;obtain ⟨⟨z,lo,rel,at'⟩,_,_⟩:=(show bM X.prog X.w H2 s2.heap a (.ext (xk X.prog X.w a kvs vs ep)) from I2.hok a _ hd)
 have dd:=at'.dictOf;obtain ⟨w',hw,rw'⟩:=fM.some_of (v:=v) (o:=valueAt vs k) (by rw [← hv]; exact rel.val k);exact ⟨dd.typeIs,wpAny_getItem_of (md ry) dd.mapOf hw ⟨v,H2,I2.tok _,rw',q2⟩⟩
theorem yq {P:Program} {w:World} {td ty:TE} {σ:L2.St} {H:Hp} {Q:VK} (h:td σ H fun x H1=>ty σ H1 fun y H2=>∃ a kvs F k v,x=.ref a∧vB P w a kvs F∧H2 a=some F∧y=kV k∧dW kvs k=some v∧Q v H2):zx P w td ty σ H Q:=h
theorem vQ {σ:L2.St} {H:Hp} {d:Addr} {F:HO} {kvs:List (Key×V)} {g:TG} {tb:TS} {D:cZ} (Pv:Nat→L2.St→Hp→Prop) (h0:Pv 0 σ H) (hl:∀ i σ H,i≤kvs.length→Pv i σ H→H d=some F)
  (hs:∀ i k v σ H,kvs[i]?=some (k,v)→Pv i σ H→g (kV k) σ H fun σ2 H2=>tb { D with nx:=Pv (i+1),ct:=Pv (i+1),bk:=D.nx } σ2 H2) (hd:∀ σ H,Pv kvs.length σ H→D.nx σ H):vA (Itk d F kvs) g tb D σ H:=by
 refine ⟨fun i m σ H=>m=kvs.length - i∧i≤kvs.length∧Pv i σ H,⟨kvs.length,by simp,Nat.zero_le _,h0⟩,?_⟩;rintro i m σ H ⟨rfl,hi,p⟩;have q:=hl i σ H hi p;by_cases hlt:i<kvs.length
 ·refine .inr ⟨⟨q,hlt⟩,Pv (i+1),fun σ' H' p'=>⟨kvs.length - (i+1),by omega,rfl,hlt,p'⟩,fun x H' y=>?_⟩;obtain ⟨rfl,k,v,hk,rfl⟩:=y;exact hs i k v σ _ hk p
 ·have e:i=kvs.length:=by omega
  subst e;exact .inl ⟨⟨q,Nat.le_refl _⟩,hd σ H p⟩
section
variable {C CH:Addr} {H H':Hp} {b q:Addr} {k:Key} {r:List (Key×V)} {xs:List V}
theorem fx.frz {v:V} {c:Clo} (h:fx C H v c) {kvs:List (Key×V)} (hb:H b=some (.dK kvs)) (m:bN [b] H H'):fx C H' v c:=by
 obtain ⟨x,rfl,hc,z⟩:=h;obtain ⟨dx,a1,a2,e1,e2,e3⟩:=hc.ob;have no:∀ {y:Addr} {o:HO},H y=some o→(∀ kvs,o≠.dK kvs)→H' y=some o:=fun {y o} e n=>m _ _ e fun z=>by
  rw [List.mem_singleton.mp z,hb] at e;injection e with e;exact n _ e.symm
 exact ⟨x,rfl,⟨dx,a1,a2,no e1 (fun _ z=>nomatch z),no e2 (fun _ z=>nomatch z),no e3 (fun _ z=>nomatch z)⟩,z⟩
theorem jB.frz {d:Addr} {bk:Bk} (h:jB C H d bk) (hb:H b=some (.dK ((k,.ref q)::r))) (hq:H q=some (.tup xs)) (m:bN [b] H H'):jB C H' d bk:=by
 obtain ⟨kvs,e,pw⟩:=h;refine ⟨kvs,m _ _ e fun z=>?_,Paired.mapP pw fun _ _ z=>⟨z.1,z.2.frz hb m⟩⟩;rw [List.mem_singleton.mp z,hb] at e
 cases e
 cases pw with
 | cons w _ =>
  obtain ⟨x,e,hc,_⟩:=w.2
  cases e;obtain ⟨dx,a1,a2,e1,_,_⟩:=hc.ob;rw [hq] at e1
  cases e1
theorem cg.frz {p la lb:Addr} {past ahead:List Bk} {now:Bk} (h:cg C CH H p la lb past now ahead) (hb:H b=some (.dK ((k,.ref q)::r))) (hq:H q=some (.tup xs)) (m:bN [b] H H'):cg C CH H' p la lb past now ahead:=by
 have no:∀ {y:Addr} {o:HO},H y=some o→(∀ kvs,o≠.dK kvs)→H' y=some o:=fun {y o} e n=>m _ _ e fun z=>by
  rw [List.mem_singleton.mp z,hb] at e;injection e with e;exact n _ e.symm
 obtain ⟨dx,fs,d,e1,e2,e3⟩:=h.ob;obtain ⟨ds,f1,f2⟩:=h.pa;obtain ⟨es,g1,g2⟩:=h.ah;exact ⟨⟨dx,fs,d,no e1 (fun _ z=>nomatch z),e2,e3.frz hb hq m⟩,⟨ds,no f1 (fun _ z=>nomatch z),f2.1,fun i d bk h1 h2=>(f2.2 i d bk h1 h2).frz hb hq m⟩,⟨es,no g1 (fun _ z=>nomatch z),g2.1,fun i d bk h1 h2=>(g2.2 i d bk h1 h2).frz hb hq m⟩,h.ne⟩
end
theorem xY {ns:List Str} (hl:ns.length≤1000) (h:∀ x∈ns,PyData.strOk x=true):Ok3 (.list (ns.map PyData.str)) :=
 .inr (.inl ⟨_,rfl,by rw [List.length_map]; exact hl,fun e he=>by obtain ⟨x,hx,rfl⟩:=List.mem_map.mp he; exact Ao (h x hx)⟩)
theorem PwL.keys {H:Hp} {kvs:List (Key×V)} {bk:Bk} (h:PwL H kvs bk):(kvs.map fun p=>kV p.1)=(bk.map (·.1)).map V.str:=by
 induction h with
 | nil=>rfl
 | cons r _ ih=>rw [List.map_cons,List.map_cons,List.map_cons,ih,r.1]; rfl
def jd (bk:Bk):Prop:=∀ nc∈bk,PyData.strOk nc.1=true
def sp_aV (C CH:Addr):Sp:=fun vs H Q _=>∃ (p la lb b:Addr) (past ahead:List Bk) (bk:Bk),vs=[.ref p,.ref b]∧cg C CH H p la lb past bk ahead∧LB H b bk∧rD bk∧jd bk∧bk.length≤900∧∀ H',ai H H'→Q (.bl true) H'
theorem ok_aV (T:Txt K mg t):aU P w K mg base CX0 4 t.f_aV t.d_aV ["_law_chest","_law_book"] (sp_aV t.a_ai t.a_ae):=by
  refine T.F_aV.ok sc_aV (fun vs H Q E h=>?_) (fun cdv A outer s H vs Q E hr h=>?_)
  · obtain ⟨p,la,lb,b,past,ahead,bk,rfl,_⟩:=h; rfl
  · obtain ⟨p,la,lb,b,past,ahead,bk,rfl,hc,⟨kvs,hb,pw⟩,bo,no,hz,k⟩:=h
    obtain ⟨dx,fs,d,e1,cl,_⟩:=hc.ob;refine aI (aL (cJ (bS (aC (ok_ba T) (hr.mono (by first | decide | omega)) rfl T.mg_ba T.F_ba.kp T.b_ba .nil aS (aa (aT (pv 0) T.cl_ae T.m_aB (ok_aB T) (hr.mono (by first | decide | omega)) T.b_aB .nil aS) (aa (aW (fT rfl) rfl T.no_list (by rfl) (aa (pv 1) af)) af))))) (aj (ay h8)) aA) fun _ _=>aI (Ay (eQ PassesOwn.never rfl (Av (pv 1)) (bC (i:=2) sc_aV.nd rfl (Or.inl rfl)) (aj (aL (cJ (bS (aC (ok_ba T) (hr.mono (by first | decide | omega)) rfl T.mg_ba T.F_ba.kp T.b_ba .nil aS (aa (aC (ok_bm T) (hr.mono (by first | decide | omega)) rfl T.mg_bm T.F_bm.kp T.b_bm .nil aS (aa (bF (pv 0) T.cl_ae T.m_am (ok_am T) (hr.mono (by first | decide | omega)) T.b_am .nil aS (aa (pv 2) af)) af)) (aa (yb (pv 1) (pv 2) (fun _ _=>rfl)) af))))) (aj (ay h8)) aA)))) fun _ _=>cK (ay h8) fun _ _=>?_;left;refine aw e1 (cl.no _ (by decide +kernel)) ?_;left;refine ⟨p,la,lb,past,ahead,_,rfl,hc,fun l1 m1=>?_⟩;have s1:=ai.new (o:=HO.lst (dM bk)) m1;have f1:upd H l1 (HO.lst (dM bk)) l1=some (.lst ((bk.map (·.1)).map V.str)):=by rw [ae,List.map_map]; rfl
    generalize upd H l1 (HO.lst (dM bk))=H1 at s1 f1 ⊢;left;refine ⟨b,_,rfl,s1 _ _ hb,fun l2 m2=>?_⟩;rw [pw.keys];have s2:=ai.new (o:=HO.lst ((bk.map (·.1)).map V.str)) m2;have f2:=ae (H:=H1) (a:=l2) (o:=HO.lst ((bk.map (·.1)).map V.str));generalize upd H1 l2 (HO.lst ((bk.map (·.1)).map V.str))=H2 at s2 f2 ⊢;left;refine ⟨.ref l1,.ref l2,.list ((bk.map (·.1)).map PyData.str),rfl,xY (by rw [List.length_map]; omega) (fun x hx=>?_),fu (s2 _ _ f1),fu f2,fun H3 s3=>?_⟩
    · obtain ⟨nc,h1,rfl⟩:=List.mem_map.mp hx
      exact no nc h1
    have s03:=s1.trans (s2.trans s3);clear s1 s2 s3 f1 f2;have hc:=hc.mono s03;have hb:=s03 _ _ hb;have pw:PwL H3 kvs bk:=Paired.mapP pw fun _ _ ⟨z,q,e,r⟩=>⟨z,q,e,r.mono s03⟩
    have k:=fun H' z=>k H' (s03.trans z);left;refine ⟨b,_,rfl,hb,fun F hF=>?_⟩;have mF:bN [b] H3 (upd H3 b F):=(bN.refl _ _).upd List.mem_cons_self;have eF:=ae (H:=H3) (a:=b) (o:=F);refine vQ (fun i σ' H'=>∃ c:Option V,σ'=[some (.ref p),some (.ref b),c]∧ai (upd H3 b F) H') ⟨none,rfl,ai.refl _⟩ (fun i σ' H' _ ⟨_,_,z⟩=>z _ _ eF) ?_ ?_
    · rintro i k0 v0 σ' H4 hi ⟨c0,rfl,s4⟩
      have hcF:cg t.a_ai t.a_ae (upd H3 b F) p la lb past bk ahead:=by
        cases pw with
        | nil=>cases hi
        | @cons kv nc r1 r2 w _ =>
          obtain ⟨w1,q1,w2,a1,b1,w3,_⟩:=w;have hb':H3 b=some (.dK ((kv.1,.ref q1)::r1)):=by rw [hb,← w2]
          exact hc.frz hb' w3 mF
      obtain ⟨n,q,c,rfl,gc,gv,pq⟩:∃ n q c,k0=Sum.inr n∧aO bk n=some c∧dW kvs (Sum.inr n)=some (V.ref q)∧cU H3 q c:=by
        have hk:(kvs.map fun p=>kV p.1)[i]?=some (kV k0):=by rw [List.getElem?_map,hi]; rfl
        rw [pw.keys,List.getElem?_map,List.getElem?_map] at hk
        cases e:bk[i]? with
        | none=>rw [e] at hk; cases hk
        | some nc =>
          rw [e] at hk;have hk:some (V.str nc.1)=some (kV k0):=hk
          have hn:k0=Sum.inr nc.1:=by
            injection hk with hk
            cases k0 with
            | inl i=>cases hk
            | inr x=>injection hk with hk; rw [hk]
          subst hn;rcases pw.get nc.1 with ⟨g,_⟩ | ⟨q,c,g1,g2,g3⟩
          · exact absurd (List.mem_of_getElem? hi) fun hm=>by
              have:∀ {l:List (Key×V)},(Sum.inr nc.1,v0)∈l→dW l (Sum.inr nc.1)≠none:=fun {l}=>by
                induction l with
                | nil=>intro h; cases h
                | cons a r ih =>
                  intro h;by_cases z:a.1=Sum.inr nc.1
                  · rw [gj z]; exact fun z=>nomatch z
                  · rw [gi z]
                    rcases List.mem_cons.mp h with h | h
                    · rw [← h] at z; exact absurd rfl z
                    · exact ih h
              exact this hm g
          · exact ⟨nc.1,q,c,rfl,g2,g1,g3⟩
      have ck:=bo.get gc;have pq:=pq.frz hb mF;have hc4:=hcF.mono s4;obtain ⟨dx4,fs4,d4,j1,j2,_⟩:=hc4.ob;left;refine aw j1 (j2.no _ (by decide +kernel)) ?_;left;refine ⟨p,la,lb,past,ahead,_,n,c,rfl,hc4,gc,fun v hv=>?_⟩;obtain ⟨x,rfl,hx,_⟩:=hv;left;refine ⟨x,c.1,c.2.1,c.2.2,rfl,hx,fun tp ca ra H5 s5 _ _ t1 t2 t3=>?_⟩;left;refine yq ?_;left;have s45:=s4.trans s5;refine ⟨b,_,F,Sum.inr n,_,rfl,hF,s45 _ _ eF,rfl,gv,?_⟩;left;obtain ⟨x2,y2,j4,j5,j6⟩:=pq.mono s45;refine ⟨.ref tp,.ref q,sC c.1 c.2.1 c.2.2,rfl,sJ ck.2.1 ck.2.2,kx t1 t2 t3,kx j4 j5 j6,fun H6 s6=>?_⟩;left;exact ⟨_,rfl,s45.trans s6⟩
    · rintro σ' H4 ⟨c0,rfl,s4⟩
      refine ⟨_,⟨b,_,F,hF,s4 _ _ eF,rfl⟩,?_⟩;left;refine k _ fun y o e=>?_;by_cases z:y=b
      · rw [z,ae,← hb,← z,e]
      · rw [au z]; exact s4 _ _ (by rw [au z]; exact e)
def DY:Expr→Option Str
 | .Constant (.str x) _ _=>some x
 | _=>none
def kJ:List Expr→Option (List Str)
 | []=>some []
 | e::es=>(DY e).bind fun x=>(kJ es).map (x::·)
def tL (xs:List Str):TA:=fun _ H Q=>Q (xs.map V.str) H
theorem qo {X:Cx}:∀ {es:List Expr} {xs:List Str},kJ es=some xs→PA X es (tL xs)
 | [],xs,h=>by cases h; exact af
 | e::es,xs,h=>by
  unfold kJ at h
  cases e with
  | Constant k j pos =>
   cases k with
   | str x =>
    cases e1:kJ es with
    | none=>rw [e1] at h; cases h
    | some ys =>
     rw [e1] at h; cases h;exact aa (t:=tL ys) av (qo e1) rfl
   | _=>cases h
  | _ => cases h
structure PSW (X:Cx) (st:Stmt) (t:TS):Prop where
 h:PS X st t
theorem Bj {X:Cx} {s:Stmt} {ss:List Stmt} {r:TS} {C:TS→Prop} (d:PSW X s r) (k:∀ r',r'=r→∃ ts,PSs X ss ts∧C (Be r' ts)):∃ ts,PSs X (s::ss) ts∧C ts:=aI d.h k
theorem um {X:Cx} {i:Nat} {x:Str} {es:List Expr} {xs:List Str} {p1 p2 p3:Pos} (hN:X.N.Nodup) (hi:X.N[i]?=some x) (hx:Loc X.env.scope x) (h:kJ es=some xs) (hf:X.fn x=true∨X.env.scope.names.lookup x=some .local:=by first | exact .inl rfl | exact .inr rfl | assumption) :
  PSW X (.Assign [.Name x p1] (.List es p2) p3) (wU (Bd (tL xs)) (eW i)):=⟨aF hN hi hx (bP (qo h)) rfl hf⟩
theorem qp {X:Cx} {K:W.Frag} {i:Nat} {x:Str} {es:List Expr} {xs:List Str} {ie:Expr} {te:TE} {p1 p2 p3 p4:Pos} (hK:X.K=K) (hN:X.N.Nodup) (hi:X.N[i]?=some x) (hx:Loc X.env.scope x) (h:kJ es=some xs) (he:PE X ie te) (hs:uO ie) (hf:X.fn x=true∨X.env.scope.names.lookup x=some .local:=by first | exact .inl rfl | exact .inr rfl | assumption) :
  PSW X (.Assign [.Name x p1] (.Subscript (.List es p2) ie p3) p4) (wU (tOp (AA K) (Bd (tL xs)) te) (eW i)):=⟨aF hN hi hx (ar (aH K hK) (bP (qo h)) he hs) rfl hf⟩
theorem vb {xs:List Str} {ys:List V} {σ:L2.St} {H:Hp} {Q:List V→Hp→Prop} (e:xs.map V.str=ys) (q:Q ys H):tL xs σ H Q:=by subst e; exact q
theorem nA {fl:List Str} {i:Int} (h0:0≤i) (h1:i<fl.length):∃ x∈fl,atI (fl.map V.str) i=some (.str x):=by
 obtain ⟨j,rfl⟩:=Int.eq_ofNat_of_zero_le h0;have hj:j<fl.length:=by omega
 refine ⟨fl[j],List.getElem_mem hj,bY ?_⟩;rw [List.getElem?_map,List.getElem?_eq_getElem hj]; rfl
def lR (pl:List Str):Prop:=∀ x∈pl,PyData.strOk x=true∧x.cps.size≤1000
def DdN:Dd→Prop
 | .lay n _=>PyData.strOk n=true
 | .drop n=>PyData.strOk n=true
 | .turn n _ _=>PyData.strOk n=true
 | .cut n _ _=>PyData.strOk n=true
 | .put n _ _ _=>PyData.strOk n=true
 | .sew n _ _ _=>PyData.strOk n=true
 | .part n _ _ o=>PyData.strOk n=true∧PyData.strOk o=true
def sp_aC:Sp:=fun vs H Q _=>∃ (q b l:Addr) (zs:List Int) (bk:Bk) (pl:List Str),vs=[.ref q,.ref b,.ref l]∧H q=some (.lst (zs.map V.int))∧10≤zs.length∧LB H b bk∧bk.length≤900∧jd bk∧H l=some (.lst (pl.map V.str))∧0<pl.length∧pl.length≤100∧lR pl ∧
 ∀ v dd H',ai H H'→kW H' v dd→xg dd→DdN dd→Q (.ref v) H'
theorem ok_aC (T:Txt K mg t):aU P w K mg base CX0 2 t.f_aC t.d_aC ["_law_some","_law_book","_law_pool"] sp_aC:=by
 refine T.F_aC.ok sc_aC (fun vs H Q E h=>?_) (fun cdv A outer s H vs Q E hr h=>?_)
 ·obtain ⟨q,b,l,zs,bk,pl,rfl,_⟩:=h; rfl
 ·obtain ⟨q,b,l,zs,bk,pl,rfl,hq,lz,hb,lb,nb,hl,p0,p1,po,z⟩:=h;refine Bj (um (i:=3) (xs:=["lay","lay","lay","drop","turn","put","cut","sew","sew","part","part"]) sc_aC.nd rfl (Or.inl rfl) rfl) fun _ _=>aI (aF (i:=4) sc_aC.nd rfl (Or.inl rfl) (ar (aH K rfl) (pv 3) (aB bh (ar (aH K rfl) (pv 0) ag (fun _ _=>rfl)) ag) (fun _ _=>rfl))) fun _ _=>aI (aF (i:=5) sc_aC.nd rfl (Or.inl rfl) (ar (aH K rfl) (pv 2) (aB bh (ar (aH K rfl) (pv 0) ag (fun _ _=>rfl)) (ax (bH K rfl) rfl T.no_len (by rfl) (aa (pv 2) af))) (fun _ _=>rfl))) fun _ _=>aI (c9 (aL (PW.pt (eR (aD mG (aB bh (ar (aH K rfl) (pv 0) ag (fun _ _=>rfl)) ag) ag (aG _)) (eR (aD mG (ax uR rfl T.no_len (by rfl) (aa (pv 1) af)) ag (aG _)) (eJ (aD (lG hr.units) (pv 4) (bq (aa av (aa av af))) rfl))))) (aj (aF (i:=5) sc_aC.nd rfl (Or.inl rfl) (ar (aH K rfl) (aW (fT rfl) rfl T.no_list (by rfl) (aa (pv 1) af)) (aB bh (ar (aH K rfl) (pv 0) ag (fun _ _=>rfl)) (ax uR rfl T.no_len (by rfl) (aa (pv 1) af))) (fun _ _=>rfl)))) aA)) fun _ _=>Bj (qp (i:=6) (xs:=["col","row","col","row","col","row","col","row","cols"]) rfl sc_aC.nd rfl (Or.inl rfl) rfl (aB bh (ar (aH K rfl) (pv 0) ag (fun _ _=>rfl)) ag) (fun _ _=>rfl)) fun _ _=>aI (aL (aD bJ (pv 4) av (aG _)) (aJ (aF (i:=7) sc_aC.nd rfl (Or.inl rfl) (aB aZ ag (aB bh (ar (aH K rfl) (pv 0) ag (fun _ _=>rfl)) ag))) (aJ (aF (i:=8) sc_aC.nd rfl (Or.inl rfl) (aB aZ ag (aB bh (ar (aH K rfl) (pv 0) ag (fun _ _=>rfl)) ag))) (aJ (aF (i:=9) sc_aC.nd rfl (Or.inl rfl) (aC (ok_bo T) (hr.mono (by first | decide | omega)) rfl T.mg_bo T.F_bo.kp T.b_bo .nil aS (aa (ar (aH K rfl) (pv 0) ag (fun _ _=>rfl)) (aa (aB fq (pv 7) ag) af)))) (aj (ay (bq (aa av (aa (pv 5) (aa (bq (aa (aB bh (ar (aH K rfl) (pv 0) ag (fun _ _=>rfl)) ag) (aa (pv 9) (aa (aC (ok_bo T) (hr.mono (by first | decide | omega)) rfl T.mg_bo T.F_bo.kp T.b_bo .nil aS (aa (ar (aH K rfl) (pv 0) ag (fun _ _=>rfl)) (aa (aB fq (pv 8) ag) af))) af)))) af))))))))) aA) fun _ _=>aI (aL (aD bJ (pv 4) av (aG _)) (aj (ay (bq (aa av (aa (pv 5) af))))) aA) fun _ _=>aI (aL (aD bJ (pv 4) av (aG _)) (aj (ay (bq (aa av (aa (pv 5) (aa (ar (aH K rfl) (pv 2) (aB bh (ar (aH K rfl) (pv 0) ag (fun _ _=>rfl)) (ax (bH K rfl) rfl T.no_len (by rfl) (aa (pv 2) af))) (fun _ _=>rfl)) (aa (ar (aH K rfl) (pv 2) (aB bh (ar (aH K rfl) (pv 0) ag (fun _ _=>rfl)) (ax (bH K rfl) rfl T.no_len (by rfl) (aa (pv 2) af))) (fun _ _=>rfl)) (aa (pv 6) af)))))))) aA) fun _ _=>aI (aF (i:=10) sc_aC.nd rfl (Or.inl rfl) ag) fun _ _=>aI (c9 (aL (ib (ui (cP hr) (pv 5) (pv 1))) (aj (aF (i:=10) sc_aC.nd rfl (Or.inl rfl) (ax (bH K rfl) rfl T.no_len (by rfl) (aa (ar (aq K rfl) (gH (cP hr) (pv 1) (pv 5) (fun _ _=>rfl)) (aB aZ ag (aW j8 rfl T.no_int (by rfl) (aa (cO bJ (pv 6) av (aG _)) af))) (fun _ _=>rfl)) af)))) aA)) fun _ _=>aI (aF (i:=11) sc_aC.nd rfl (Or.inl rfl) (bP (aa (aB bh (ar (aH K rfl) (pv 0) ag (fun _ _=>rfl)) (ax (uS rfl) rfl T.no_max (by rfl) (aa ag (aa (pv 10) af)))) (aa (aB bh (ar (aH K rfl) (pv 0) ag (fun _ _=>rfl)) (aB aZ (pv 10) ag)) (aa (sy nD ag) (aa (pv 10) af)))))) fun _ _=>aI (aF (i:=12) sc_aC.nd rfl (Or.inl rfl) (ar (aH K rfl) (pv 11) (ax (uS rfl) rfl T.no_max (by rfl) (aa ag (aa (aB fq (aB bh (ar (aH K rfl) (pv 0) ag (fun _ _=>rfl)) ag) ag) af))) (fun _ _=>rfl))) fun _ _=>aI (aL (aD bJ (pv 4) av (aG _)) (aj (ay (bq (aa av (aa (pv 5) (aa (pv 6) (aa (pv 12) (aa (ar (aH K rfl) (bP (aa (aB bh (ar (aH K rfl) (pv 0) ag (fun _ _=>rfl)) ag) (aa (aB bh (ar (aH K rfl) (pv 0) ag (fun _ _=>rfl)) ag) (aa (aB bh (ar (aH K rfl) (pv 0) ag (fun _ _=>rfl)) ag) af)))) (aB bh (ar (aH K rfl) (pv 0) ag (fun _ _=>rfl)) ag) (fun _ _=>rfl)) af)))))))) aA) fun _ _=>aI (aL (aD bJ (pv 4) av (aG _)) (aj (ay (bq (aa av (aa (pv 5) (aa (pv 6) (aa (pv 12) (aa (ar (aH K rfl) (pv 2) (aB bh (ar (aH K rfl) (pv 0) ag (fun _ _=>rfl)) (ax (bH K rfl) rfl T.no_len (by rfl) (aa (pv 2) af))) (fun _ _=>rfl)) af)))))))) aA) fun _ _=>cK (ay (bq (aa (pv 4) (aa (pv 5) (aa (pv 6) (aa (pv 12) af)))))) fun _ _=>?_;have IX:∀ (i:Nat),i<10→∀ {H':Hp},ai H H'→SqL K H' q (zs.map V.int)∧atI (zs.map V.int) (i:Int)=some (.int (zs.getD i 0)):=fun i hi H' s'=>⟨SqL.of (s' _ _ hq),by have:=cw (zs:=zs) (i:=(i:Int)) (by omega) (by omega); rw [Int.toNat_natCast] at this; exact this⟩
  left;refine vb (ys:=[V.str "lay",V.str "lay",V.str "lay",V.str "drop",V.str "turn",V.str "put",V.str "cut",V.str "sew",V.str "sew",V.str "part",V.str "part"]) rfl ?_;refine ⟨by show 11≤sizeLine; decide,fun kl nkl=>?_⟩;have skl:=ai.new (o:=HO.lst [V.str "lay",V.str "lay",V.str "lay",V.str "drop",V.str "turn",V.str "put",V.str "cut",V.str "sew",V.str "sew",V.str "part",V.str "part"]) nkl;have ekl:=ae (H:=H) (a:=kl) (o:=HO.lst [V.str "lay",V.str "lay",V.str "lay",V.str "drop",V.str "turn",V.str "put",V.str "cut",V.str "sew",V.str "sew",V.str "part",V.str "part"]);generalize upd H kl (HO.lst [V.str "lay",V.str "lay",V.str "lay",V.str "drop",V.str "turn",V.str "put",V.str "cut",V.str "sew",V.str "sew",V.str "part",V.str "part"])=H1 at skl ekl ⊢;left;refine aQ (IX 0 (by decide) skl).1 (IX 0 (by decide) skl).2 ?_;left;refine bR (by decide) ?_;obtain ⟨kd,hkd,gk⟩:=nA (fl:=["lay","lay","lay","drop","turn","put","cut","sew","sew","part","part"]) (i:=zs.getD 0 0%11) (by omega) (by show _<(11:Int); omega);refine aQ (SqL.of ekl) gk ?_;left;refine aQ (IX 1 (by decide) skl).1 (IX 1 (by decide) skl).2 ?_;left;refine bI (skl _ _ hl) ?_;rw [List.length_map];left;refine bR (by omega:(0:Int)<(pl.length:Nat)) ?_;obtain ⟨n0,hn0,gn⟩:=nA (fl:=pl) (i:=zs.getD 1 0%(pl.length:Nat)) (Int.emod_nonneg _ (by omega)) (Int.emod_lt_of_pos _ (by omega));refine aQ (SqL.of (skl _ _ hl)) gn ?_;left;have ok0:=po n0 hn0
  have okd:PyData.strOk kd=true:=by
   simp only [List.mem_cons,List.not_mem_nil,or_false] at hkd;rcases hkd with rfl | rfl | rfl | rfl | rfl | rfl | rfl | rfl | rfl | rfl | rfl<;>decide +kernel
  refine de (fun σ' H'=>∃ nm:Str,σ'=[some (.ref q),some (.ref b),some (.ref l),some (.ref kl),some (.str kd),some (.str nm),none,none,none,none,none,none,none]∧ai H1 H'∧PyData.strOk nm=true∧("lay"=kd∨"sew"=kd→nm.cps.size≤1000)) ?_ ?_
  ·have stay:∀ H',ai H1 H'→∃ nm:Str,([some (.ref q),some (.ref b),some (.ref l),some (.ref kl),some (.str kd),some (.str n0),none,none,none,none,none,none,none]:L2.St)=[some (.ref q),some (.ref b),some (.ref l),some (.ref kl),some (.str kd),some (.str nm),none,none,none,none,none,none,none]∧ai H1 H'∧PyData.strOk nm=true∧("lay"=kd∨"sew"=kd→nm.cps.size≤1000):=fun H' s'=>⟨n0,rfl,s',ok0.1,fun _=>ok0.2⟩
   left;refine aQ (IX 2 (by decide) skl).1 (IX 2 (by decide) skl).2 ?_;left;refine bR (by decide) ?_;left;obtain ⟨kvs,eb,pw⟩:=hb.mono skl;have lk:kvs.length=bk.length:=Paired.length pw;refine eY (fun _=>?_) (fun _=>?_)
   rotate_left
   ·left;exact stay _ (ai.refl _)
   left;refine ⟨b,kvs,rfl,eb,?_⟩;left;refine eY (fun c0=>?_) (fun _=>?_)
   rotate_left
   ·left;exact stay _ (ai.refl _)
   have c0:=of_decide_eq_true c0;left;refine ⟨by show 2≤sizeLine; decide,fun tn ntn=>?_⟩;have stn:=ai.new (o:=HO.tup [V.str "lay",V.str "sew"]) ntn;have etn:=ae (H:=H1) (a:=tn) (o:=HO.tup [V.str "lay",V.str "sew"]);generalize upd H1 tn (HO.tup [V.str "lay",V.str "sew"])=H2 at stn etn ⊢;refine mL etn (by decide +kernel) (by decide +kernel) okd ?_;left;refine eY (fun _=>?_) (fun c1=>?_)
   ·left;exact stay _ stn
   left;refine ⟨b,kvs,rfl,stn _ _ eb,fun ll nll=>?_⟩;rw [pw.keys];have sll:=ai.new (o:=HO.lst ((bk.map (·.1)).map V.str)) nll;have ell:=ae (H:=H2) (a:=ll) (o:=HO.lst ((bk.map (·.1)).map V.str));generalize upd H2 ll (HO.lst ((bk.map (·.1)).map V.str))=H3 at sll ell ⊢;have s3:=skl.trans (stn.trans sll);left;refine aQ (IX 1 (by decide) s3).1 (IX 1 (by decide) s3).2 ?_;left;refine ⟨b,kvs,rfl,sll _ _ (stn _ _ eb),?_⟩;left;rw [lk] at c0 ⊢;refine bR (by omega:(0:Int)<(bk.length:Nat)) ?_;obtain ⟨n1,hn1,g1⟩:=nA (fl:=bk.map (·.1)) (i:=zs.getD 1 0%(bk.length:Nat)) (Int.emod_nonneg _ (by omega)) (by rw [List.length_map]; exact Int.emod_lt_of_pos _ (by omega));refine aQ (SqL.of ell) g1 ?_;left;refine ⟨n1,rfl,stn.trans sll,?_,fun z=>?_⟩
   ·obtain ⟨nc,h1,rfl⟩:=List.mem_map.mp hn1;exact nb nc h1
   ·rcases z with z | z
    ·exact absurd (by rw [decide_eq_true z]; rfl) c1
    ·exact absurd (by rw [decide_eq_true z,Bool.or_true]) c1
  rintro σ' H2 ⟨nm,rfl,s2,okn,szn⟩;left;refine vb (ys:=[V.str "col",V.str "row",V.str "col",V.str "row",V.str "col",V.str "row",V.str "col",V.str "row",V.str "cols"]) rfl ?_;refine ⟨by show 9≤sizeLine; decide,fun wl nwl=>?_⟩;have swl:=ai.new (o:=HO.lst [V.str "col",V.str "row",V.str "col",V.str "row",V.str "col",V.str "row",V.str "col",V.str "row",V.str "cols"]) nwl;have ewl:=ae (H:=H2) (a:=wl) (o:=HO.lst [V.str "col",V.str "row",V.str "col",V.str "row",V.str "col",V.str "row",V.str "col",V.str "row",V.str "cols"]);generalize upd H2 wl (HO.lst [V.str "col",V.str "row",V.str "col",V.str "row",V.str "col",V.str "row",V.str "col",V.str "row",V.str "cols"])=H3 at swl ewl ⊢;have s3:=skl.trans (s2.trans swl);left;refine aQ (IX 3 (by decide) s3).1 (IX 3 (by decide) s3).2 ?_;left;refine bR (by decide) ?_;obtain ⟨wy,hwy,gw⟩:=nA (fl:=["col","row","col","row","col","row","col","row","cols"]) (i:=zs.getD 3 0%9) (by omega) (by show _<(9:Int); omega)
  have okw:PyData.strOk wy=true:=by
   simp only [List.mem_cons,List.not_mem_nil,or_false] at hwy;rcases hwy with rfl | rfl | rfl | rfl | rfl | rfl | rfl | rfl | rfl<;>decide +kernel
  refine aQ (SqL.of ewl) gw ?_;left;have IX:=fun (i:Nat) (hi:i<10) {H':Hp} (s':ai H3 H')=>IX i hi (s3.trans s');have hl:=s3 _ _ hl;have hb:=hb.mono s3;have z:=fun v dd H' (s':ai H3 H')=>z v dd H' (s3.trans s');have PL:∀ (x:Int) {H':Hp},ai H3 H'→∃ n,PyData.strOk n=true∧n.cps.size≤1000∧SqL K H' l (pl.map V.str)∧atI (pl.map V.str) (x%(pl.length:Nat))=some (.str n):=fun x H' s'=>by
   obtain ⟨n,hn,g⟩:=nA (fl:=pl) (i:=x%(pl.length:Nat)) (Int.emod_nonneg _ (by omega)) (Int.emod_lt_of_pos _ (by omega));exact ⟨n,(po n hn).1,(po n hn).2,SqL.of (s' _ _ hl),g⟩
  clear s3 swl ewl s2 skl ekl gk gw gn;refine eY (fun c0=>?_) (fun c0=>?_)
  ·have c0:=of_decide_eq_true c0;subst c0;left;refine aQ (IX 4 (by decide) (ai.refl _)).1 (IX 4 (by decide) (ai.refl _)).2 ?_;left;refine bR (by decide) ?_;obtain ⟨wd,hwd,bw⟩:∃ wd:Nat,1+zs.getD 4 0%9=(wd:Int)+1∧wd≤8:=⟨(zs.getD 4 0%9).toNat,by omega,by omega⟩
   left;rw [hwd];refine aQ (IX 5 (by decide) (ai.refl _)).1 (IX 5 (by decide) (ai.refl _)).2 ?_;left;refine bR (by decide) ?_;obtain ⟨tl,htl,bt⟩:∃ tl:Nat,1+zs.getD 5 0%9=(tl:Int)+1∧tl≤8:=⟨(zs.getD 5 0%9).toNat,by omega,by omega⟩
   left;rw [htl];refine aQ (IX 7 (by decide) (ai.refl _)).1 (IX 7 (by decide) (ai.refl _)).2 ?_;left;refine ⟨zs.getD 7 0,wd,by rw [Int.add_sub_cancel]; rfl,by omega,fun lc cs H4 s4 _ ec lcs bc=>?_⟩;left;refine aQ (IX 6 (by decide) s4).1 (IX 6 (by decide) s4).2 ?_;left;refine bR (by decide) ?_;left;refine aQ (IX 8 (by decide) s4).1 (IX 8 (by decide) s4).2 ?_;left;refine ⟨zs.getD 8 0,tl,by rw [Int.add_sub_cancel]; rfl,by omega,fun lr rs H5 s5 _ er lrs br=>?_⟩;left;have ms:=DA (zs.getD 6 0);refine ⟨by show 3≤sizeLine; decide,fun pp npp=>?_⟩;have spp:=ai.new (o:=HO.tup [V.int (zs.getD 6 0%2),V.ref lc,V.ref lr]) npp;have epp:=ae (H:=H5) (a:=pp) (o:=HO.tup [V.int (zs.getD 6 0%2),V.ref lc,V.ref lr]);generalize upd H5 pp (HO.tup [V.int (zs.getD 6 0%2),V.ref lc,V.ref lr])=H6 at spp epp ⊢;left;refine ⟨by show 3≤sizeLine; decide,fun dt ndt=>?_⟩;have sdt:=ai.new (o:=HO.tup [V.str "lay",V.str nm,V.ref pp]) ndt;have edt:=ae (H:=H6) (a:=dt) (o:=HO.tup [V.str "lay",V.str nm,V.ref pp]);generalize upd H6 dt (HO.tup [V.str "lay",V.str nm,V.ref pp])=H7 at sdt edt ⊢;have s57:=spp.trans sdt;exact z dt (.lay nm (zs.getD 6 0%2,cs,rs)) H7 (s4.trans (s5.trans s57)) ⟨pp,edt,lc,lr,sdt _ _ epp,s57 _ _ (s5 _ _ ec),s57 _ _ er⟩ ⟨szn (.inl rfl),ms,⟨by rw [lcs]; omega,bc⟩,⟨by rw [lrs]; omega,br⟩⟩ okn
  left;refine eY (fun c1=>?_) (fun c1=>?_)
  ·left;refine ⟨by show 2≤sizeLine; decide,fun dt ndt=>?_⟩;have sdt:=ai.new (o:=HO.tup [V.str "drop",V.str nm]) ndt;have edt:=ae (H:=H3) (a:=dt) (o:=HO.tup [V.str "drop",V.str nm]);generalize upd H3 dt (HO.tup [V.str "drop",V.str nm])=H7 at sdt edt ⊢;exact z dt (.drop nm) H7 sdt edt trivial okn
  left;refine eY (fun c2=>?_) (fun c2=>?_)
  ·have c2:=of_decide_eq_true c2;left;refine aQ (IX 4 (by decide) (ai.refl _)).1 (IX 4 (by decide) (ai.refl _)).2 ?_;left;refine bI hl ?_;rw [List.length_map];left;refine bR (by omega:(0:Int)<(pl.length:Nat)) ?_;obtain ⟨o1,_,_,g1,g2⟩:=PL (zs.getD 4 0) (ai.refl _);refine aQ g1 g2 ?_;left;refine aQ (IX 5 (by decide) (ai.refl _)).1 (IX 5 (by decide) (ai.refl _)).2 ?_;left;refine bI hl ?_;rw [List.length_map];left;refine bR (by omega:(0:Int)<(pl.length:Nat)) ?_;obtain ⟨o2,_,_,g3,g4⟩:=PL (zs.getD 5 0) (ai.refl _);refine aQ g3 g4 ?_;left;refine ⟨by show 5≤sizeLine; decide,fun dt ndt=>?_⟩;have sdt:=ai.new (o:=HO.tup [V.str "sew",V.str nm,V.str o1,V.str o2,V.str wy]) ndt;have edt:=ae (H:=H3) (a:=dt) (o:=HO.tup [V.str "sew",V.str nm,V.str o1,V.str o2,V.str wy]);generalize upd H3 dt (HO.tup [V.str "sew",V.str nm,V.str o1,V.str o2,V.str wy])=H7 at sdt edt ⊢;exact z dt (.sew nm o1 o2 wy) H7 sdt edt ⟨szn (.inr c2.symm),okw⟩ okn
  left;refine de (fun σ' H'=>∃ m:Nat,σ'=[some (.ref q),some (.ref b),some (.ref l),some (.ref kl),some (.str kd),some (.str nm),some (.str wy),none,none,none,some (.int (m:Nat)),none,none]∧H'=H3) ?_ ?_
  ·left;obtain ⟨kvs,eb,pw⟩:=hb;refine ⟨b,_,rfl,dB.k (k:=Sum.inr nm) eb,?_⟩;refine ⟨_,rfl,?_⟩;rcases pw.get nm with ⟨g1,_⟩ | ⟨q1,c1,g1,_,h1⟩
   ·rw [g1,Option.isSome_none];left;exact ⟨9,rfl,rfl⟩
   rw [g1,Option.isSome_some];left;refine ⟨b,.ref q1,rfl,by rw [← g1]; exact dB.k (k:=Sum.inr nm) eb,?_⟩;obtain ⟨a',b',x,y,g2,_,_,i1,gx,_,_⟩:=h1.side wy;left;refine ak (SqT.of g2) i1 ?_;left;refine bI gx ?_;rw [List.length_map];left;exact ⟨_,rfl,rfl⟩
  rintro σ' H4 ⟨m,rfl,rfl⟩;left;refine aQ (IX 4 (by decide) (ai.refl _)).1 (IX 4 (by decide) (ai.refl _)).2 ?_;left;refine bR (by split<;>omega) ?_;left;refine aQ (IX 4 (by decide) (ai.refl _)).1 (IX 4 (by decide) (ai.refl _)).2 ?_;left;refine bR (by omega:(0:Int)<(m:Nat)+2) ?_;left;generalize hx1:zs.getD 4 0%(if ((m:Nat):Int) > 1 then ((m:Nat):Int) else 1)=x1;generalize zs.getD 4 0%(((m:Nat):Int)+2)=x2;refine ⟨by show 4≤sizeLine; decide,fun ml nml=>?_⟩;have sml:=ai.new (o:=HO.lst [V.int x1,V.int x2,V.int (-1),V.int (m:Nat)]) nml;have eml:=ae (H:=H4) (a:=ml) (o:=HO.lst [V.int x1,V.int x2,V.int (-1),V.int (m:Nat)]);generalize upd H4 ml (HO.lst [V.int x1,V.int x2,V.int (-1),V.int (m:Nat)])=H5 at sml eml ⊢;left;refine aQ (IX 5 (by decide) sml).1 (IX 5 (by decide) sml).2 ?_;left;refine bR (by decide) ?_;left;obtain ⟨k,gk⟩:∃ k,atI ([x1,x2,-1,(m:Nat)].map V.int) (if zs.getD 5 0%11 - 7 > 0 then zs.getD 5 0%11 - 7 else 0)=some (.int k):=⟨_,cw (by split<;>omega) (by show _<(4:Int); split<;>omega)⟩
  refine aQ (SqL.of eml) gk ?_;left;refine eY (fun c3=>?_) (fun c3=>?_)
  ·left;refine aQ (IX 6 (by decide) sml).1 (IX 6 (by decide) sml).2 ?_;left;refine bR (by decide) ?_;left;refine aQ (IX 6 (by decide) sml).1 (IX 6 (by decide) sml).2 ?_;left;refine bR (by decide) ?_;left;refine aQ (IX 6 (by decide) sml).1 (IX 6 (by decide) sml).2 ?_;left;refine bR (by decide) ?_;left;refine ⟨by show 3≤sizeLine; decide,fun bl nbl=>?_⟩;have sbl:=ai.new (o:=HO.lst [V.int (zs.getD 6 0%2),V.int (zs.getD 6 0%2),V.int (zs.getD 6 0%3)]) nbl;have ebl:=ae (H:=H5) (a:=bl) (o:=HO.lst [V.int (zs.getD 6 0%2),V.int (zs.getD 6 0%2),V.int (zs.getD 6 0%3)]);generalize upd H5 bl (HO.lst [V.int (zs.getD 6 0%2),V.int (zs.getD 6 0%2),V.int (zs.getD 6 0%3)])=H6 at sbl ebl ⊢;left;refine aQ (IX 7 (by decide) (sml.trans sbl)).1 (IX 7 (by decide) (sml.trans sbl)).2 ?_;left;refine bR (by decide) ?_;obtain ⟨b0,gb⟩:∃ b0,atI ([zs.getD 6 0%2,zs.getD 6 0%2,zs.getD 6 0%3].map V.int) (zs.getD 7 0%3)=some (.int b0):=⟨_,cw (by omega) (by show _<(3:Int); omega)⟩
   refine aQ (SqL.of ebl) gb ?_;left;refine ⟨by show 5≤sizeLine; decide,fun dt ndt=>?_⟩;have sdt:=ai.new (o:=HO.tup [V.str "put",V.str nm,V.str wy,V.int k,V.int b0]) ndt;have edt:=ae (H:=H6) (a:=dt) (o:=HO.tup [V.str "put",V.str nm,V.str wy,V.int k,V.int b0]);generalize upd H6 dt (HO.tup [V.str "put",V.str nm,V.str wy,V.int k,V.int b0])=H7 at sdt edt ⊢;exact z dt (.put nm wy k b0) H7 (sml.trans (sbl.trans sdt)) edt okw okn
  left;refine eY (fun c4=>?_) (fun c4=>?_)
  ·left;refine aQ (IX 6 (by decide) sml).1 (IX 6 (by decide) sml).2 ?_;left;refine bI (sml _ _ hl) ?_;rw [List.length_map];left;refine bR (by omega:(0:Int)<(pl.length:Nat)) ?_;obtain ⟨o1,oo,ol,g1,g2⟩:=PL (zs.getD 6 0) sml;refine aQ g1 g2 ?_;left;refine ⟨by show 5≤sizeLine; decide,fun dt ndt=>?_⟩;have sdt:=ai.new (o:=HO.tup [V.str "part",V.str nm,V.str wy,V.int k,V.str o1]) ndt;have edt:=ae (H:=H5) (a:=dt) (o:=HO.tup [V.str "part",V.str nm,V.str wy,V.int k,V.str o1]);generalize upd H5 dt (HO.tup [V.str "part",V.str nm,V.str wy,V.int k,V.str o1])=H7 at sdt edt ⊢;exact z dt (.part nm wy k o1) H7 (sml.trans sdt) edt ⟨okw,ol⟩ ⟨okn,oo⟩
  left;refine ⟨by show 4≤sizeLine; decide,fun dt ndt=>?_⟩;have sdt:=ai.new (o:=HO.tup [V.str kd,V.str nm,V.str wy,V.int k]) ndt;have edt:=ae (H:=H5) (a:=dt) (o:=HO.tup [V.str kd,V.str nm,V.str wy,V.int k]);generalize upd H5 dt (HO.tup [V.str kd,V.str nm,V.str wy,V.int k])=H7 at sdt edt ⊢;simp only [List.mem_cons,List.not_mem_nil,or_false] at hkd;rw [decide_eq_true_eq] at c0 c1 c2 c3 c4;rcases hkd with rfl | rfl | rfl | rfl | rfl | rfl | rfl | rfl | rfl | rfl | rfl
  ·exact absurd rfl c0
  ·exact absurd rfl c0
  ·exact absurd rfl c0
  ·exact absurd rfl c1
  ·exact z dt (.turn nm wy k) H7 (sml.trans sdt) edt okw okn
  ·exact absurd rfl c3
  ·exact z dt (.cut nm wy k) H7 (sml.trans sdt) edt okw okn
  ·exact absurd rfl c2
  ·exact absurd rfl c2
  ·exact absurd rfl c4
  ·exact absurd rfl c4
theorem jh {bk:Bk} {n:Str} (h:n∈bk.map (·.1)):∃ c,aO bk n=some c:=by
 induction bk with
 | nil=>cases h
 | cons a r ih =>
  unfold aO;by_cases e:a.1=n
  ·rw [List.find?_cons_of_pos (by simpa using e)]; exact ⟨_,rfl⟩
  ·rw [List.find?_cons_of_neg (by simpa using e)];rcases List.mem_cons.mp h with z | z
   ·exact absurd z.symm e
   ·exact ih z
theorem LB.at {H:Hp} {b:Addr} {bk:Bk} (h:LB H b bk) {n:Str} (hn:n∈bk.map (·.1)):∃ kvs q c,H b=some (.dK kvs)∧dW kvs (Sum.inr n)=some (.ref q)∧aO bk n=some c∧cU H q c:=by
 obtain ⟨kvs,e,pw⟩:=h;obtain ⟨c0,g0⟩:=jh hn;rcases pw.get n with ⟨_,g⟩ | ⟨q,c,g1,g2,g3⟩
 ·rw [g0] at g; cases g
 ·exact ⟨kvs,q,c,e,g1,g2,g3⟩
theorem rS:∀ {ns:List Str},PyData.depthAll (ns.map PyData.str)≤1
 | []=>by simp [PyData.depthAll]
 | a::r=>by
  have:=rS (ns:=r)
  simp only [List.map_cons,PyData.depthAll,PyData.depth]; omega
theorem qQ {ns:List Str} (h:∀ x∈ns,PyData.strOk x=true):SeqAt.shaped (.list (ns.map PyData.str))=true:=by
 have:=rS (ns:=ns)
 exact Bool.and_eq_true_iff.mpr ⟨by simp only [PyData.canLay0]; exact r9 h,decide_eq_true (by unfold PyData.depth; omega)⟩
theorem uu {H:Hp} {Q:VK} {a b:Addr} {ns:List Str} (ha:H a=some (.lst (ns.map V.str))) (hb:H b=some (.lst [])) (o:∀ x∈ns,PyData.strOk x=true) (q:Q (.bl (!decide (ns=[]))) H):wq true (.ref a) (.ref b) H Q:=by
 refine ⟨_,_,fu ha,fu (ns:=[]) hb,qQ o,qQ (fun x hx=>by cases hx),?_⟩
 cases ns with
 | nil=>exact q
 | cons a r=>exact q
def frV (bk:Bk):V→Bool
 | .str n=>(aO bk n).isNone
 | _=>false
theorem Ac {bk:Bk} {pl:List Str}:((pl.map V.str).filter (frV bk)).map id=(pl.filter fun n=>(aO bk n).isNone).map V.str:=by
 rw [List.map_id,List.filter_map]; rfl
def sp_aM:Sp:=fun vs H Q _=>∃ (b l:Addr) (k:Int) (bk:Bk) (pl:List Str),vs=[.ref b,.ref l,.int k]∧LB H b bk∧bk.length≤900∧rD bk∧H l=some (.lst (pl.map V.str))∧pl.length≤100∧lR pl ∧
 (∀ H',ai H H'→Q .non H')∧(∀ v n o1 o2 wy H',ai H H'→kW H' v (.sew n o1 o2 wy)→xg (.sew n o1 o2 wy)→DdN (.sew n o1 o2 wy)→Q (.ref v) H')
theorem ok_aM (T:Txt K mg t):aU P w K mg base CX0 3 t.f_aM t.d_aM ["_law_book","_law_pool","_law_some"] sp_aM:=by
 refine T.F_aM.ok sc_aM (fun vs H Q E h=>?_) (fun cdv A outer s H vs Q E hr h=>?_)
 ·obtain ⟨b,l,k,bk,pl,rfl,_⟩:=h; rfl
 ·obtain ⟨b,l,k,bk,pl,rfl,hb,lb,ok,hl,lp,po,zn,zs⟩:=h;refine aI (lH (i:=3) sc_aM.nd rfl (Or.inl rfl) (N:=["_law_name","_law_book"]) (cap:=[none,some 0]) rfl ⟨rfl,rfl,rfl,rfl,rfl,rfl⟩ (dP (pv 1)) (fun _ _ _=>(bC (i:=0) (show (["_law_name","_law_book"]:List Str).Nodup by decide +kernel) rfl (Or.inl rfl))) (fun _ _ _=>(Az (ib (fW (cP hr) (pv 0) (pv 1))))) (fun _ _ _=>(pv 0)) (by rfl)) fun _ _=>aI (eQ PassesOwn.never rfl (dP (aW (fT rfl) rfl T.no_list (by rfl) (aa (pv 0) af))) (bC (i:=4) sc_aM.nd rfl (Or.inl rfl)) (aj (eQ PassesOwn.never rfl (dP (aW (fT rfl) rfl T.no_list (by rfl) (aa (pv 0) af))) (bC (i:=5) sc_aM.nd rfl (Or.inl rfl)) (aj (eQ PassesOwn.never rfl (Cu (bq (aa av (aa av af)))) (bC (i:=6) sc_aM.nd rfl (Or.inl rfl)) (aJ (aF (i:=7) sc_aM.nd rfl (Or.inl rfl) (ar (aq K rfl) (aC (ok_bd T) (hr.mono (by first | decide | omega)) rfl T.mg_bd T.F_bd.kp T.b_bd .nil aS (aa (gH (cP hr) (pv 0) (pv 4) (fun _ _=>rfl)) (aa (gH (cP hr) (pv 0) (pv 5) (fun _ _=>rfl)) (aa (pv 6) af)))) ag (fun _ _=>rfl))) (aj (aL (PW.pt (eR (aD (qm hr.units) (pv 3) (bP af) (aG _)) (eR (aD bJ (aB bh (pv 2) ag) ag (aG _)) (eJ (aD bJ (pv 7) av (aG _)))))) (aj (ay (bq (aa av (aa (ar (aH K rfl) (pv 3) ag (fun _ _=>rfl)) (aa (pv 4) (aa (pv 5) (aa (pv 6) af)))))))) aA)))))))) fun _ _=>cK (ay eA) fun _ _=>?_;left;have po':∀ x∈pl.filter (fun n=>(aO bk n).isNone),PyData.strOk x=true∧x.cps.size≤1000:=fun x hx=>po x (List.mem_filter.mp hx).1;obtain ⟨kvs,eb,pw⟩:=id hb;refine ⟨⟨_,SqL.of hl⟩,fun fl nfl=>?_⟩;refine tT (K:=K) id (frV bk) (SqL.of hl) (by rw [List.length_map]; omega) nfl (fun x o H' Q' hx s1 qq=>?_) (fun x o H' Q' hx _ s1 qq=>?_) (fun H1 s1 e1=>?_)
  ·obtain ⟨n,hn,rfl⟩:=List.mem_map.mp hx;left;refine ⟨b,_,rfl,dB.k (k:=Sum.inr n) (s1 _ _ eb),?_⟩;rcases pw.get n with ⟨g1,g2⟩ | ⟨q1,c1,g1,g2,h1⟩
   ·rw [g1,Option.isSome_none];refine ⟨_,rfl,?_⟩;have:=qq _ (ai.refl _)
    rw [show frV bk (.str n)=(aO bk n).isNone from rfl,g2] at this;exact this
   ·rw [g1,Option.isSome_some];refine ⟨_,rfl,?_⟩;have:=qq _ (ai.refl _)
    rw [show frV bk (.str n)=(aO bk n).isNone from rfl,g2] at this;exact this
  ·left;exact qq _ (ai.refl _)
  rw [Ac] at e1;generalize pl.filter (fun n=>(aO bk n).isNone)=fr at e1 po';left;refine ⟨b,_,rfl,s1 _ _ eb,fun l1 n1=>?_⟩;rw [pw.keys];have s2:=ai.new (o:=HO.lst ((bk.map (·.1)).map V.str)) n1;have e2:=ae (H:=H1) (a:=l1) (o:=HO.lst ((bk.map (·.1)).map V.str));generalize upd H1 l1 (HO.lst ((bk.map (·.1)).map V.str))=H2 at s2 e2 ⊢;have s12:=s2;have s2:=s1.trans s2;have lm:((bk.map (·.1)).map V.str).length≤1000:=by rw [List.length_map,List.length_map]; omega
  have memk:∀ {i:Nat} {x:V},((bk.map (·.1)).map V.str)[i]?=some x→∃ n,x=.str n∧n∈bk.map (·.1):=fun {i x} h=>by
   obtain ⟨n,hn,rfl⟩:=List.mem_map.mp (List.mem_of_getElem? h);exact ⟨n,rfl,hn⟩
  refine ⟨_,rfl,⟨_,SqL.of e2⟩,?_⟩;refine ki (K:=K) (a:=l1) (xs:=(bk.map (·.1)).map V.str) (fun _ σ' H'=>∃ (o4 o5 o6 o7:Option V),σ'=[some (.ref b),some (.ref l),some (.int k),some (.ref fl),o4,o5,o6,o7]∧ai H2 H') ⟨none,none,none,none,rfl,ai.refl _⟩ (fun i σ' H' _ ⟨_,_,_,_,_,z⟩=>SqL.of (z _ _ e2)) ?_ ?_
  ·rintro i x σ' H3 hx ⟨o4,o5,o6,o7,rfl,s3⟩;obtain ⟨m1,rfl,hm1⟩:=memk hx;left;refine ⟨b,_,rfl,s3 _ _ (s2 _ _ eb),fun l2 n2=>?_⟩;rw [pw.keys];have s4:=ai.new (o:=HO.lst ((bk.map (·.1)).map V.str)) n2;have e4:=ae (H:=H3) (a:=l2) (o:=HO.lst ((bk.map (·.1)).map V.str));generalize upd H3 l2 (HO.lst ((bk.map (·.1)).map V.str))=H4 at s4 e4 ⊢;have s4:=s3.trans s4;refine ⟨_,rfl,⟨_,SqL.of e4⟩,?_⟩;refine ki (K:=K) (a:=l2) (xs:=(bk.map (·.1)).map V.str) (fun _ σ' H'=>∃ (o5 o6 o7:Option V),σ'=[some (.ref b),some (.ref l),some (.int k),some (.ref fl),some (.str m1),o5,o6,o7]∧ai H4 H') ⟨o5,o6,o7,rfl,ai.refl _⟩ (fun i σ' H' _ ⟨_,_,_,_,z⟩=>SqL.of (z _ _ e4)) ?_ ?_
   ·rintro i2 x2 σ' H5 hx2 ⟨o5,o6,o7,rfl,s5⟩;obtain ⟨m2,rfl,hm2⟩:=memk hx2;left;refine ⟨by show 2≤sizeLine; decide,fun wt nwt=>?_⟩;have swt:=ai.new (o:=HO.tup [V.str "col",V.str "row"]) nwt;have ewt:=ae (H:=H5) (a:=wt) (o:=HO.tup [V.str "col",V.str "row"]);generalize upd H5 wt (HO.tup [V.str "col",V.str "row"])=H6 at swt ewt ⊢;left;refine ⟨⟨_,SqT.of ewt⟩,?_⟩;have s6:=s5.trans swt;refine xK (K:=K) (a:=wt) (xs:=[V.str "col",V.str "row"]) (fun _ σ' H'=>∃ (o6 o7:Option V),σ'=[some (.ref b),some (.ref l),some (.int k),some (.ref fl),some (.str m1),some (.str m2),o6,o7]∧ai H6 H') ⟨o6,o7,rfl,ai.refl _⟩ (fun i σ' H' _ ⟨_,_,_,z⟩=>SqT.of (z _ _ ewt)) ?_ ?_
    ·rintro i3 x3 σ' H7 hx3 ⟨o6,o7,rfl,s7⟩;obtain ⟨wy,rfl,ow⟩:∃ wy,x3=.str wy∧PyData.strOk wy=true:=by
      match i3,hx3 with
      | 0,e=>cases e; exact ⟨_,rfl,by decide +kernel⟩
      | 1,e=>cases e; exact ⟨_,rfl,by decide +kernel⟩
      | i+2,e=>cases e
     have sa:=s2.trans (s4.trans (s6.trans s7));obtain ⟨kv1,q1,c1,f1,g1,h1,p1⟩:=(hb.mono sa).at hm1;obtain ⟨kv2,q2,c2,f2,g2,h2,p2⟩:=(hb.mono sa).at hm2;left;refine ⟨b,.ref q1,rfl,by rw [← g1]; exact dB.k (k:=Sum.inr m1) f1,?_⟩;left;refine ⟨b,.ref q2,rfl,by rw [← g2]; exact dB.k (k:=Sum.inr m2) f2,?_⟩;left;refine ⟨q1,q2,wy,c1,c2,rfl,p1,p2,ok.get h1,ok.get h2,ow,fun tp v H8 s8 et _=>?_⟩;left;refine ak (SqT.of et) (bY (j:=0) rfl) ?_;left;have goon:∀ {H':Hp},ai H8 H'→∃ (o6 o7:Option V),([some (.ref b),some (.ref l),some (.int k),some (.ref fl),some (.str m1),some (.str m2),some (.str wy),some (.str (unW c1 c2 wy))]:L2.St)=[some (.ref b),some (.ref l),some (.int k),some (.ref fl),some (.str m1),some (.str m2),o6,o7]∧ai H6 H':=fun z=>⟨_,_,rfl,s7.trans (s8.trans z)⟩
     refine ⟨by show 0≤sizeLine; decide,fun em nem=>?_⟩;have sem:=ai.new (o:=HO.lst []) nem;have eem:=ae (H:=H8) (a:=em) (o:=HO.lst []);generalize upd H8 em (HO.lst [])=H9 at sem eem ⊢
     have s9:ai H1 H9:=by
      refine ai.trans ?_ (s4.trans (s6.trans (s7.trans (s8.trans sem))));exact s12
     refine uu (s9 _ _ e1) eem (fun x hx=>(po' x hx).1) ?_;refine ⟨_,rfl,?_⟩
     cases fr with
     | nil =>
      rw [decide_eq_true rfl];left;exact goon sem
     | cons f0 fr =>
      rw [decide_eq_false (fun z=>nomatch z)];left;refine bR (by decide) ?_;left;refine eY (fun _=>?_) (fun _=>?_)
      rotate_left
      ·left;exact goon sem
      left;refine eY (fun _=>?_) (fun _=>?_)
      rotate_left
      ·left;exact goon sem
      left;refine aQ (SqL.of (s9 _ _ e1)) (bY (j:=0) rfl) ?_;left;refine ⟨by show 5≤sizeLine; decide,fun dt ndt=>?_⟩;have sdt:=ai.new (o:=HO.tup [V.str "sew",V.str f0,V.str m1,V.str m2,V.str wy]) ndt;have edt:=ae (H:=H9) (a:=dt) (o:=HO.tup [V.str "sew",V.str f0,V.str m1,V.str m2,V.str wy]);generalize upd H9 dt (HO.tup [V.str "sew",V.str f0,V.str m1,V.str m2,V.str wy])=HA at sdt edt ⊢;have of0:=po' f0 List.mem_cons_self;exact zs dt f0 m1 m2 wy HA (s1.trans (s9.trans sdt)) edt ⟨of0.2,ow⟩ of0.1
    ·rintro σ' H' ⟨o6,o7,rfl,z⟩;exact ⟨_,_,_,rfl,s6.trans z⟩
   ·rintro σ' H' ⟨o5,o6,o7,rfl,z⟩;exact ⟨_,_,_,_,rfl,s4.trans z⟩
  ·rintro σ' H' ⟨o4,o5,o6,o7,rfl,z⟩;left;exact zn _ (s2.trans z)
def sp_aT:Sp:=fun vs H Q _=>∃ (q b l:Addr) (zs:List Int) (bk:Bk) (pl:List Str),vs=[.ref q,.ref b,.ref l]∧H q=some (.lst (zs.map V.int))∧10≤zs.length∧LB H b bk∧bk.length≤900∧rD bk∧jd bk∧H l=some (.lst (pl.map V.str))∧0<pl.length∧pl.length≤100∧lR pl ∧
 ∀ v dd H',ai H H'→kW H' v dd→xg dd→DdN dd→Q (.ref v) H'
theorem ok_aT (T:Txt K mg t):aU P w K mg base CX0 4 t.f_aT t.d_aT ["_law_some","_law_book","_law_pool"] sp_aT:=by
 refine T.F_aT.ok sc_aT (fun vs H Q E h=>?_) (fun cdv A outer s H vs Q E hr h=>?_)
 ·obtain ⟨q,b,l,zs,bk,pl,rfl,_⟩:=h; rfl
 ·obtain ⟨q,b,l,zs,bk,pl,rfl,hq,lz,hb,lb,ob,nb,hl,p0,p1,po,z⟩:=h;refine aI (aF (i:=3) sc_aT.nd rfl (Or.inl rfl) (aC (ok_aC T) (hr.mono (by first | decide | omega)) rfl T.mg_aC T.F_aC.kp T.b_aC .nil aS (aa (pv 0) (aa (pv 1) (aa (pv 2) af))))) fun _ _=>aI (aF (i:=4) sc_aT.nd rfl (Or.inl rfl) (aC (ok_aM T) (hr.mono (by first | decide | omega)) rfl T.mg_aM T.F_aM.kp T.b_aM .nil aS (aa (pv 1) (aa (pv 2) (aa (ar (aH K rfl) (pv 0) ag (fun _ _=>rfl)) af))))) fun _ _=>aI (aL (PW.pt (eR (aD bJ (ar (aq K rfl) (pv 3) ag (fun _ _=>rfl)) av (aG _)) (eJ (aD u4 (pv 4) eA (aG _))))) (aj (ay (pv 4))) aA) fun _ _=>cK (ay (pv 3)) fun _ _=>?_;left;refine ⟨q,b,l,zs,bk,pl,rfl,hq,lz,hb,lb,nb,hl,p0,p1,po,fun v dd H1 s1 hd od nd=>?_⟩;left;refine aQ (SqL.of (s1 _ _ hq)) (cw (i:=9) (by decide) (by omega)) ?_;left;obtain ⟨nm,dw,e1⟩:∃ nm dw,H1 v=some (.tup (.str nm::dw)):=by
   cases dd with
   | lay n c=>obtain ⟨q,h1,_⟩:=hd; exact ⟨_,_,h1⟩
   | _=>exact ⟨_,_,hd⟩
  refine ⟨b,l,_,bk,pl,rfl,hb.mono s1,lb,ob,s1 _ _ hl,p1,po,fun H2 s2=>?_,fun v2 n o1 o2 wy H2 s2 hd2 od2 nd2=>?_⟩
  ·left;refine ak (SqT.of (s2 _ _ e1)) (bY (j:=0) rfl) ?_;left;refine eY (fun _=>?_) (fun _=>?_)
   ·left;refine ⟨rfl,_,rfl,?_⟩;rw [decide_eq_true rfl];left;exact z v dd H2 (s1.trans s2) (hd.mono s2) od nd
   ·left;exact z v dd H2 (s1.trans s2) (hd.mono s2) od nd
  ·left;refine ak (SqT.of (s2 _ _ e1)) (bY (j:=0) rfl) ?_;left;refine eY (fun _=>?_) (fun _=>?_)
   ·left;refine ⟨rfl,_,rfl,?_⟩;rw [decide_eq_false (fun z=>nomatch z)];left;exact z v2 _ H2 (s1.trans s2) hd2 od2 nd2
   ·left;exact z v dd H2 (s1.trans s2) (hd.mono s2) od nd
def lS (H:Hp) (ds:List Addr) (bks:List Bk):Prop:=ds.length=bks.length∧∀ (i:Nat) d bk,ds[i]?=some d→bks[i]?=some bk→LB H d bk
def LBs (H:Hp) (x:Addr) (bks:List Bk):Prop:=∃ ds:List Addr,H x=some (.lst (ds.map V.ref))∧lS H ds bks
theorem lS.mono {H H':Hp} {ds:List Addr} {bks:List Bk} (s:ai H H') (h:lS H ds bks):lS H' ds bks:=⟨h.1,fun i d bk h1 h2=>(h.2 i d bk h1 h2).mono s⟩
theorem LBs.mono {H H':Hp} {x:Addr} {bks:List Bk} (s:ai H H') (h:LBs H x bks):LBs H' x bks:=by
 obtain ⟨ds,e,p⟩:=h; exact ⟨ds,s _ _ e,p.mono s⟩
theorem lS.pop {H:Hp} {ds:List Addr} {bks:List Bk} {bk:Bk} (h:lS H ds (bks++[bk])):∃ es d,ds=es++[d]∧lS H es bks∧LB H d bk:=by
 have hl:=h.1;rw [List.length_append,List.length_singleton] at hl;rcases List.eq_nil_or_concat ds with z | ⟨es,d,rfl⟩
 ·subst z; simp at hl
 ·rw [List.concat_eq_append] at h hl ⊢;rw [List.length_append,List.length_singleton] at hl;have le:es.length=bks.length:=by omega
  refine ⟨es,d,rfl,⟨le,fun i d' bk' h1 h2=>?_⟩,?_⟩
  ·have hi:=(List.getElem?_eq_some_iff.mp h1).1;exact h.2 i d' bk' (by rw [List.getElem?_append_left hi]; exact h1) (by rw [List.getElem?_append_left (by omega)]; exact h2)
  ·exact h.2 es.length d bk (by rw [List.getElem?_append_right (Nat.le_refl _),Nat.sub_self]; rfl) (by rw [le,List.getElem?_append_right (Nat.le_refl _),Nat.sub_self]; rfl)
theorem lS.snoc {H:Hp} {ds:List Addr} {bks:List Bk} {d:Addr} {bk:Bk} (h:lS H ds bks) (hd:LB H d bk):lS H (ds++[d]) (bks++[bk]):=by
 refine ⟨by rw [List.length_append,List.length_append,h.1]; rfl,fun i d' bk' h1 h2=>?_⟩;have hl:=h.1;rcases Nat.lt_or_ge i ds.length with hi | hi
 ·rw [List.getElem?_append_left hi] at h1;rw [List.getElem?_append_left (by omega)] at h2;exact h.2 i d' bk' h1 h2
 ·rw [List.getElem?_append_right hi] at h1;rw [List.getElem?_append_right (by omega)] at h2;rw [← hl] at h2;generalize i - ds.length=j at h1 h2
  match j,h1,h2 with
  | 0, h1, h2 => cases h1; cases h2; exact hd
  | j + 1, h1, _ => cases h1
def iZ (H:Hp) (v:Addr) (S:Sts):Prop:=∃ x b y,H v=some (.tup [.ref x,.ref b,.ref y])∧LBs H x S.1∧LB H b S.2.1∧LBs H y S.2.2
theorem iZ.mono {H H':Hp} {v:Addr} {S:Sts} (s:ai H H') (h:iZ H v S):iZ H' v S:=by
 obtain ⟨x,b,y,e,h1,h2,h3⟩:=h; exact ⟨x,b,y,s _ _ e,h1.mono s,h2.mono s,h3.mono s⟩
def msk (S:List Addr) (H:Hp):Hp:=fun a=>if a∈S then none else H a
theorem dk {S:List Addr} {H:Hp}:ai (msk S H) H:=fun a o e=>by
 unfold msk at e
 split at e
 ·cases e
 ·exact e
theorem cx {S:List Addr} {H:Hp} {a:Addr} {o:HO} (e:H a=some o) (n:a∉S):msk S H a=some o:=by unfold msk; rw [if_neg n]; exact e
theorem eg {S:List Addr} {H:Hp} {a:Addr} (n:a∈S):msk S H a=none:=by unfold msk; rw [if_pos n]
theorem jQ {S:List Addr} {B H H':Hp} (s:ai B H) (m:bN S H H') (n:∀ x∈S,B x=none):ai B H':=fun a o e=>m a o (s a o e) fun z=>by rw [n a z] at e; cases e
theorem fZ {S:List Addr} {B H:Hp} (s:ai B H) (n:∀ x∈S,B x=none):ai B (msk S H):=fun a o e=>cx (s a o e) fun z=>by rw [n a z] at e; cases e
theorem in3 {p la lb x:Addr} (h:x∈[p,la,lb]):x=p∨x=la∨x=lb:=by
 simp only [List.mem_cons,List.not_mem_nil,or_false] at h; exact h
structure Wo (C CH:Addr) (H:Hp) (p la lb:Addr) (S:Sts) (B:Hp):Prop where
 ch:cg C CH H p la lb S.1 S.2.1 S.2.2
 s:ai B H
 no:∀ x∈[p,la,lb],B x=none
section
variable {C CH:Addr} {H H' B:Hp} {p la lb:Addr} {S:Sts}
theorem cg.ex {past ahead:List Bk} {now:Bk} (h:cg C CH H p la lb past now ahead):∀ x∈[p,la,lb],∃ o,H x=some o∧∀ xs,o≠.tup xs:=fun x hx=>by
 obtain ⟨dx,fs,d,f1,_⟩:=h.ob;obtain ⟨ds,f2,_⟩:=h.pa;obtain ⟨es,f3,_⟩:=h.ah;rcases in3 hx with rfl | rfl | rfl
 ·exact ⟨_,f1,fun _ z=>nomatch z⟩
 ·exact ⟨_,f2,fun _ z=>nomatch z⟩
 ·exact ⟨_,f3,fun _ z=>nomatch z⟩
theorem Wo.mono (h:Wo C CH H p la lb S B) (s:ai H H'):Wo C CH H' p la lb S B:=⟨h.ch.mono s,h.s.trans s,h.no⟩
theorem Wo.all (h:Wo C CH H p la lb S B):Wo C CH H p la lb S (msk [p,la,lb] H)∧ai B (msk [p,la,lb] H):=⟨⟨h.ch,dk,fun x hx=>eg hx⟩,fZ h.s h.no⟩
theorem Wo.new (h:Wo C CH H p la lb S B) (s:ai H H') {a:Addr} {o:HO} (n:H a=none) (e:H' a=some o):msk [p,la,lb] H' a=some o:=cx e fun z=>by
 obtain ⟨o',f,_⟩:=h.ch.ex a z;rw [n] at f; cases f
theorem Wo.tup (h:Wo C CH H p la lb S B) {a:Addr} {xs:List V} (e:H a=some (.tup xs)):msk [p,la,lb] H a=some (.tup xs):=cx e fun z=>by
 obtain ⟨o',f,g⟩:=h.ch.ex a z;rw [e] at f; cases f; exact g _ rfl
end
theorem oP {xs:List V}:gp xs none (some (-1))=xs.dropLast:=by
 unfold gp;rw [HT.mM,List.drop_zero,List.dropLast_eq_take]
 congr 1
 unfold HT.sIx;simp
 omega
theorem z9 {a b:Str}:PyData.eqv (.list [.str a]) (.list [.str b])=decide (a=b):=by
 show ((a==b)&&true)=_
 rw [Bool.and_true]; rfl
theorem yM {H:Hp} {Q:VK} {a b:Addr} {x:Str} (ha:H a=some (.lst [.str x])) (hb:H b=some (.lst [.str x])) (o:PyData.strOk x=true) (q:Q (.bl false) H):wq true (.ref a) (.ref b) H Q:=by
 have sh:=qQ (ns:=[x]) fun y hy=>by rw [List.mem_singleton.mp hy]; exact o
 refine ⟨.list [.str x],.list [.str x],fu (ns:=[x]) ha,fu (ns:=[x]) hb,sh,sh,?_⟩;rw [z9,decide_eq_true rfl]; exact q
theorem yL {H:Hp} {Q:VK} {a b:Addr} (ha:H a=some (.lst [])) (hb:H b=some (.lst [])) (q:Q (.bl false) H):wq true (.ref a) (.ref b) H Q:=o9 (ns:=[]) (ms:=[]) ha hb q
section
variable {H:Hp} {Q:VK} {a b:Addr} {xs:List V}
theorem qr (ha:H a=some (.lst xs)) (hb:H b=some (.lst [])) (n:xs=[]) (q:Q (.bl true) H):CC false (.ref a) (.ref b) H Q:=⟨a,b,xs,rfl,rfl,ha,hb,by subst n; exact q⟩
theorem qt (ha:H a=some (.lst xs)) (hb:H b=some (.lst [])) (n:xs.isEmpty=false) (q:Q (.bl false) H):CC false (.ref a) (.ref b) H Q:=⟨a,b,xs,rfl,rfl,ha,hb,by rw [n]; exact q⟩
end
def sp_ax (C CH:Addr):Sp:=fun vs H Q _=>∃ (p la lb:Addr) (S:Sts) (B:Hp) (wd:Str) (x b y:Addr),vs=[.ref p,.str wd,.ref x,.ref b,.ref y]∧(wd="undo"∨wd="redo")∧Wo C CH H p la lb S B∧S.1.length≤900∧S.2.2.length≤900∧LBs B x S.1∧LB B b S.2.1∧LBs B y S.2.2 ∧
 ∀ v S' B' H',Mv wd S S'→ai B B'→Wo C CH H' p la lb S' B'→iZ B' v S'→Q (.ref v) H'
theorem ok_ax (T:Txt K mg t):aU P w K mg base CX0 13 t.f_ax t.d_ax ["_law_chest","_law_word","_law_past","_law_book","_law_ahead"] (sp_ax t.a_ai t.a_ae):=by
 refine T.F_ax.ok sc_ax (fun vs H Q E h=>?_) (fun cdv A outer s H vs Q E hr h=>?_)
 ·obtain ⟨p,la,lb,S,B,wd,x,b,y,rfl,_⟩:=h; rfl
 ·obtain ⟨p,la,lb,S,B,wd,x,b,y,rfl,hw,W,l1,l2,hx,hb,hy,z⟩:=h;obtain ⟨dx,ex,px⟩:=id hx;obtain ⟨dy,ey,py⟩:=id hy;refine aI (aF (i:=5) sc_ax.nd rfl (Or.inl rfl) (pv 2)) fun _ _=>aI (aL (aD bJ (pv 1) av (aG _)) (aj (aF (i:=5) sc_ax.nd rfl (Or.inl rfl) (pv 4))) aA) fun _ _=>aI (aF (i:=6) sc_ax.nd rfl (Or.inl rfl) (aC (xZ T) (hr.mono (by first | decide | omega)) rfl T.mg_Ldo T.F_Ldo.kp T.b_Ldo .nil aS (aa (pv 0) (aa (bq (aa (pv 1) af)) af)))) fun _ _=>aI (aL (aD (x4 hr.units) (pv 5) (bP af) (aG _)) (aJ (aL (aD (qm hr.units) (pv 6) (bP (aa av af)) (aG _)) (aj (ay eA)) aA) (aj (ay (bq (aa (pv 2) (aa (pv 3) (aa (pv 4) af))))))) aA) fun _ _=>aI (aL (aD (qm hr.units) (pv 6) (bP af) (aG _)) (aj (ay eA)) aA) fun _ _=>aI (aL (aD bJ (pv 1) av (aG _)) (aj (ay (bq (aa (aB eP (pv 2) (bP (aa (pv 3) af))) (aa (ar (aH K rfl) (pv 4) (sy nD ag) (fun _ _=>rfl)) (aa (bQ (cf K rfl) (pv 4) cj (bZ (sy nD ag))) af)))))) aA) fun _ _=>cK (ay (bq (aa (bQ (cf K rfl) (pv 2) cj (bZ (sy nD ag))) (aa (ar (aH K rfl) (pv 2) (sy nD ag) (fun _ _=>rfl)) (aa (aB eP (pv 4) (bP (aa (pv 3) af))) af))))) fun _ _=>?_;have stay:giv wd S=[]→∀ H1 v,ai H H1→H1 v=some (.tup [.ref x,.ref b,.ref y])→Q (.ref v) H1:=fun g H1 v s1 e1=>by
   have W1:=W.mono s1;obtain ⟨W2,s2⟩:=W1.all;exact z v S _ H1 (.inl ⟨g,rfl⟩) s2 W2 ⟨x,b,y,W1.tup e1,hx.mono s2,hb.mono s2,hy.mono s2⟩
  rcases hw with hw | hw
  ·subst hw;rw [gY] at stay;left;refine bf (by decide +kernel) ?_;left;refine ⟨by show 1≤sizeLine; decide,fun tw ntw=>?_⟩;have stw:=ai.new (o:=HO.tup [V.str "undo"]) ntw;have etw:=ae (H:=H) (a:=tw) (o:=HO.tup [V.str "undo"]);generalize upd H tw (HO.tup [V.str "undo"])=H1 at stw etw ⊢;left;refine .inr ⟨p,la,lb,tw,S,"undo",rfl,etw,.inl rfl,W.ch.mono stw,l1,l2,fun g l H2 s2 el=>?_,fun S' m1 l H2 m2 ch el=>?_⟩
   ·rw [gY] at g;left;refine ⟨by show 0≤sizeLine; decide,fun em nem=>?_⟩;have sem:=ai.new (o:=HO.lst []) nem;have eem:=ae (H:=H2) (a:=em) (o:=HO.lst []);generalize upd H2 em (HO.lst [])=H3 at sem eem ⊢;have s3:=stw.trans (s2.trans sem);have:dx.length=0:=by rw [px.1,g]; rfl
    refine qr (s3 _ _ (W.s _ _ ex)) eem (by rw [List.eq_nil_of_length_eq_zero this]; rfl) ?_;left;refine ⟨by show 1≤sizeLine; decide,fun le nle=>?_⟩;have sle:=ai.new (o:=HO.lst [V.str "left"]) nle;have ele:=ae (H:=H3) (a:=le) (o:=HO.lst [V.str "left"]);generalize upd H3 le (HO.lst [V.str "left"])=H4 at sle ele ⊢;refine yM (sle _ _ (sem _ _ el)) ele (by decide +kernel) ?_;left;refine ⟨by show 3≤sizeLine; decide,fun v nv=>?_⟩;have sv:=ai.new (o:=HO.tup [V.ref x,V.ref b,V.ref y]) nv;have ev:=ae (H:=H4) (a:=v) (o:=HO.tup [V.ref x,V.ref b,V.ref y]);generalize upd H4 v (HO.tup [V.ref x,V.ref b,V.ref y])=H5 at sv ev ⊢;exact stay g H5 v (s3.trans (sle.trans sv)) ev
   ·have s2:=jQ (W.s.trans stw) m2 W.no;have W2:Wo t.a_ai t.a_ae H2 p la lb S' B:=⟨ch,s2,W.no⟩
    rcases id m1 with ⟨_,ps,b',e1,e2⟩ | ⟨e,_⟩
    rotate_left
    ·exact absurd e (by decide +kernel)
    rw [e1] at px;obtain ⟨es,d,rfl,pe,hd⟩:=px.pop;left;refine ⟨by show 0≤sizeLine; decide,fun em nem=>?_⟩;have sem:=ai.new (o:=HO.lst []) nem;have eem:=ae (H:=H2) (a:=em) (o:=HO.lst []);generalize upd H2 em (HO.lst [])=H3 at sem eem ⊢;refine qt (sem _ _ (s2 _ _ ex)) eem (by simp) ?_;left;refine ⟨by show 0≤sizeLine; decide,fun em2 nem2=>?_⟩;have sem2:=ai.new (o:=HO.lst []) nem2;have eem2:=ae (H:=H3) (a:=em2) (o:=HO.lst []);generalize upd H3 em2 (HO.lst [])=H4 at sem2 eem2 ⊢;refine yL (sem2 _ _ (sem _ _ el)) eem2 ?_;left;refine bf (by decide +kernel) ?_;left;have s4:=sem.trans sem2;refine di (s4 _ _ (s2 _ _ ex)) fun x2 H5 s5 n5 e5=>?_;rw [oP,List.map_append,show [d].map V.ref=[V.ref d] from rfl,List.dropLast_concat] at e5;left;refine aQ (SqL.of (s5 _ _ (s4 _ _ (s2 _ _ ex)))) (by rw [List.map_append]; exact rG _ _) ?_;left;refine ⟨by show 1≤sizeLine; decide,fun nb nnb=>?_⟩;have snb:=ai.new (o:=HO.lst [V.ref b]) nnb;have enb:=ae (H:=H5) (a:=nb) (o:=HO.lst [V.ref b]);generalize upd H5 nb (HO.lst [V.ref b])=H6 at snb enb ⊢;have s6:=s4.trans (s5.trans snb);refine eK (s6 _ _ (s2 _ _ ey)) enb (by rw [List.length_map,py.1]; exact Nat.le_trans (Nat.add_le_add_right l2 1) (by decide)) fun y2 H7 s7 n7 e7=>?_;left;refine ⟨by show 3≤sizeLine; decide,fun v nv=>?_⟩;have sv:=ai.new (o:=HO.tup [V.ref x2,V.ref d,V.ref y2]) nv;have ev:=ae (H:=H7) (a:=v) (o:=HO.tup [V.ref x2,V.ref d,V.ref y2]);generalize upd H7 v (HO.tup [V.ref x2,V.ref d,V.ref y2])=H8 at sv ev ⊢;have s8:=s6.trans (s7.trans sv);have W8:=W2.mono s8;obtain ⟨W9,s9⟩:=W8.all;have f5:=(W2.mono s4).new (s5.trans (snb.trans (s7.trans sv))) n5 (sv _ _ (s7 _ _ (snb _ _ e5)));have f7:=(W2.mono s6).new (s7.trans sv) n7 (sv _ _ e7);subst e2;refine z v _ _ H8 m1.mv s9 W9 ⟨x2,d,y2,W8.tup ev,⟨es,f5,pe.mono s9⟩,hd.mono s9,⟨dy++[b],by rw [List.map_append]; exact f7,(py.mono s9).snoc (hb.mono s9)⟩⟩
  ·subst hw;rw [gX] at stay;left;refine bO (by decide +kernel) ?_;left;refine ⟨by show 1≤sizeLine; decide,fun tw ntw=>?_⟩;have stw:=ai.new (o:=HO.tup [V.str "redo"]) ntw;have etw:=ae (H:=H) (a:=tw) (o:=HO.tup [V.str "redo"]);generalize upd H tw (HO.tup [V.str "redo"])=H1 at stw etw ⊢;left;refine .inr ⟨p,la,lb,tw,S,"redo",rfl,etw,.inr rfl,W.ch.mono stw,l1,l2,fun g l H2 s2 el=>?_,fun S' m1 l H2 m2 ch el=>?_⟩
   ·rw [gX] at g;left;refine ⟨by show 0≤sizeLine; decide,fun em nem=>?_⟩;have sem:=ai.new (o:=HO.lst []) nem;have eem:=ae (H:=H2) (a:=em) (o:=HO.lst []);generalize upd H2 em (HO.lst [])=H3 at sem eem ⊢;have s3:=stw.trans (s2.trans sem);have:dy.length=0:=by rw [py.1,g]; rfl
    refine qr (s3 _ _ (W.s _ _ ey)) eem (by rw [List.eq_nil_of_length_eq_zero this]; rfl) ?_;left;refine ⟨by show 1≤sizeLine; decide,fun le nle=>?_⟩;have sle:=ai.new (o:=HO.lst [V.str "left"]) nle;have ele:=ae (H:=H3) (a:=le) (o:=HO.lst [V.str "left"]);generalize upd H3 le (HO.lst [V.str "left"])=H4 at sle ele ⊢;refine yM (sle _ _ (sem _ _ el)) ele (by decide +kernel) ?_;left;refine ⟨by show 3≤sizeLine; decide,fun v nv=>?_⟩;have sv:=ai.new (o:=HO.tup [V.ref x,V.ref b,V.ref y]) nv;have ev:=ae (H:=H4) (a:=v) (o:=HO.tup [V.ref x,V.ref b,V.ref y]);generalize upd H4 v (HO.tup [V.ref x,V.ref b,V.ref y])=H5 at sv ev ⊢;exact stay g H5 v (s3.trans (sle.trans sv)) ev
   ·have s2:=jQ (W.s.trans stw) m2 W.no;have W2:Wo t.a_ai t.a_ae H2 p la lb S' B:=⟨ch,s2,W.no⟩
    rcases id m1 with ⟨e,_⟩ | ⟨_,ps,b',e1,e2⟩
    ·exact absurd e (by decide +kernel)
    rw [e1] at py;obtain ⟨es,d,rfl,pe,hd⟩:=py.pop;left;refine ⟨by show 0≤sizeLine; decide,fun em nem=>?_⟩;have sem:=ai.new (o:=HO.lst []) nem;have eem:=ae (H:=H2) (a:=em) (o:=HO.lst []);generalize upd H2 em (HO.lst [])=H3 at sem eem ⊢;refine qt (sem _ _ (s2 _ _ ey)) eem (by simp) ?_;left;refine ⟨by show 0≤sizeLine; decide,fun em2 nem2=>?_⟩;have sem2:=ai.new (o:=HO.lst []) nem2;have eem2:=ae (H:=H3) (a:=em2) (o:=HO.lst []);generalize upd H3 em2 (HO.lst [])=H4 at sem2 eem2 ⊢;refine yL (sem2 _ _ (sem _ _ el)) eem2 ?_;left;refine bO (by decide +kernel) ?_;left;have s4:=sem.trans sem2;refine ⟨by show 1≤sizeLine; decide,fun nb nnb=>?_⟩;have snb:=ai.new (o:=HO.lst [V.ref b]) nnb;have enb:=ae (H:=H4) (a:=nb) (o:=HO.lst [V.ref b]);generalize upd H4 nb (HO.lst [V.ref b])=H5 at snb enb ⊢;have s5:=s4.trans snb;refine eK (s5 _ _ (s2 _ _ ex)) enb (by rw [List.length_map,px.1]; exact Nat.le_trans (Nat.add_le_add_right l1 1) (by decide)) fun x2 H6 s6 n6 e6=>?_;have s46:=s5.trans s6;left;refine aQ (SqL.of (s46 _ _ (s2 _ _ ey))) (by rw [List.map_append]; exact rG _ _) ?_;left;refine di (s46 _ _ (s2 _ _ ey)) fun y2 H7 s7 n7 e7=>?_;rw [oP,List.map_append,show [d].map V.ref=[V.ref d] from rfl,List.dropLast_concat] at e7;left;refine ⟨by show 3≤sizeLine; decide,fun v nv=>?_⟩;have sv:=ai.new (o:=HO.tup [V.ref x2,V.ref d,V.ref y2]) nv;have ev:=ae (H:=H7) (a:=v) (o:=HO.tup [V.ref x2,V.ref d,V.ref y2]);generalize upd H7 v (HO.tup [V.ref x2,V.ref d,V.ref y2])=H8 at sv ev ⊢;have s8:=s46.trans (s7.trans sv);have W8:=W2.mono s8;obtain ⟨W9,s9⟩:=W8.all;have f6:=(W2.mono s5).new (s6.trans (s7.trans sv)) n6 (sv _ _ (s7 _ _ e6));have f7:=(W2.mono s46).new (s7.trans sv) n7 (sv _ _ e7);subst e2;refine z v _ _ H8 m1.mv s9 W9 ⟨x2,d,y2,W8.tup ev,⟨dx++[b],by rw [List.map_append]; exact f6,(px.mono s9).snoc (hb.mono s9)⟩,hd.mono s9,⟨es,f7,pe.mono s9⟩⟩
theorem Ak {bk:Bk} {n:Str} {c:Clo} {nc:Str×Clo} (h:nc∈bW bk n c):nc.1=n∨∃ x∈bk,x.1=nc.1:=by
 unfold bW at h
 split at h
 ·obtain ⟨x,hx,rfl⟩:=List.mem_map.mp h
  split
  ·exact .inr ⟨x,hx,rfl⟩
  ·exact .inr ⟨x,hx,rfl⟩
 ·rcases List.mem_append.mp h with h | h
  ·exact .inr ⟨nc,h,rfl⟩
  ·rw [List.mem_singleton.mp h]; exact .inl rfl
theorem jd.put {bk:Bk} (h:jd bk) {n:Str} {c:Clo} (hn:PyData.strOk n=true):jd (bW bk n c):=fun nc hc=>by
 rcases Ak hc with e | ⟨x,hx,e⟩
 ·rw [e]; exact hn
 ·rw [← e]; exact h x hx
theorem ug {bk:Bk} (h:jd bk) {n:Str} (hn:PyData.strOk n=true) (f:Clo→Str×Clo):jd (eL bk n f).2∧(eL bk n f).2.length≤bk.length+2:=by
 unfold eL
 split
 ·exact ⟨h,Nat.le_add_right _ _⟩
 ·exact ⟨h.put hn,Nat.le_trans d8 (by omega)⟩
theorem Am {bk:Bk} (h:jd bk):∀ {dd:Dd},DdN dd→jd (bz bk dd).2∧(bz bk dd).2.length≤bk.length+2
 | .lay n c,d=>⟨h.put d,Nat.le_trans d8 (by omega)⟩
 | .drop n,d=>by
  simp only [bz]
  split
  ·exact ⟨fun nc hc=>h nc (List.mem_filter.mp hc).1,Nat.le_trans (List.length_filter_le _ _) (Nat.le_add_right _ _)⟩
  ·exact ⟨h,Nat.le_add_right _ _⟩
 | .turn n wy k,d=>ug h d _
 | .cut n wy k,d=>ug h d _
 | .put n wy k b,d=>ug h d _
 | .sew n o1 o2 wy,d=>by
  simp only [bz]
  split
  ·split
   ·exact ⟨h.put d,Nat.le_trans d8 (by omega)⟩
   ·exact ⟨h,Nat.le_add_right _ _⟩
  ·exact ⟨h,Nat.le_add_right _ _⟩
 | .part n wy k o,d=>by
  simp only [bz]
  split
  ·exact ⟨h,Nat.le_add_right _ _⟩
  ·split
   ·split
    ·exact ⟨(h.put d.1).put d.2,Nat.le_trans d8 (Nat.add_le_add_right d8 1)⟩
    ·exact ⟨h,Nat.le_add_right _ _⟩
   ·exact ⟨h,Nat.le_add_right _ _⟩
def xl (H:Hp) (p la lb:Addr):Prop:=(∃ C dx fs,H p=some (.ins C dx fs))∧(∃ φ,H la=some (.ext φ))∧∃ ψ,H lb=some (.ext ψ)
section
variable {H:Hp} {p la lb:Addr}
theorem vZ (h:xl H p la lb) {a:Addr} {o:HO} (e:H a=some o) (n1:∀ C dx fs,o≠.ins C dx fs) (n2:∀ φ,o≠.ext φ):msk [p,la,lb] H a=some o:=cx e fun z=>by
 obtain ⟨⟨C,dx,fs,h1⟩,⟨φ,h2⟩,ψ,h3⟩:=h;rcases in3 z with rfl | rfl | rfl
 ·rw [h1] at e; cases e; exact n1 _ _ _ rfl
 ·rw [h2] at e; cases e; exact n2 _ rfl
 ·rw [h3] at e; cases e; exact n2 _ rfl
theorem cU.msk {q:Addr} {c:Clo} (h:cU H q c) (f:xl H p la lb):cU (msk [p,la,lb] H) q c:=by
 obtain ⟨a,b,h1,h2,h3⟩:=h;exact ⟨a,b,vZ f h1 (fun _ _ _ z=>nomatch z) (fun _ z=>nomatch z),vZ f h2 (fun _ _ _ z=>nomatch z) (fun _ z=>nomatch z),vZ f h3 (fun _ _ _ z=>nomatch z) (fun _ z=>nomatch z)⟩
theorem LB.msk {b:Addr} {bk:Bk} (h:LB H b bk) (f:xl H p la lb):LB (msk [p,la,lb] H) b bk:=by
 obtain ⟨kvs,e,pw⟩:=h;exact ⟨kvs,vZ f e (fun _ _ _ z=>nomatch z) (fun _ z=>nomatch z),Paired.mapP pw fun _ _ ⟨z,q,e,r⟩=>⟨z,q,e,r.msk f⟩⟩
theorem kW.msk {v:Addr} {dd:Dd} (h:kW H v dd) (f:xl H p la lb):kW (msk [p,la,lb] H) v dd:=by
 cases dd with
 | lay n c=>obtain ⟨q,h1,h2⟩:=h; exact ⟨q,vZ f h1 (fun _ _ _ z=>nomatch z) (fun _ z=>nomatch z),h2.msk f⟩
 | _=>exact vZ f h (fun _ _ _ z=>nomatch z) (fun _ z=>nomatch z)
end
theorem Wo.aside {C CH:Addr} {H B:Hp} {p la lb:Addr} {S:Sts} (W:Wo C CH H p la lb S B):∃ xs ys,H la=some (.lst xs)∧∀ φ,upd H la (.ext φ) lb=some (.lst ys)∧∀ ψ,ai B (upd (upd H la (.ext φ)) lb (.ext ψ))∧∀ H3,ai (upd (upd H la (.ext φ)) lb (.ext ψ)) H3 →
  (H3 lb=some (.ext ψ)∧upd H3 lb (.lst ys) la=some (.ext φ))∧xl H3 p la lb∧Wo C CH (upd (upd H3 lb (.lst ys)) la (.lst xs)) p la lb S (msk [p,la,lb] H3)∧ai B (msk [p,la,lb] H3):=by
 obtain ⟨dx,fs,d,f1,_⟩:=W.ch.ob;obtain ⟨ds,f2,_⟩:=W.ch.pa;obtain ⟨es,f3,_⟩:=W.ch.ah;have n1:p≠la:=dY f1 f2 fun z=>nomatch z
 have n2:p≠lb:=dY f1 f3 fun z=>nomatch z
 have n3:la≠lb:=W.ch.ne;refine ⟨_,es.map V.ref,f2,fun φ=>⟨by rw [au (Ne.symm n3)]; exact f3,fun ψ=>?_⟩⟩;have sB:ai B (upd (upd H la (.ext φ)) lb (.ext ψ)):=(W.s.later (W.no la (by simp))).later (W.no lb (by simp));refine ⟨sB,fun H3 s3=>?_⟩;have h2:H3 lb=some (.ext ψ):=s3 _ _ ae;have h1:H3 la=some (.ext φ):=s3 _ _ (by rw [au n3]; exact ae);have h0:H3 p=some (.ins CH dx fs):=s3 _ _ (by rw [au n2,au n1]; exact f1);have sH:ai H (upd (upd H3 lb (.lst (es.map V.ref))) la (.lst (ds.map V.ref))):=fun a o e=>by
  by_cases za:a=la
  ·subst za; rw [ae,← f2]; exact e
  ·rw [au za];by_cases zb:a=lb
   ·subst zb; rw [ae,← f3]; exact e
   ·rw [au zb]; exact s3 _ _ (by rw [au zb,au za]; exact e)
 refine ⟨⟨h2,by rw [au n3]; exact h1⟩,⟨⟨_,_,_,h0⟩,⟨_,h1⟩,_,h2⟩,⟨W.ch.mono sH,fun a o e=>?_,fun x hx=>eg hx⟩,fZ (sB.trans s3) W.no⟩;by_cases za:a=la
 ·rw [za,eg (by simp)] at e; cases e
 by_cases zb:a=lb
 ·rw [zb,eg (by simp)] at e; cases e
 rw [au za,au zb]; exact dk a o e
theorem cg.bkOk {C CH:Addr} {H:Hp} {p la lb:Addr} {past ahead:List Bk} {now:Bk} (h:cg C CH H p la lb past now ahead):rD now:=by
 obtain ⟨dx,fs,d,-,-,kvs,-,pw⟩:=h.ob;clear h
 induction pw with
 | nil=>intro nc hn; cases hn
 | cons r _ ih =>
  intro nc hn;rcases List.mem_cons.mp hn with rfl | hn
  ·obtain ⟨_,x,_,_,z⟩:=r; exact z
  ·exact ih nc hn
theorem nj {S:Sts}:(sq S).length=S.1.length+1+S.2.2.length:=by unfold sq; rw [List.length_append,List.length_cons,List.length_reverse]; omega
theorem gA {S:Sts}:S.2.1∈sq S:=List.mem_append_right _ List.mem_cons_self
theorem Mv.sq {wd:Str} {S S':Sts} (h:Mv wd S S'):My.sq S'=My.sq S:=by
 rcases h with ⟨_,rfl⟩ | ⟨e,_⟩
 ·rfl
 ·exact e
def Stp (S S':Sts):Prop:=sq S'=sq S∨∃ nx:Bk,jd nx∧nx.length≤S.2.1.length+2∧S'=(S.1++[S.2.1],nx,[])
def sp_aR (C CH:Addr):Sp:=fun vs H Q _=>∃ (p la lb v lp lh:Addr) (S:Sts) (B:Hp) (hs:List Int) (pl:List Str),vs=[.ref p,.ref v,.ref lp,.ref lh]∧Wo C CH H p la lb S B∧iZ B v S∧B lp=some (.lst (pl.map V.str))∧B lh=some (.lst (hs.map V.int))∧10≤hs.length∧0<pl.length∧pl.length≤100∧lR pl∧jd S.2.1∧(sq S).length≤800∧S.2.1.length≤800 ∧
 ∀ v' lb' S' B' H',Stp S S'→ai B B'→Wo C CH H' p la lb' S' B'→iZ B' v' S'→Q (.ref v') H'
theorem ok_aR (T:Txt K mg t):aU P w K mg base CX0 14 t.f_aR t.d_aR ["_law_chest","_law_state","_law_pool","_law_here"] (sp_aR t.a_ai t.a_ae):=by
 refine T.F_aR.ok sc_aR (fun vs H Q E h=>?_) (fun cdv A outer s H vs Q E hr h=>?_)
 ·obtain ⟨p,la,lb,v,lp,lh,S,B,hs,pl,rfl,_⟩:=h; rfl
 ·obtain ⟨p,la,lb,v,lp,lh,S,B2,hs,pl,rfl,W2,hv,el,eh,lzs,lp0,lp1,po,nm,lsq,lnow,z⟩:=h;refine aI (aL (aD bJ (aB bh (ar (aH K rfl) (pv 3) ag (fun _ _=>rfl)) ag) ag (aG _)) (aJ (aF (i:=4) sc_aR.nd rfl (Or.inl rfl) (ar (aH K rfl) (bP (aa av (aa av af))) (aB bh (ar (aH K rfl) (pv 3) ag (fun _ _=>rfl)) ag) (fun _ _=>rfl))) (aj (ay (aC (ok_ax T) (hr.mono (by first | decide | omega)) rfl T.mg_ax T.F_ax.kp T.b_ax .nil aS (aa (pv 0) (aa (pv 4) (aa (ar (aq K rfl) (pv 1) ag (fun _ _=>rfl)) (aa (ar (aq K rfl) (pv 1) ag (fun _ _=>rfl)) (aa (ar (aq K rfl) (pv 1) ag (fun _ _=>rfl)) af))))))))) aA) fun _ _=>aI (fX (fX (aF (i:=5) sc_aR.nd rfl (Or.inl rfl) (aC (ok_aT T) (hr.mono (by first | decide | omega)) rfl T.mg_aT T.F_aT.kp T.b_aT .nil aS (aa (pv 3) (aa (ar (aq K rfl) (pv 1) ag (fun _ _=>rfl)) (aa (pv 2) af))))))) fun _ _=>aI (fX (fX (ky (aC (ok_aL T) (hr.mono (by first | decide | omega)) rfl T.mg_aL T.F_aL.kp T.b_aL .nil aS (aa (ar (aq K rfl) (pv 1) ag (fun _ _=>rfl)) (aa (pv 5) af))) (jL (n:=2) K rfl rfl (dv (bC (i:=4) sc_aR.nd rfl (Or.inl rfl)) (dv (bC (i:=6) sc_aR.nd rfl (Or.inl rfl)) jM)))))) fun _ _=>aI (c9 (aL (aD gQ (cO (x4 hr.units) (aC (xZ T) (hr.mono (by first | decide | omega)) rfl T.mg_Ldo T.F_Ldo.kp T.b_Ldo .nil aS (aa (pv 0) (aa (pv 5) af))) (bP af) (aG _)) (cO bJ (pv 4) av (aG _)) (aG _)) (aj (ay eA)) aA)) fun _ _=>aI (aL (aD gQ (pv 4) av (aG _)) (aj (ay (pv 1))) aA) fun _ _=>cK (ay (bq (aa (aB eP (ar (aq K rfl) (pv 1) ag (fun _ _=>rfl)) (bP (aa (ar (aq K rfl) (pv 1) ag (fun _ _=>rfl)) af))) (aa (pv 6) (aa (bP af) af))))) fun _ _=>?_;obtain ⟨x,b,y,ev,hx,hb,hy⟩:=id hv;have l1:=nj (S:=S);left;refine aQ (SqL.of (W2.s _ _ eh)) (cw (i:=9) (by decide) (by omega)) ?_;left;refine bR (by decide) ?_;left;refine eY (fun _=>?_) (fun _=>?_)
  ·left;refine ⟨by show 2≤sizeLine; decide,fun wl nwl=>?_⟩;have swl:=ai.new (o:=HO.lst [V.str "undo",V.str "redo"]) nwl;have ewl:=ae (H:=H) (a:=wl) (o:=HO.lst [V.str "undo",V.str "redo"]);generalize upd H wl (HO.lst [V.str "undo",V.str "redo"])=H3 at swl ewl ⊢;have W3:=W2.mono swl;left;refine aQ (SqL.of (W3.s _ _ eh)) (cw (i:=0) (by decide) (by omega)) ?_;left;refine bR (by decide) ?_;obtain ⟨wd,gw,hw⟩:∃ wd,atI [V.str "undo",V.str "redo"] (hs.getD (0:Int).toNat 0%2)=some (.str wd)∧(wd="undo"∨wd="redo"):=by
    rcases (by omega:hs.getD (0:Int).toNat 0%2=0∨hs.getD (0:Int).toNat 0%2=1) with e | e
    ·rw [e]; exact ⟨_,rfl,.inl rfl⟩
    ·rw [e]; exact ⟨_,rfl,.inr rfl⟩
   refine aQ (SqL.of ewl) gw ?_;left;refine ak (SqT.of (W3.s _ _ ev)) rfl ?_;left;refine ak (SqT.of (W3.s _ _ ev)) rfl ?_;left;refine ak (SqT.of (W3.s _ _ ev)) rfl ?_;left;exact ⟨p,la,lb,S,B2,wd,x,b,y,rfl,hw,W3,by omega,by omega,hx,hb,hy,fun v2 S2 B4 H5 mv sB2 W5 hv2=>z v2 lb S2 B4 H5 (.inl mv.sq) sB2 W5 hv2⟩
  generalize H=H2 at W2 ⊢;left;obtain ⟨xs,ys,f1,as⟩:=W2.aside;refine eM la xs f1 fun φ=>?_;obtain ⟨f2,as⟩:=as φ;refine eM lb ys f2 fun ψ=>?_;obtain ⟨sF,as⟩:=as ψ;generalize upd (upd H2 la (.ext φ)) lb (.ext ψ)=HF at sF as ⊢;left;refine ak (SqT.of (sF _ _ ev)) rfl ?_;left;refine ⟨lh,b,lp,hs,S.2.1,pl,rfl,sF _ _ eh,lzs,hb.mono sF,by omega,W2.ch.bkOk,nm,sF _ _ el,lp0,lp1,po,fun vd dd H3 s3 hd od nd=>?_⟩;obtain ⟨⟨g1,g2⟩,off,W3,sB3⟩:=as H3 s3;left;refine ⟨g1,g2,?_⟩;have hd:=hd.msk off;have hv:=hv.mono sB3;have ev:=sB3 _ _ ev;have hx:=hx.mono sB3;have hb:=hb.mono sB3;generalize msk [p,la,lb] H3=B3 at W3 sB3 hd hv ev hx hb;generalize upd (upd H3 lb (.lst ys)) la (.lst xs)=H4 at W3 ⊢;clear W2 as sF f1 f2 g1 g2 off s3 eh;left;obtain ⟨xs,ys,f1,as⟩:=W3.aside;refine eM la xs f1 fun φ=>?_;obtain ⟨f2,as⟩:=as φ;refine eM lb ys f2 fun ψ=>?_;obtain ⟨sF,as⟩:=as ψ;generalize upd (upd H4 la (.ext φ)) lb (.ext ψ)=HF at sF as ⊢;left;refine ak (SqT.of (sF _ _ ev)) rfl ?_;left;refine ⟨b,vd,S.2.1,dd,rfl,hb.mono sF,by omega,W3.ch.bkOk,hd.mono sF,od,fun tp f H5 s5 et hf=>?_⟩;obtain ⟨⟨g1,g2⟩,off,W4,sB4⟩:=as H5 s5;left;refine iU et rfl ?_;left;refine ⟨g1,g2,?_⟩;have hf:(bz S.2.1 dd).1=""→LB (msk [p,la,lb] H5) f (bz S.2.1 dd).2:=fun e=>(hf e).msk off;have hd:=hd.mono sB4;have hv:=hv.mono sB4;have ev:=sB4 _ _ ev;have hx:=hx.mono sB4;have hb:=hb.mono sB4;generalize msk [p,la,lb] H5=B4 at W4 sB4 hd hv ev hx hb hf;generalize upd (upd H5 lb (.lst ys)) la (.lst xs)=H6 at W4 ⊢;clear W3 as sF f1 f2 g1 g2 off s5 et hy;have nk:=Am nm nd;have sB34:=sB3.trans sB4;generalize hw:(bz S.2.1 dd).1=wd at hf ⊢;left;refine de (fun σ' H'=>∃ lb',σ'=[some (.ref p),some (.ref v),some (.ref lp),some (.ref lh),some (.str wd),some (.ref vd),some (.ref f)]∧Wo t.a_ai t.a_ae H' p la lb' (if wd="" then (S.1++[S.2.1],(bz S.2.1 dd).2,[]) else S) B4) ?_ ?_
  ·left;refine .inl ⟨p,la,lb,vd,S.1,S.2.2,S.2.1,dd,rfl,W4.ch,by omega,by omega,W4.ch.bkOk,hd.mono W4.s,od,fun hn l H7 s7 e7=>?_,fun hy l lb' H7 m7 n7 ch7 e7=>?_⟩
   ·rw [hw] at hn;left;refine ⟨by show 0≤sizeLine; decide,fun em nem=>?_⟩;have sem:=ai.new (o:=HO.lst []) nem;have eem:=ae (H:=H7) (a:=em) (o:=HO.lst []);generalize upd H7 em (HO.lst [])=H8 at sem eem ⊢;refine qt (sem _ _ e7) eem rfl ?_;left;rw [decide_eq_false hn];left;exact ⟨lb,rfl,by rw [if_neg hn]; exact W4.mono (s7.trans sem)⟩
   ·rw [hw] at hy;left;refine ⟨by show 0≤sizeLine; decide,fun em nem=>?_⟩;have sem:=ai.new (o:=HO.lst []) nem;have eem:=ae (H:=H7) (a:=em) (o:=HO.lst []);generalize upd H7 em (HO.lst [])=H8 at sem eem ⊢;refine qr (sem _ _ e7) eem rfl ?_;left;rw [decide_eq_true hy];left;refine ⟨lb',rfl,?_⟩;rw [if_pos hy];refine Wo.mono (H:=H7) ⟨ch7,jQ W4.s m7 (fun x hx=>W4.no x ?_),fun x hx=>?_⟩ sem
    ·simp only [List.mem_cons,List.not_mem_nil,or_false] at hx ⊢;exact hx.elim .inl fun z=>.inr (.inl z)
    ·rcases in3 hx with rfl | rfl | rfl
     ·exact W4.no _ (by simp)
     ·exact W4.no _ (by simp)
     ·exact W4.s.free n7
  rintro σ' H7 ⟨lb',rfl,W7⟩;left;refine jk ?_;by_cases e:wd=""
  rotate_left
  ·rw [decide_eq_false e];rw [if_neg e] at W7;left;exact z v lb' S B4 H7 (.inl rfl) sB34 W7 hv
  rw [decide_eq_true e];rw [if_pos e] at W7;have hf:=hf e;left;refine ak (SqT.of (W7.s _ _ ev)) rfl ?_;left;refine ak (SqT.of (W7.s _ _ ev)) rfl ?_;left;refine ⟨by show 1≤sizeLine; decide,fun nb nnb=>?_⟩;have snb:=ai.new (o:=HO.lst [V.ref b]) nnb;have enb:=ae (H:=H7) (a:=nb) (o:=HO.lst [V.ref b]);generalize upd H7 nb (HO.lst [V.ref b])=H8 at snb enb ⊢;obtain ⟨dx,ex,px⟩:=id hx;have W8:=W7.mono snb;refine eK (W8.s _ _ ex) enb (by rw [List.length_map,px.1]; exact Nat.le_trans (show S.1.length+1≤1000 by omega) (by decide)) fun x2 H9 s9 n9 e9=>?_;left;have W9:=W8.mono s9;refine ⟨by show 0≤sizeLine; decide,fun y2 ny2=>?_⟩;have sy2:=ai.new (o:=HO.lst []) ny2;have ey2:=ae (H:=H9) (a:=y2) (o:=HO.lst []);generalize upd H9 y2 (HO.lst [])=HA at sy2 ey2 ⊢;left;refine ⟨by show 3≤sizeLine; decide,fun v2 nv2=>?_⟩;have sv2:=ai.new (o:=HO.tup [V.ref x2,V.ref f,V.ref y2]) nv2;have ev2:=ae (H:=HA) (a:=v2) (o:=HO.tup [V.ref x2,V.ref f,V.ref y2]);generalize upd HA v2 (HO.tup [V.ref x2,V.ref f,V.ref y2])=HB at sv2 ev2 ⊢;have WB:=W9.mono (sy2.trans sv2);obtain ⟨WC,sBC⟩:=WB.all;exact z v2 lb' _ _ HB (.inr ⟨_,nk.1,nk.2,rfl⟩) (sB34.trans sBC) WC ⟨x2,f,y2,WB.tup ev2,⟨dx++[b],by rw [List.map_append]; exact W8.new (s9.trans (sy2.trans sv2)) n9 (sv2 _ _ (sy2 _ _ e9)),(px.mono sBC).snoc (hb.mono sBC)⟩,hf.mono sBC,⟨[],W9.new (sy2.trans sv2) ny2 (sv2 _ _ ey2),rfl,fun i d bk h=>by cases h⟩⟩
theorem CL.setA {fs:List (Str×V)} {d la la' lb:Addr} (h:CL fs d la lb):CL (cG "ahead_of_deeds" (.ref la') fs) d la' lb where
 c:=by rw [az,if_neg (by decide +kernel)]; exact h.c
 a:=by rw [az,if_pos rfl]
 b:=by rw [az,if_neg (by decide +kernel)]; exact h.b
 no:=fun m hm=>by rw [az,if_neg hm.2.1]; exact h.no m hm
 len:=by rw [jN (by rw [h.a]; rfl)]; exact h.len
def sp_aK (C CH:Addr):Sp:=fun vs H Q _=>∃ (p la lb:Addr) (past ahead:List Bk) (now:Bk),vs=[.ref p]∧cg C CH H p la lb past now ahead∧past.length≤900∧ahead.length≤900∧∀ p2 la2 lb2 H',ai H H'→H p2=none→H la2=none→H lb2=none→cg C CH H' p2 la2 lb2 past now ahead→Q (.ref p2) H'
theorem ok_aK (T:Txt K mg t):aU P w K mg base CX0 3 t.f_aK t.d_aK ["self"] (sp_aK t.a_ai t.a_ae):=by
 refine T.F_aK.ok sc_aK (fun vs H Q E h=>?_) (fun cdv A outer s H vs Q E hr h=>?_)
 ·obtain ⟨p,la,lb,past,ahead,now,rfl,_⟩:=h; rfl
 ·obtain ⟨p,la,lb,past,ahead,now,rfl,hc,l1,l2,z⟩:=h;obtain ⟨dxs,fss,d,es,cls,hd⟩:=hc.ob;obtain ⟨da,ea,pa⟩:=hc.pa;obtain ⟨db,eb,pb⟩:=hc.ah;refine aI (aF (i:=1) sc_aK.nd rfl (Or.inl rfl) (sx T.mk_ae (ok_aQ T) (hr.mono (by first | decide | omega)) rfl T.mg_ae T.b_aQ .nil aS )) fun _ _=>aI (dC (pv 1) (bB K rfl (pv 0) rfl) rfl) fun _ _=>aI (dC (pv 1) (aW (dj K rfl) rfl T.no_list (by rfl) (aa (bB K rfl (pv 0) rfl) af)) rfl) fun _ _=>aI (dC (pv 1) (aW (dj K rfl) rfl T.no_list (by rfl) (aa (bB K rfl (pv 0) rfl) af)) rfl) fun _ _=>cK (ay (pv 1)) fun _ _=>?_;left;intro p2 dx np ndx nex;have sI:ai H (upd (upd H dx (.own p2)) p2 (.ins t.a_ae dx [])):=(ai.new ndx).later np;refine ⟨p2,dx,rfl,ae,fun la0 lb0 H1 mD nla nlb ch0=>⟨rfl,?_⟩⟩;have s1:ai H H1:=fun a o e=>mD a o (sI a o e) fun h=>by rw [List.mem_singleton.mp h,np] at e; cases e
  obtain ⟨dx0,fs0,d0,e0,cl0,_⟩:=ch0.ob;clear mD nla nlb ch0 sI nex ndx;left;refine bD (s1 _ _ es) T.cl_ae T.naC_cloths cls.c ?_;left;refine cA e0 T.cl_ae T.naC_cloths (by have:=cl0.len; omega) ?_;have cl1:=cl0.setC (d':=d);generalize cG (Str.ofString "cloths") (.ref d) fs0=fs1 at cl1 ⊢;have s2:=s1.later (o:=.ins t.a_ae dx0 fs1) np;have e2:=ae (H:=H1) (a:=p2) (o:=.ins t.a_ae dx0 fs1);generalize upd H1 p2 (.ins t.a_ae dx0 fs1)=H2 at s2 e2 ⊢;left;refine bD (s2 _ _ es) T.cl_ae T.naC_ahead_of_deeds cls.a ?_;left;refine ig (s2 _ _ ea) fun la2 n3=>?_;have s3:=ai.new (o:=HO.lst (da.map V.ref)) n3;have f3:=ae (H:=H2) (a:=la2) (o:=HO.lst (da.map V.ref));generalize upd H2 la2 (HO.lst (da.map V.ref))=H3 at s3 f3 ⊢;have n3':=s2.free n3;have e3:=s3 _ _ e2;have pl:la2≠p2:=dY f3 e3 fun z=>nomatch z
  have s3:=s2.trans s3;left;refine cA e3 T.cl_ae T.naC_ahead_of_deeds (by have:=cl1.len; omega) ?_;have cl2:=cl1.setA (la':=la2);generalize cG (Str.ofString "ahead_of_deeds") (.ref la2) fs1=fs2 at cl2 ⊢;have s4:=s3.later (o:=.ins t.a_ae dx0 fs2) np;have e4:=ae (H:=H3) (a:=p2) (o:=.ins t.a_ae dx0 fs2);have f4:upd H3 p2 (.ins t.a_ae dx0 fs2) la2=some (.lst (da.map V.ref)):=by rw [au pl]; exact f3
  generalize upd H3 p2 (.ins t.a_ae dx0 fs2)=H4 at s4 e4 f4 ⊢;left;refine bD (s4 _ _ es) T.cl_ae T.naC_behind_undone cls.b ?_;left;refine ig (s4 _ _ eb) fun lb2 n5=>?_;have s5:=ai.new (o:=HO.lst (db.map V.ref)) n5;have f5:=ae (H:=H4) (a:=lb2) (o:=HO.lst (db.map V.ref));generalize upd H4 lb2 (HO.lst (db.map V.ref))=H5 at s5 f5 ⊢;have n5':=s4.free n5;have lab:la2≠lb2:=fun z=>by rw [z,n5] at f4; cases f4
  have g5:=s5 _ _ f4;have e5:=s5 _ _ e4;have pl2:lb2≠p2:=dY f5 e5 fun z=>nomatch z
  have s5:=s4.trans s5;left;refine cA e5 T.cl_ae T.naC_behind_undone (by have:=cl2.len; omega) ?_;have cl3:=cl2.setB (lb':=lb2);generalize cG (Str.ofString "behind_undone") (.ref lb2) fs2=fs3 at cl3 ⊢;have s6:=s5.later (o:=.ins t.a_ae dx0 fs3) np;have e6:=ae (H:=H5) (a:=p2) (o:=.ins t.a_ae dx0 fs3);have f6:upd H5 p2 (.ins t.a_ae dx0 fs3) lb2=some (.lst (db.map V.ref)):=by rw [au pl2]; exact f5
  have g6:upd H5 p2 (.ins t.a_ae dx0 fs3) la2=some (.lst (da.map V.ref)):=by rw [au pl]; exact g5
  generalize upd H5 p2 (.ins t.a_ae dx0 fs3)=H6 at s6 e6 f6 g6 ⊢;left;exact z p2 la2 lb2 H6 s6 np n3' n5' ⟨⟨dx0,fs3,d,e6,cl3,hd.mono s6⟩,⟨da,g6,pa.mono s6⟩,⟨db,f6,pb.mono s6⟩,lab⟩
def Ok4:PyData→Prop:=OkS Ok3
theorem wa (T:Txt K mg t):aU P w K mg base CX0 4 t.f_ba t.d_ba ["_law_told_here","_law_due"] (lM Ok4):=iV T (ok_ba T)
def sp_aH (C CH:Addr):Sp:=fun vs H Q _=>∃ (p la lb v:Addr) (S:Sts),vs=[.ref p,.ref v]∧cg C CH H p la lb S.1 S.2.1 S.2.2∧iZ H v S∧jd S.2.1∧S.2.1.length≤900∧∀ H',ai H H'→Q (.bl true) H'
theorem ok_aH (T:Txt K mg t):aU P w K mg base CX0 5 t.f_aH t.d_aH ["_law_chest","_law_state"] (sp_aH t.a_ai t.a_ae):=by
 refine T.F_aH.ok sc_aH (fun vs H Q E h=>?_) (fun cdv A outer s H vs Q E hr h=>?_)
 ·obtain ⟨p,la,lb,v,S,rfl,_⟩:=h; rfl
 ·obtain ⟨p,la,lb,v,S,rfl,ch,hv,nm,ln,z⟩:=h;obtain ⟨x,b,y,ev,hx,hb,hy⟩:=id hv;obtain ⟨dx,ex,px⟩:=id hx;obtain ⟨dy,ey,py⟩:=id hy;obtain ⟨dx1,fs1,d1,f1,f2,_⟩:=ch.ob;refine aI (aL (aD uh (pv 1) eA (aG _)) (aj (ay h8)) aA) fun _ _=>aI (aL (cJ (bS (aC (ok_ba T) (hr.mono (by first | decide | omega)) rfl T.mg_ba T.F_ba.kp T.b_ba .nil aS (aa (bP (aa (aT (pv 0) T.cl_ae T.m_at (ok_at T) (hr.mono (by first | decide | omega)) T.b_at .nil aS) (aa (aT (pv 0) T.cl_ae T.m_as (ok_as T) (hr.mono (by first | decide | omega)) T.b_as .nil aS) af))) (aa (bP (aa (ax (bH K rfl) rfl T.no_len (by rfl) (aa (ar (aq K rfl) (pv 1) ag (fun _ _=>rfl)) af)) (aa (ax (bH K rfl) rfl T.no_len (by rfl) (aa (ar (aq K rfl) (pv 1) ag (fun _ _=>rfl)) af)) af))) af))))) (aj (ay h8)) aA) fun _ _=>cK (ay (aC (ok_aV T) (hr.mono (by first | decide | omega)) rfl T.mg_aV T.F_aV.kp T.b_aV .nil aS (aa (pv 0) (aa (ar (aq K rfl) (pv 1) ag (fun _ _=>rfl)) af)))) fun _ _=>?_;left;refine ⟨rfl,?_⟩;refine ⟨_,rfl,?_⟩;rw [decide_eq_false (fun z=>nomatch z)];left;refine aw f1 (f2.no _ (by decide +kernel)) ?_;left;refine ⟨p,la,lb,_,_,_,rfl,ch,?_⟩;left;refine aw f1 (f2.no _ (by decide +kernel)) ?_;left;refine ⟨p,la,lb,_,_,_,rfl,ch,?_⟩;left;refine ⟨by show 2≤sizeLine; decide,fun l1 nl1=>?_⟩;have sl1:=ai.new (o:=HO.lst [V.int (S.1.length:Nat),V.int (S.2.2.length:Nat)]) nl1;have el1:=ae (H:=H) (a:=l1) (o:=HO.lst [V.int (S.1.length:Nat),V.int (S.2.2.length:Nat)]);generalize upd H l1 (HO.lst [V.int (S.1.length:Nat),V.int (S.2.2.length:Nat)])=H1 at sl1 el1 ⊢;left;refine ak (SqT.of (sl1 _ _ ev)) rfl ?_;left;refine bI (sl1 _ _ ex) ?_;rw [List.length_map,px.1];left;refine ak (SqT.of (sl1 _ _ ev)) rfl ?_;left;refine bI (sl1 _ _ ey) ?_;rw [List.length_map,py.1];left;refine ⟨by show 2≤sizeLine; decide,fun l2 nl2=>?_⟩;have sl2:=ai.new (o:=HO.lst [V.int (S.1.length:Nat),V.int (S.2.2.length:Nat)]) nl2;have el2:=ae (H:=H1) (a:=l2) (o:=HO.lst [V.int (S.1.length:Nat),V.int (S.2.2.length:Nat)]);generalize upd H1 l2 (HO.lst [V.int (S.1.length:Nat),V.int (S.2.2.length:Nat)])=H2 at sl2 el2 ⊢;left;refine ⟨.ref l1,.ref l2,.list ([(S.1.length:Int),(S.2.2.length:Int)].map PyData.int),rfl,mn (by show 2≤1000; decide),fY (sl2 _ _ el1),fY el2,fun H3 s3=>?_⟩;have s13:=sl1.trans (sl2.trans s3);left;refine ak (SqT.of (s13 _ _ ev)) rfl ?_;left;exact ⟨p,la,lb,b,_,_,_,rfl,ch.mono s13,hb.mono s13,ch.bkOk,nm,ln,fun H4 s4=>z H4 (s13.trans s4)⟩
end
section
variable {C CH:Addr} {H H' B:Hp} {p la lb p2 la2 lb2:Addr}
theorem cg.but {S:List Addr} {past ahead:List Bk} {now:Bk} (h:cg C CH H p la lb past now ahead) (m:bN S H H') (ap:Apt C H S) (n:∀ x∈[p,la,lb],x∉S):cg C CH H' p la lb past now ahead:=by
 obtain ⟨dx,fs,d,e1,cl,hd⟩:=h.ob;obtain ⟨ds,e2,pd⟩:=h.pa;obtain ⟨as,e3,pa⟩:=h.ah;exact ⟨⟨dx,fs,d,m _ _ e1 (n p (by simp)),cl,hd.but m ap⟩,⟨ds,m _ _ e2 (n la (by simp)),pd.but m ap⟩,⟨as,m _ _ e3 (n lb (by simp)),pa.but m ap⟩,h.ne⟩
def kL (H:Hp) (x:Addr):Prop:=(∀ xs,H x≠some (.tup xs))∧(∀ kvs,H x≠some (.dK kvs))∧(∀ zs:List Int,H x≠some (.lst (zs.map V.int)))∧∀ (ds:List Addr) bks,H x=some (.lst (ds.map V.ref))→¬ lS H ds bks
theorem oG {x:Addr} {φ:Heap→Prop} (e:H x=some (.ext φ)):kL H x:=⟨(fun _ z=>by rw [e] at z; cases z),(fun _ z=>by rw [e] at z; cases z),(fun _ z=>by rw [e] at z; cases z),fun _ _ z=>by rw [e] at z; cases z⟩
theorem vC {x C' dx:Addr} {fs:List (Str×V)} (e:H x=some (.ins C' dx fs)):kL H x:=⟨(fun _ z=>by rw [e] at z; cases z),(fun _ z=>by rw [e] at z; cases z),(fun _ z=>by rw [e] at z; cases z),fun _ _ z=>by rw [e] at z; cases z⟩
theorem vD {x v1 v2:Addr} {xs:List V} (e:H x=some (.lst [.ref v1,.ref v2])) (e1:H v1=some (.tup xs)):kL H x:=by
 refine ⟨(fun _ z=>by rw [e] at z; cases z),(fun _ z=>by rw [e] at z; cases z),fun zs z=>?_,fun ds bks z pw=>?_⟩
 ·rw [e] at z
  match zs,z with
  | [], z => cases z
  | a :: r, z => cases z
 ·rw [e] at z
  match ds,bks,z,pw with
  | [], _, z, _ => cases z
  | d :: r, [], _, pw => have := pw.1; cases this
  | d :: r, b :: bs, z, pw =>
   have z:[V.ref v1,V.ref v2]=V.ref d::r.map V.ref:=by injection z with z; injection z
   injection z with z1 z2
   cases z1;obtain ⟨kvs,q,_⟩:=pw.2 0 v1 b rfl rfl;rw [e1] at q; cases q
section
variable {X:List Addr}
theorem cU.alien {q:Addr} {c:Clo} (h:cU H q c) (n:∀ x∈X,kL H x):cU (My.msk X H) q c:=by
 obtain ⟨a,b,h1,h2,h3⟩:=h;exact ⟨a,b,cx h1 fun z=>(n _ z).1 _ h1,cx h2 fun z=>(n _ z).2.2.1 _ h2,cx h3 fun z=>(n _ z).2.2.1 _ h3⟩
theorem LB.alien {b:Addr} {bk:Bk} (h:LB H b bk) (n:∀ x∈X,kL H x):LB (My.msk X H) b bk:=by
 obtain ⟨kvs,e,pw⟩:=h;exact ⟨kvs,cx e fun z=>(n _ z).2.1 _ e,Paired.mapP pw fun _ _ ⟨z,q,e,r⟩=>⟨z,q,e,r.alien n⟩⟩
theorem LBs.alien {x:Addr} {bks:List Bk} (h:LBs H x bks) (n:∀ x∈X,kL H x):LBs (msk X H) x bks:=by
 obtain ⟨ds,e,pw⟩:=h;exact ⟨ds,cx e fun z=>(n _ z).2.2.2 _ _ e pw,pw.1,fun i d bk h1 h2=>(pw.2 i d bk h1 h2).alien n⟩
theorem iZ.alien {v:Addr} {S:Sts} (h:iZ H v S) (n:∀ x∈X,kL H x):iZ (msk X H) v S:=by
 obtain ⟨x,b,y,e,h1,h2,h3⟩:=h;exact ⟨x,b,y,cx e fun z=>(n _ z).1 _ e,h1.alien n,h2.alien n,h3.alien n⟩
end
theorem zS {Pr:Addr→Prop} {st:Addr} (h1:∀ x∈[p,la,lb],Pr x) (h2:∀ x∈[p2,la2,lb2],Pr x) (h3:Pr st):∀ x∈[p,la,lb,p2,la2,lb2,st],Pr x:=fun x hx=>by
 rcases List.mem_append.mp (show x∈[p,la,lb]++([p2,la2,lb2]++[st]) from hx) with z | z
 ·exact h1 x z
 ·rcases List.mem_append.mp z with z | z
  ·exact h2 x z
  ·rw [List.mem_singleton.mp z]; exact h3
theorem DB {a st:Addr} (h1:a∉[p,la,lb]) (h2:a∉[p2,la2,lb2]) (h3:a≠st):a∉[p,la,lb,p2,la2,lb2,st]:=fun z=>zS (Pr:=fun x=>a≠x) (fun x hx e=>h1 (e ▸ hx)) (fun x hx e=>h2 (e ▸ hx)) h3 a z rfl
theorem cg.new {past ahead:List Bk} {now:Bk} (h:cg C CH H p la lb past now ahead) {a:Addr} (n:H a=none):a∉[p,la,lb]:=fun z=>by
 obtain ⟨o,e,_⟩:=h.ex a z;rw [n] at e; cases e
structure Duo (C CH:Addr) (H:Hp) (p la lb p2 la2 lb2 st:Addr) (S S2:Sts) (v1 v2:Addr) (L:Addr×Addr) (B:Hp):Prop where
 c1:cg C CH H p la lb S.1 S.2.1 S.2.2
 c2:cg C CH H p2 la2 lb2 S2.1 S2.2.1 S2.2.2
 hs:H st=some (.lst [.ref L.1,.ref L.2])
 s:ai B H
 no:∀ x∈[p,la,lb,p2,la2,lb2,st],B x=none
 ap:∀ x∈[p2,la2,lb2],x∉[p,la,lb]
 an:st∉[p,la,lb,p2,la2,lb2]
 v1:iZ B v1 S
 v2:iZ B v2 S2
 lt:∃ xs,B L.1=some (.tup xs)
section
variable {st v1 v2:Addr} {S S2:Sts} {L:Addr×Addr}
theorem Duo.mono (h:Duo C CH H p la lb p2 la2 lb2 st S S2 v1 v2 L B) (s:ai H H'):Duo C CH H' p la lb p2 la2 lb2 st S S2 v1 v2 L B:=⟨h.c1.mono s,h.c2.mono s,s _ _ h.hs,h.s.trans s,h.no,h.ap,h.an,h.v1,h.v2,h.lt⟩
theorem Duo.swap (h:Duo C CH H p la lb p2 la2 lb2 st S S2 v1 v2 L B):Duo C CH H p2 la2 lb2 p la lb st S2 S v2 v1 L B :=
 ⟨h.c2,h.c1,h.hs,h.s,fun x hx=>h.no x (by simp only [List.mem_cons,List.not_mem_nil,or_false] at hx ⊢; grind),fun x hx z=>h.ap x z hx,fun z=>h.an (by simp only [List.mem_cons,List.not_mem_nil,or_false] at z ⊢; grind),h.v2,h.v1,h.lt⟩
theorem mi {X:List Addr} {a:Addr} (e:H a=none):msk X H a=none:=by
 unfold msk; split
 ·rfl
 ·exact e
theorem Duo.step (h:Duo C CH H p la lb p2 la2 lb2 st S S2 v1 v2 L B):∃ xs ys,H la2=some (.lst xs)∧∀ φ,upd H la2 (.ext φ) lb2=some (.lst ys)∧∀ ψ HF,HF=upd (upd H la2 (.ext φ)) lb2 (.ext ψ) →
  HF st=some (.lst [.ref L.1,.ref L.2])∧∃ B1,Wo C CH HF p la lb S B1∧ai B B1 ∧
   ∀ lb' S' B' H3 v',ai B1 B'→Wo C CH H3 p la lb' S' B'→iZ B' v' S'→H3 st=some (.lst [.ref L.1,.ref L.2])∧∀ L',(L'=(v',L.2)∨L'=(L.1,v'))→∀ H4,H4=upd H3 st (.lst [.ref L'.1,.ref L'.2]) →
    H4 lb2=some (.ext ψ)∧upd H4 lb2 (.lst ys) la2=some (.ext φ) ∧
    ∃ B2,ai B B2∧Duo C CH (upd (upd H4 lb2 (.lst ys)) la2 (.lst xs)) p la lb' p2 la2 lb2 st S' S2 v' v2 L' B2:=by
 obtain ⟨dx,fs,d,f1,_⟩:=h.c2.ob;obtain ⟨ds,f2,_⟩:=h.c2.pa;obtain ⟨es,f3,_⟩:=h.c2.ah;have n3:la2≠lb2:=h.c2.ne;have n1:p2≠la2:=dY f1 f2 fun z=>nomatch z
 have n2:p2≠lb2:=dY f1 f3 fun z=>nomatch z
 have sa:st≠la2:=fun z=>h.an (by simp [z]);have sb:st≠lb2:=fun z=>h.an (by simp [z]);have ap1:=h.ap p2 (by simp);have ap2:=h.ap la2 (by simp);have ap3:=h.ap lb2 (by simp);have an1:st∉[p,la,lb]:=fun z=>h.an (by simp only [List.mem_cons,List.not_mem_nil,or_false] at z ⊢; grind);refine ⟨_,es.map V.ref,f2,fun φ=>⟨by rw [au (Ne.symm n3)]; exact f3,fun ψ HF eF=>?_⟩⟩;have hst:HF st=some (.lst [.ref L.1,.ref L.2]):=by rw [eF,au sb,au sa]; exact h.hs
 have hF:∀ {a o},H a=some o→a≠la2→a≠lb2→HF a=some o:=fun e x y=>by rw [eF,au y,au x]; exact e
 have ha:HF la2=some (.ext φ):=by rw [eF,au n3]; exact ae
 have hb:HF lb2=some (.ext ψ):=by rw [eF]; exact ae
 have sF:ai B HF:=by rw [eF]; exact (h.s.later (h.no la2 (by simp))).later (h.no lb2 (by simp))
 have in2:∀ {x:Addr},x∈[la2,lb2]→x=la2∨x=lb2:=fun hx=>by simp only [List.mem_cons,List.not_mem_nil,or_false] at hx; exact hx
 have c1F:cg C CH HF p la lb S.1 S.2.1 S.2.2:=h.c1.but (S:=[la2,lb2]) (fun a o e n=>hF e (fun z=>n (by simp [z])) fun z=>n (by simp [z])) (fun x hx=>h.c2.apt x (List.mem_cons_of_mem _ hx)) (fun x hx z=>by
  rcases in2 z with rfl | rfl
  ·exact ap2 hx
  ·exact ap3 hx)
 refine ⟨hst,msk [p,la,lb] HF,⟨c1F,dk,fun x hx=>eg hx⟩,fZ sF (fun x hx=>h.no x (by simp only [List.mem_cons,List.not_mem_nil,or_false] at hx ⊢; grind)),fun lb' S' B' H3 v' s1 W3 hv'=>?_⟩;have b0:∀ {a o},HF a=some o→a∉[p,la,lb]→B' a=some o:=fun e n=>s1 _ _ (cx e n);have bst:=b0 hst an1;have ba:=b0 ha ap2;have bb:=b0 hb ap3;have bp:=b0 (hF f1 n1 n2) ap1;have sBB:ai B B':=(fZ sF (fun x hx=>h.no x (by simp only [List.mem_cons,List.not_mem_nil,or_false] at hx ⊢; grind))).trans s1;have nb:∀ {a o},B' a=some o→a∉[p,la,lb']:=fun e z=>by rw [W3.no _ z] at e; cases e
 obtain ⟨xs1,lt⟩:=h.lt;refine ⟨W3.s _ _ bst,fun L' hL H4 e4=>?_⟩;have h4:∀ {a o},H3 a=some o→a≠st→H4 a=some o:=fun e n=>by rw [e4,au n]; exact e
 have h4s:H4 st=some (.lst [.ref L'.1,.ref L'.2]):=by rw [e4]; exact ae
 have g1:H4 lb2=some (.ext ψ):=h4 (W3.s _ _ bb) (Ne.symm sb);have g2:H4 la2=some (.ext φ):=h4 (W3.s _ _ ba) (Ne.symm sa);have h5:∀ {a o},H4 a=some o→a≠lb2→a≠la2→upd (upd H4 lb2 (.lst (es.map V.ref))) la2 (.lst (ds.map V.ref)) a=some o:=fun e x y=>by rw [au y,au x]; exact e
 have h5b:upd (upd H4 lb2 (.lst (es.map V.ref))) la2 (.lst (ds.map V.ref)) lb2=some (.lst (es.map V.ref)):=by rw [au (Ne.symm n3)]; exact ae
 have h5a:upd (upd H4 lb2 (.lst (es.map V.ref))) la2 (.lst (ds.map V.ref)) la2=some (.lst (ds.map V.ref)):=ae;generalize upd (upd H4 lb2 (.lst (es.map V.ref))) la2 (.lst (ds.map V.ref))=H5 at h5 h5a h5b ⊢;have in4:∀ {x:Addr},x∈[p2,la2,lb2,st]→x=p2∨x=la2∨x=lb2∨x=st:=fun hx=>by simp only [List.mem_cons,List.not_mem_nil,or_false] at hx; exact hx
 have al:∀ x∈[p2,la2,lb2,st],kL B' x:=fun x hx=>by
  rcases in4 hx with rfl | rfl | rfl | rfl
  ·exact vC bp
  ·exact oG ba
  ·exact oG bb
  ·exact vD bst (sBB _ _ lt)
 have sB2:ai B (msk [p2,la2,lb2,st] B'):=fZ sBB (fun x hx=>h.no x (by rcases in4 hx with rfl | rfl | rfl | rfl<;>simp));have nv:=hv'.alien al;refine ⟨g1,by rw [au n3]; exact g2,msk [p2,la2,lb2,st] B',sB2,?_,?_,h5 h4s sb sa,?_,?_,?_,?_,nv,h.v2.mono sB2,?_⟩
 ·refine W3.ch.but (S:=[st,lb2,la2]) (fun a o e n=>h5 (h4 e fun z=>n (by simp [z])) (fun z=>n (by simp [z])) fun z=>n (by simp [z])) (fun x hx=>?_) (fun x hx z=>?_)
  ·simp only [List.mem_cons,List.not_mem_nil,or_false] at hx;rcases hx with rfl | rfl | rfl
   ·exact ⟨(fun _ z=>by rw [W3.s _ _ bst] at z; cases z),(fun _ z=>by rw [W3.s _ _ bst] at z; cases z),fun _ _ _ _ _ _ z=>by rw [W3.s _ _ bst] at z; cases z⟩
   ·exact ⟨(fun _ z=>by rw [W3.s _ _ bb] at z; cases z),(fun _ z=>by rw [W3.s _ _ bb] at z; cases z),fun _ _ _ _ _ _ z=>by rw [W3.s _ _ bb] at z; cases z⟩
   ·exact ⟨(fun _ z=>by rw [W3.s _ _ ba] at z; cases z),(fun _ z=>by rw [W3.s _ _ ba] at z; cases z),fun _ _ _ _ _ _ z=>by rw [W3.s _ _ ba] at z; cases z⟩
  ·simp only [List.mem_cons,List.not_mem_nil,or_false] at z;rcases z with rfl | rfl | rfl
   ·exact nb bst hx
   ·exact nb bb hx
   ·exact nb ba hx
 ·refine h.c2.but (S:=[p,la,lb,st]) (fun a o e n=>?_) (fun x hx=>?_) (fun x hx z=>?_)
  ·by_cases za:a=la2
   ·subst za; rw [f2] at e; rw [h5a]; exact e
   by_cases zb:a=lb2
   ·subst zb; rw [f3] at e; rw [h5b]; exact e
   exact h5 (h4 (W3.s _ _ (b0 (hF e za zb) fun z=>n (by simp only [List.mem_cons,List.not_mem_nil,or_false] at z ⊢; grind))) fun z=>n (by simp [z])) zb za
  ·simp only [List.mem_cons,List.not_mem_nil,or_false] at hx;rcases hx with rfl | rfl | rfl | rfl
   ·exact h.c1.apt _ (by simp)
   ·exact h.c1.apt _ (by simp)
   ·exact h.c1.apt _ (by simp)
   ·exact ⟨(fun _ z=>by rw [h.hs] at z; cases z),(fun _ z=>by rw [h.hs] at z; cases z),fun _ _ _ _ _ _ z=>by rw [h.hs] at z; cases z⟩
  ·simp only [List.mem_cons,List.not_mem_nil,or_false] at z;rcases z with rfl | rfl | rfl | rfl
   ·exact h.ap _ hx (by simp)
   ·exact h.ap _ hx (by simp)
   ·exact h.ap _ hx (by simp)
   ·exact h.an (by simp only [List.mem_cons,List.not_mem_nil,or_false] at hx ⊢; grind)
 ·intro a o e;have n:a∉[p2,la2,lb2,st]:=fun z=>by rw [eg z] at e; cases e
  exact h5 (h4 (W3.s _ _ (dk _ _ e)) fun z=>n (by simp [z])) (fun z=>n (by simp [z])) fun z=>n (by simp [z])
 ·intro x hx;simp only [List.mem_cons,List.not_mem_nil,or_false] at hx;rcases hx with rfl | rfl | rfl | rfl | rfl | rfl | rfl
  ·exact mi (W3.no _ (by simp))
  ·exact mi (W3.no _ (by simp))
  ·exact mi (W3.no _ (by simp))
  ·exact eg (by simp)
  ·exact eg (by simp)
  ·exact eg (by simp)
  ·exact eg (by simp)
 ·intro x hx;simp only [List.mem_cons,List.not_mem_nil,or_false] at hx;rcases hx with rfl | rfl | rfl
  ·exact nb bp
  ·exact nb ba
  ·exact nb bb
 ·intro z;simp only [List.mem_cons,List.not_mem_nil,or_false] at z;have h1:=nb bst;have h2:=h.an;simp only [List.mem_cons,List.not_mem_nil,or_false] at h1 h2
  grind
 ·rcases hL with rfl | rfl
  ·obtain ⟨x,b,y,e,_⟩:=nv;exact ⟨_,e⟩
  ·exact ⟨_,sB2 _ _ lt⟩
end
end
section
variable {C:Addr} {H H' B:Hp} {X:List Addr}
theorem rJ:bN X H (msk X H):=fun _ _ e z=>cx e z
theorem uP {l:Addr} {xs:List V} (e:H l=some (.lst xs)):Apt C H [l]:=fun x hx=>by
 rw [List.mem_singleton.mp hx];exact ⟨(fun _ z=>by rw [e] at z; cases z),(fun _ z=>by rw [e] at z; cases z),fun _ _ _ _ _ _ z=>by rw [e] at z; cases z⟩
theorem pT {l:Addr} (s:SameBut l H H') (hl:l∈X):ai (msk X H) (msk X H'):=fun a o e=>by
 have n:a∉X:=fun z=>by rw [eg z] at e; cases e
 exact cx (s a o (dk a o e) fun z=>n (z ▸ hl)) n
def KAt (C:Addr) (B:Hp) (lk:Addr) (cs:List Clo):Prop:=∃ vs,B lk=some (.lst vs)∧vs.length=cs.length∧∀ (i:Nat) v c,vs[i]?=some v→cs[i]?=some c→fx C B v c
def BAt (B:Hp) (l:Addr) (cs:List Clo):Prop:=∃ qs:List Addr,B l=some (.lst (qs.map V.ref))∧qs.length=cs.length∧∀ (i:Nat) q c,qs[i]?=some q→cs[i]?=some c→cU B q c
theorem KAt.mono {lk:Addr} {cs:List Clo} (s:ai B H) (h:KAt C B lk cs):KAt C H lk cs:=by
 obtain ⟨vs,e,l,k⟩:=h;exact ⟨vs,s _ _ e,l,fun i v c h1 h2=>(k i v c h1 h2).but (s.butL []) Apt.nil⟩
theorem BAt.mono {l:Addr} {cs:List Clo} (s:ai B H) (h:BAt B l cs):BAt H l cs:=by
 obtain ⟨qs,e,n,k⟩:=h;exact ⟨qs,s _ _ e,n,fun i v c h1 h2=>(k i v c h1 h2).mono s⟩
theorem qw:∀ {bs:List V},(∀ (i:Nat) v,bs[i]?=some v→∃ q,v=.ref q)→∃ qs:List Addr,bs=qs.map V.ref
 | [],_=>⟨[],rfl⟩
 | b::r,h=>by
  obtain ⟨q,rfl⟩:=h 0 b rfl;obtain ⟨qs,rfl⟩:=qw fun i v e=>h (i+1) v e;exact ⟨q::qs,rfl⟩
def plD (c:Clo):PyData:=sC c.1 c.2.1 c.2.2
theorem pj {l:Addr} {cs:List Clo} (h:BAt H l cs):Rep H (.list (cs.map plD)) (.ref l):=by
 obtain ⟨qs,e,n,k⟩:=h;simp only [Rep];refine ⟨l,_,rfl,e,?_⟩;clear e
 induction cs generalizing qs with
 | nil=>cases qs with
  | nil => simp [RepL]
  | cons a r => cases n
 | cons c r ih=>cases qs with
  | nil => cases n
  | cons q qs =>
   simp only [List.map_cons,RepL];obtain ⟨a,b,h1,h2,h3⟩:=k 0 q c rfl rfl;exact ⟨_,_,rfl,kx h1 h2 h3,ih qs (by simpa using n) fun i q' c' e1 e2=>k (i+1) q' c' e1 e2⟩
theorem v7 {cs:List Clo} (h:∀ c∈cs,dX c) (n:cs.length≤1000):Ok4 (.list (cs.map plD)) :=
 .inr (.inl ⟨_,rfl,by rw [List.length_map]; exact n,fun e he=>by obtain ⟨c,hc,rfl⟩:=List.mem_map.mp he; exact sJ (h c hc).2.1 (h c hc).2.2⟩)
end
section
variable {P:Program} {w:World} {K:W.Frag} {mg:Str→Option Value} {base:Heap} {t:Ad}
def iY (n:Nat) (S:Sts):Prop:=(sq S).head?=some []∧(sq S).length≤n+1∧∀ bk∈sq S,jd bk∧bk.length≤2*n
theorem iY.next {n:Nat} {S:Sts} {nx:Bk} (h:iY n S) (h1:jd nx) (h2:nx.length≤S.2.1.length+2):iY (n+1) ((S.1++[S.2.1],nx,[]):Sts):=by
  obtain ⟨a,b,c⟩:=S;have l1:=nj (S:=((a,b,c):Sts));have l2:=nj (S:=((a++[b],nx,[]):Sts));rw [show ((a++[b],nx,[]):Sts).1.length=a.length+1 by simp,show ((a++[b],nx,[]):Sts).2.2.length=0 from rfl] at l2;have l3:((a,b,c):Sts).1.length=a.length:=rfl;refine ⟨by rw [← h.1]; cases a<;>rfl,?_,fun bk hb=>?_⟩
  · have:=h.2.1
    show (sq ((a++[b],nx,[]):Sts)).length≤_
    omega
  · have hm:bk∈a++[b]++[nx]:=hb
    rcases List.mem_append.mp hm with hm | hm
    · have:=h.2.2 bk (by
        show bk∈a++b::c.reverse
        rcases List.mem_append.mp hm with hm | hm
        · exact List.mem_append_left _ hm
        · rw [List.mem_singleton.mp hm]; exact List.mem_append_right _ List.mem_cons_self)
      exact ⟨this.1,by omega⟩
    · rw [List.mem_singleton.mp hm]
      have:=(h.2.2 b gA).2
      have h2:nx.length≤b.length+2:=h2;exact ⟨h1,by omega⟩
theorem iY.more {n:Nat} {S:Sts} (h:iY n S):iY (n+1) S:=⟨h.1,by have:=h.2.1; omega,fun bk hb=>by have:=h.2.2 bk hb; exact ⟨this.1,by omega⟩⟩
theorem iY.stp {n:Nat} {S S':Sts} (h:iY n S) (s:Stp S S'):iY (n+1) S':=by
 rcases s with e | ⟨nx,h1,h2,rfl⟩
 ·exact ⟨by rw [e]; exact h.1,by rw [e]; have:=h.2.1; omega,fun bk hb=>by rw [e] at hb; have:=h.2.2 bk hb; exact ⟨this.1,by omega⟩⟩
 ·exact h.next h1 h2
theorem xC {zs:List Int} {a b:Nat} (h:b≤zs.length):gp (zs.map V.int) (some (a:Int)) (some (b:Int))=((zs.drop a).take (b - a)).map V.int:=by
 unfold gp;rw [HT.lK,HT.lK,List.length_map,Nat.min_eq_left h];rcases Nat.le_total a zs.length with h1 | h1
 ·rw [Nat.min_eq_left h1,← List.map_drop,← List.map_take]
 ·rw [Nat.min_eq_right h1,← List.map_drop,List.drop_eq_nil_of_le h1,List.drop_eq_nil_of_le (Nat.le_refl _),List.map_nil,List.take_nil,List.take_nil]; rfl
def sp_law (K:W.Frag):Sp:=fun vs H Q _=>∃ (a:Addr) (ns:List Int),vs=[.ref a]∧SqL K H a (ns.map V.int)∧ns.length≤63∧∀ H',Q (.bl true) H'
theorem Ci (T:Txt K mg t):aU P w K mg base CX0 16 t.f_law t.d_law ["_law_script"] (sp_law K):=by
  refine T.F_law.ok cY (fun vs H Q E h=>?_) (fun cdv A outer s H vs Q E hr h=>?_)
  · obtain ⟨a,ns,rfl,_⟩:=h; rfl
  · obtain ⟨a,ns,rfl,hS,hl,z⟩:=h
    refine aI (aF (i:=1) cY.nd rfl (Or.inl rfl) (aC (ok_bb T) (hr.mono (by first | decide | omega)) rfl T.mg_bb T.F_bb.kp T.b_bb .nil aS (aa (pv 0) (aa ag af)))) fun _ _=>aI (aF (i:=2) cY.nd rfl (Or.inl rfl) (aC (ok_a7 T) (hr.mono (by first | decide | omega)) rfl T.mg_a7 T.F_a7.kp T.b_a7 .nil aS (aa (bQ (cf K rfl) (pv 1) (bZ ag) cj) (aa ag af)))) fun _ _=>aI (aF (i:=3) cY.nd rfl (Or.inr rfl) (sx T.mk_ae (ok_aQ T) (hr.mono (by first | decide | omega)) rfl T.mg_ae T.b_aQ .nil aS )) fun _ _=>aI (aF (i:=4) cY.nd rfl (Or.inl rfl) (bq (aa (bP af) (aa so (aa (bP af) af))))) fun _ _=>aI (eQ PassesOwn.never rfl (eB rfl T.no_br (aa (aB bh (ar (aH K rfl) (pv 1) ag (fun _ _=>rfl)) ag) af)) (bC (i:=5) cY.nd rfl (Or.inl rfl)) (aJ (aF (i:=6) cY.nd rfl (Or.inl rfl) (aW (dj K rfl) rfl T.no_list (by rfl) (aa (bQ (cf K rfl) (pv 1) (bZ (aB aZ ag (aB gG ag (pv 5)))) (bZ (aB aZ ag (aB gG ag (pv 5))))) af))) (aJ (ky (aB aZ ag (aB gG ag (ar (aH K rfl) (pv 6) ag (fun _ _=>rfl)))) (uj (pv 6) ag mX)) (aJ (aF (i:=4) cY.nd rfl (Or.inl rfl) (aC (ok_aR T) (hr.mono (by first | decide | omega)) rfl T.mg_aR T.F_aR.kp T.b_aR .nil aS (aa (pv 3) (aa (pv 4) (aa (pv 2) (aa (pv 6) af)))))) (aj (aL (aD uh (pv 4) eA (aG _)) (aj (ay h8)) aA)))))) fun _ _=>aI (eQ PassesOwn.never rfl (eB rfl T.no_br (aa (aB bh (ar (aH K rfl) (pv 1) ag (fun _ _=>rfl)) ag) af)) (bC (i:=5) cY.nd rfl (Or.inl rfl)) (aj (aL (aD u4 (pv 4) eA (aG _)) (aj (aF (i:=4) cY.nd rfl (Or.inl rfl) (aC (ok_ax T) (hr.mono (by first | decide | omega)) rfl T.mg_ax T.F_ax.kp T.b_ax .nil aS (aa (pv 3) (aa av (aa (ar (aq K rfl) (pv 4) ag (fun _ _=>rfl)) (aa (ar (aq K rfl) (pv 4) ag (fun _ _=>rfl)) (aa (ar (aq K rfl) (pv 4) ag (fun _ _=>rfl)) af)))))))) aA))) fun _ _=>aI (aF (i:=7) cY.nd rfl (Or.inl rfl) (bP (aa (pv 3) (aa (aT (pv 3) T.cl_ae T.m_aK (ok_aK T) (hr.mono (by first | decide | omega)) T.b_aK .nil aS) af)))) fun _ _=>aI (aF (i:=8) cY.nd rfl (Or.inl rfl) (bP (aa (pv 4) (aa (pv 4) af)))) fun _ _=>aI (lH (i:=9) cY.nd rfl (Or.inl rfl) (N:=["_law_name","_law_chest"]) (cap:=[none,some 3]) rfl ⟨rfl,rfl,rfl,rfl,rfl,rfl⟩ (dP (aT (pv 3) T.cl_ae T.m_aB (ok_aB T) (hr.mono (by first | decide | omega)) T.b_aB .nil aS)) (fun _ _ _=>(bC (i:=0) (show (["_law_name","_law_chest"]:List Str).Nodup by decide +kernel) rfl (Or.inl rfl))) (fun _ _ _=>dQ) (fun _ _ _=>(bF (pv 1) T.cl_ae T.m_am (ok_am T) (hr.mono (by first | decide | omega)) T.b_am .nil aS (aa (pv 0) af))) (by rfl)) fun _ _=>aI (lH (i:=10) cY.nd rfl (Or.inl rfl) (N:=["_law_cloth"]) (cap:=[none]) rfl ⟨rfl,rfl,rfl,rfl,rfl,rfl⟩ (dP (pv 9)) (fun _ _ _=>(bC (i:=0) (show (["_law_cloth"]:List Str).Nodup by decide +kernel) rfl (Or.inl rfl))) (fun _ _ _=>dQ) (fun _ _ _=>(aC (ok_bm T) (hr.mono (by first | decide | omega)) rfl T.mg_bm T.F_bm.kp T.b_bm .nil aS (aa (pv 0) af))) (by rfl)) fun _ _=>aI (eQ PassesOwn.never rfl (eB rfl T.no_br (aa ag af)) (bC (i:=5) cY.nd rfl (Or.inl rfl)) (aJ (aL (aD (Cm hr.units) eA (pv 8) rfl) (aj (ay h8)) aA) (aJ (c9 (aF (i:=11) cY.nd rfl (Or.inl rfl) (ji (cO bJ (aB bh (aB gF (ar (aH K rfl) (pv 1) ag (fun _ _=>rfl)) ag) ag) ag (aG _)) (jj (cO kS (aB bh (pv 5) ag) ag (aG _)))))) (aJ (c9 (aL (PW.pt (eR (cJ (bS (pv 11))) (eJ (cJ (PW.pt (eR (bS (aC (ok_aH T) (hr.mono (by first | decide | omega)) rfl T.mg_aH T.F_aH.kp T.b_aH .nil aS (aa (ar (aH K rfl) (pv 7) ag (fun _ _=>rfl)) (aa (ar (aH K rfl) (pv 8) ag (fun _ _=>rfl)) af)))) (eJ (bS (aC (ok_aH T) (hr.mono (by first | decide | omega)) rfl T.mg_aH T.F_aH.kp T.b_aH .nil aS (aa (ar (aH K rfl) (pv 7) ag (fun _ _=>rfl)) (aa (ar (aH K rfl) (pv 8) ag (fun _ _=>rfl)) af))))))))))) (aj (ay h8)) aA)) (aJ (aF (i:=12) cY.nd rfl (Or.inl rfl) (aB bh (aB gF (ar (aH K rfl) (pv 1) (aB aZ ag (aB bh (pv 5) ag)) (fun _ _=>rfl)) ag) ag)) (aj (fX (fX (ky (aC (ok_aR T) (hr.mono (by first | decide | omega)) rfl T.mg_aR T.F_aR.kp T.b_aR .nil aS (aa (ar (aH K rfl) (pv 7) (pv 12) (fun _ _=>rfl)) (aa (ar (aH K rfl) (pv 8) (pv 12) (fun _ _=>rfl)) (aa (pv 2) (aa (bQ (cf K rfl) (pv 1) (bZ (aB aZ ag (aB gG ag (pv 5)))) cj) af))))) (uj (pv 8) (pv 12) mX)))))))))) fun _ _=>aI (aL (PW.pt (jb (cJ (bS (aC (ok_aH T) (hr.mono (by first | decide | omega)) rfl T.mg_aH T.F_aH.kp T.b_aH .nil aS (aa (ar (aH K rfl) (pv 7) ag (fun _ _=>rfl)) (aa (ar (aH K rfl) (pv 8) ag (fun _ _=>rfl)) af))))) (gI (cJ (bS (aC (ok_aH T) (hr.mono (by first | decide | omega)) rfl T.mg_aH T.F_aH.kp T.b_aH .nil aS (aa (ar (aH K rfl) (pv 7) ag (fun _ _=>rfl)) (aa (ar (aH K rfl) (pv 8) ag (fun _ _=>rfl)) af)))))))) (aj (ay h8)) aA) fun _ _=>cK (ay (aC (wa T) (hr.mono (by first | decide | omega)) rfl T.mg_ba T.F_ba.kp T.b_ba .nil aS (aa (fE (N:=["_law_cloth"]) (cap:=[none]) rfl ⟨rfl,rfl,rfl,rfl,rfl,rfl⟩ (dP (pv 9)) (fun _ _ _=>(bC (i:=0) (show (["_law_cloth"]:List Str).Nodup by decide +kernel) rfl (Or.inl rfl))) (fun _ _ _=>dQ) (fun _ _ _=>(aC (ok_bm T) (hr.mono (by first | decide | omega)) rfl T.mg_bm T.F_bm.kp T.b_bm .nil aS (aa (pv 0) af)))) (aa (pv 10) af)))) fun _ _=>?_;left;refine ⟨a,200,ns,rfl,hS,hl,by decide,fun ls zs H1 s1 es lz _ sm=>?_⟩;left;refine di es fun l2 H2 s2 _ e2=>?_;rw [show (some 1:Option Int)=some ((1:Nat):Int) from rfl,c6] at e2;left;refine ⟨l2,zs.drop 1,7,rfl,e2,by rw [List.length_drop]; omega,by omega,fun lp pl H6 s3 e6 lf wf=>?_⟩;have es:=s3 _ _ (s2 _ _ es);clear e2 s1 s2 s3;have po:lR pl:=fun x hx=>⟨(wf x hx).str,by have:=(wf x hx).sz; omega⟩
    clear wf;left;intro p dx np ndx nex;have sI:ai H6 (upd (upd H6 dx (.own p)) p (.ins t.a_ae dx [])):=(ai.new ndx).later np;refine ⟨p,dx,rfl,ae,fun la lb HD mD nla nlb ch=>⟨rfl,?_⟩⟩;have sD:ai H6 HD:=jQ sI mD (fun x hx=>by rw [List.mem_singleton.mp hx]; exact np);have nla':H6 la=none:=sI.free nla;have nlb':H6 lb=none:=sI.free nlb;clear mD nlb nex sI nla ndx;have W0:Wo t.a_ai t.a_ae HD p la lb (([],[],[]):Sts) H6:=⟨ch,sD,fun x hx=>by
      rcases in3 hx with rfl | rfl | rfl
      · exact np
      · exact nla'
      · exact nlb'⟩
    left;refine ⟨by show 0≤sizeLine; decide,fun x0 nx0=>?_⟩;have sx0:=ai.new (o:=HO.lst []) nx0;have ex0:=ae (H:=HD) (a:=x0) (o:=HO.lst []);generalize upd HD x0 (HO.lst [])=HE at sx0 ex0 ⊢;left;intro b0 nb0;have sb0:=ai.new (o:=HO.dK []) nb0;have eb0:=ae (H:=HE) (a:=b0) (o:=HO.dK []);generalize upd HE b0 (HO.dK [])=HF at sb0 eb0 ⊢;left;refine ⟨by show 0≤sizeLine; decide,fun y0 ny0=>?_⟩;have sy0:=ai.new (o:=HO.lst []) ny0;have ey0:=ae (H:=HF) (a:=y0) (o:=HO.lst []);generalize upd HF y0 (HO.lst [])=HG at sy0 ey0 ⊢;left;refine ⟨by show 3≤sizeLine; decide,fun v0 nv0=>?_⟩;have sv0:=ai.new (o:=HO.tup [V.ref x0,V.ref b0,V.ref y0]) nv0;have ev0:=ae (H:=HG) (a:=v0) (o:=HO.tup [V.ref x0,V.ref b0,V.ref y0]);generalize upd HG v0 (HO.tup [V.ref x0,V.ref b0,V.ref y0])=HH at sv0 ev0 ⊢;have sE:=sx0.trans sb0;have sF:=sE.trans sy0;have sG:=sF.trans sv0;have WG:=W0.mono sG;obtain ⟨W1,sB1⟩:=WG.all;have st0:iZ (msk [p,la,lb] HH) v0 (([],[],[]):Sts):=⟨x0,b0,y0,WG.tup ev0,⟨[],W0.new sG nx0 (sv0 _ _ (sy0 _ _ (sb0 _ _ ex0))),rfl,fun i d bk h=>by cases h⟩,⟨[],(W0.mono sx0).new (sb0.trans (sy0.trans sv0)) nb0 (sv0 _ _ (sy0 _ _ eb0)),.nil⟩,⟨[],(W0.mono sE).new (sy0.trans sv0) ny0 (sv0 _ _ ey0),rfl,fun i d bk h=>by cases h⟩⟩
    have es:=sB1 _ _ es;have e6:=sB1 _ _ e6;generalize msk [p,la,lb] HH=B0 at W1 sB1 st0 es e6;clear WG sG sF sE W0 ev0 ey0 eb0 ex0 nx0 nb0 ny0 nv0 sx0 sb0 sy0 sv0 ch sD np nla' nlb' sB1;left;refine aQ (SqL.of (W1.s _ _ es)) (cw (i:=0) (by decide) (by omega)) ?_;left;refine bR (by decide) ?_;obtain ⟨m0,hm0,bm0⟩:∃ m:Nat,zs.getD (0:Int).toNat 0%11=(m:Int)∧m<11:=⟨(zs.getD (0:Int).toNat 0%11).toNat,by omega,by omega⟩
    left;rw [hm0];refine ⟨m0,rfl,by omega,by omega,?_⟩;rw [Int.toNat_natCast];refine d9 (n:=m0) (fun i σ' H'=>∃ (o5 o6:Option V) (v lb:Addr) (S:Sts) (B:Hp),σ'=[some (.ref a),some (.ref ls),some (.ref lp),some (.ref p),some (.ref v),o5,o6,none,none,none,none,none,none]∧Wo t.a_ai t.a_ae H' p la lb S B∧B ls=some (.lst (zs.map V.int))∧B lp=some (.lst (pl.map V.str))∧iZ B v S∧iY i S)
      ⟨none,none,v0,lb,_,B0,rfl,W1,es,e6,st0,rfl,Nat.le_refl _,fun bk hb=>?_⟩ ?_ ?_
    · rw [List.mem_singleton.mp hb]
      exact ⟨(fun nc hn=>by cases hn),Nat.zero_le _⟩
    · clear W1 es e6 st0
      rintro i σ' H1 hi ⟨o5,o6,v,lb,S,B,rfl,W,es,el,hv,q⟩;left;refine bR (.inl ⟨by omega,by omega⟩) ?_;left;refine bR (.inl ⟨by omega,by omega⟩) ?_;left;refine di (W.s _ _ es) fun l1 H2 s2 _ e2=>?_;rw [show (some ((9:Int)+10*(0+(i:Nat))):Option Int)=some ((9+10*i:Nat):Int) by congr 1; omega,show (some ((19:Int)+10*(0+(i:Nat))):Option Int)=some ((19+10*i:Nat):Int) by congr 1; omega,xC (by omega)] at e2;have lhs:((zs.drop (9+10*i)).take (19+10*i - (9+10*i))).length=10:=by rw [List.length_take,List.length_drop]; omega
      generalize (zs.drop (9+10*i)).take (19+10*i - (9+10*i))=hs at e2 lhs;left;refine ig e2 fun lh nh=>?_;have s3:=s2.trans (ai.new (o:=HO.lst (hs.map V.int)) nh);have e3:=ae (H:=H2) (a:=lh) (o:=HO.lst (hs.map V.int));have nh':=s2.free nh;generalize upd H2 lh (HO.lst (hs.map V.int))=H3 at s3 e3 ⊢;left;refine aQ (SqL.of e3) (cw (i:=9) (by decide) (by omega)) ?_;left;refine bR (.inl ⟨by decide,by decide⟩) ?_;left;generalize 1+3*hs.getD (9:Int).toNat 0=x9;refine lJ e3 (j:=9) (by rw [List.length_map,lhs]; rfl) ?_;rw [show ((hs.map V.int).set 9 (.int x9))=(hs.set 9 x9).map V.int by rw [List.map_set]];have lhs:(hs.set 9 x9).length=10:=by rw [List.length_set]; exact lhs
      generalize hs.set 9 x9=hs at lhs ⊢;have s4:ai H1 (upd H3 lh (HO.lst (hs.map V.int))):=s3.later nh';have e4:=ae (H:=H3) (a:=lh) (o:=HO.lst (hs.map V.int));generalize upd H3 lh (HO.lst (hs.map V.int))=H4 at s4 e4 ⊢;have f4:=W.new s4 nh' e4;obtain ⟨W5,sB5⟩:=(W.mono s4).all;have ok:=q.2.2 S.2.1 gA;have lq:=q.2.1;left;refine ⟨p,la,lb,v,lp,lh,S,_,hs,pl,rfl,W5,hv.mono sB5,sB5 _ _ el,f4,by omega,by omega,by omega,po,ok.1,by omega,by omega,fun v' lb' S' B' H' st sB W' hv'=>?_⟩;left;refine ⟨rfl,_,rfl,?_⟩;rw [decide_eq_false (fun z=>nomatch z)];left;have sB:=sB5.trans sB;exact ⟨_,_,v',lb',S',B',rfl,W',sB _ _ es,sB _ _ el,hv',q.stp st⟩
    clear W1 es e6 st0;rintro σ' H1 ⟨o5,o6,v,lb,S,B,rfl,W,es,el,hv,q⟩;left;refine aQ (SqL.of (W.s _ _ es)) (cw (i:=8) (by decide) (by omega)) ?_;left;refine bR (by decide) ?_;obtain ⟨m1,hm1⟩:∃ m:Nat,zs.getD (8:Int).toNat 0%4=(m:Int)∧m<4:=⟨(zs.getD (8:Int).toNat 0%4).toNat,by omega,by omega⟩
    left;rw [hm1.1];refine ⟨m1,rfl,by omega,by omega,?_⟩;rw [Int.toNat_natCast];refine d9 (n:=m1) (fun _ σ' H'=>∃ (o5 o6:Option V) (v:Addr) (S:Sts) (B:Hp),σ'=[some (.ref a),some (.ref ls),some (.ref lp),some (.ref p),some (.ref v),o5,o6,none,none,none,none,none,none]∧Wo t.a_ai t.a_ae H' p la lb S B∧B ls=some (.lst (zs.map V.int))∧B lp=some (.lst (pl.map V.str))∧iZ B v S∧iY m0 S)
      ⟨o5,o6,v,S,B,rfl,W,es,el,hv,q⟩ ?_ ?_
    · clear W es el hv q
      rintro i σ' H2 hi ⟨o5,o6,v,S,B,rfl,W,es,el,hv,q⟩;obtain ⟨x,b,y,ev,hx,hb,hy⟩:=id hv;have l1:=nj (S:=S);have lq:=q.2.1;left;refine ⟨rfl,?_⟩;rw [decide_eq_false (fun z=>nomatch z)];left;refine ak (SqT.of (W.s _ _ ev)) rfl ?_;left;refine ak (SqT.of (W.s _ _ ev)) rfl ?_;left;refine ak (SqT.of (W.s _ _ ev)) rfl ?_;left;refine ⟨p,la,lb,S,B,"undo",x,b,y,rfl,.inl rfl,W,by omega,by omega,hx,hb,hy,fun v2 S2 B4 H5 mv sB2 W5 hv2=>?_⟩;left;exact ⟨_,_,v2,S2,B4,rfl,W5,sB2 _ _ es,sB2 _ _ el,hv2,by rw [iY,mv.sq]; exact q⟩
    clear W es el hv q;rintro σ' H2 ⟨o5,o6,v,S,B,rfl,W,es,el,hv,q⟩;obtain ⟨dx1,fs1,d1,f1,f2,_⟩:=W.ch.ob;have l1:=nj (S:=S);have lq:=q.2.1;left;refine aw f1 (f2.no _ (by decide +kernel)) ?_;left;refine ⟨p,la,lb,S.1,S.2.2,S.2.1,rfl,W.ch,by omega,by omega,fun p2 la2 lb2 H3 s3 np2 nla2 nlb2 ch2=>?_⟩;left;have W3:=W.mono s3;have nB:∀ x∈[p2,la2,lb2],B x=none:=fun x hx=>by
      rcases in3 hx with rfl | rfl | rfl
      · exact W.s.free np2
      · exact W.s.free nla2
      · exact W.s.free nlb2
    have ap:∀ x∈[p2,la2,lb2],x∉[p,la,lb]:=fun x hx=>by
      rcases in3 hx with rfl | rfl | rfl
      · exact W.ch.new np2
      · exact W.ch.new nla2
      · exact W.ch.new nlb2
    refine ⟨by show 2≤sizeLine; decide,fun bo nbo=>?_⟩;have sbo:=ai.new (o:=HO.lst [V.ref p,V.ref p2]) nbo;have ebo:=ae (H:=H3) (a:=bo) (o:=HO.lst [V.ref p,V.ref p2]);generalize upd H3 bo (HO.lst [V.ref p,V.ref p2])=H4 at sbo ebo ⊢;left;refine ⟨by show 2≤sizeLine; decide,fun st nst=>?_⟩;have sst:=ai.new (o:=HO.lst [V.ref v,V.ref v]) nst;have est:=ae (H:=H4) (a:=st) (o:=HO.lst [V.ref v,V.ref v]);generalize upd H4 st (HO.lst [V.ref v,V.ref v])=H5 at sst est ⊢;have s45:=sbo.trans sst;have W5:=W3.mono s45;have ch5:=ch2.mono s45;left;obtain ⟨dx5,fs5,d5,g1,g2,_⟩:=W5.ch.ob;refine aw g1 (g2.no _ (by decide +kernel)) ?_;left;refine ⟨p,la,lb,_,_,_,rfl,W5.ch,fun ln nln=>?_⟩;have s6:=ai.new (o:=HO.lst (dM S.2.1)) nln;have e6:=ae (H:=H5) (a:=ln) (o:=HO.lst (dM S.2.1));generalize upd H5 ln (HO.lst (dM S.2.1))=H6 at s6 e6 ⊢;have W6:=W5.mono s6;refine ⟨_,rfl,⟨_,SqL.of e6⟩,fun lk nlk=>?_⟩;have hcs:∀ {i:Nat} {x:V},(dM S.2.1)[i]?=some x→∃ n c,x=.str n∧aO S.2.1 n=some c∧(S.2.1.map fun nc=>(aO S.2.1 nc.1).getD nc.2)[i]?=some c:=fun {i x} hx=>by
      unfold dM at hx;rw [List.getElem?_map] at hx
      cases e:S.2.1[i]? with
      | none=>rw [e] at hx; cases hx
      | some nc =>
        rw [e] at hx
        cases hx;obtain ⟨c,g⟩:=jh (bk:=S.2.1) (n:=nc.1) (List.mem_map.mpr ⟨nc,List.mem_of_getElem? e,rfl⟩);exact ⟨nc.1,c,rfl,g,by rw [List.getElem?_map,e]; show some ((aO S.2.1 nc.1).getD nc.2)=_; rw [g]; rfl⟩
    have okc:∀ c∈S.2.1.map (fun nc=>(aO S.2.1 nc.1).getD nc.2),dX c:=fun c hc=>by
      obtain ⟨nc,h1,rfl⟩:=List.mem_map.mp hc;obtain ⟨c,g⟩:=jh (bk:=S.2.1) (n:=nc.1) (List.mem_map.mpr ⟨nc,h1,rfl⟩);rw [g]; exact W.ch.bkOk.get g
    have lcs:(S.2.1.map fun nc=>(aO S.2.1 nc.1).getD nc.2).length=(dM S.2.1).length:=by unfold dM; rw [List.length_map,List.length_map]
    have ok0:=q.2.2 S.2.1 gA;have lnm:(dM S.2.1).length≤100:=by unfold dM; rw [List.length_map]; omega
    generalize (S.2.1.map fun nc=>(aO S.2.1 nc.1).getD nc.2)=cs at hcs okc lcs;refine gU (K:=K) (fun i v H'=>∃ c,cs[i]?=some c∧fx t.a_ai (msk [lk] H') v c) (SqL.of e6) (by omega) nlk (fun i v Ha Hb sb ⟨c,h1,h2⟩=>⟨c,h1,h2.but ((pT sb (by simp)).butL []) Apt.nil⟩) (fun i x o H' Q' hx s' ⟨ys,ey⟩ qq=>?_) (fun ys H7 s7 e7 l7 r7=>?_)
    · obtain ⟨n,c,rfl,g,hc⟩:=hcs hx
      obtain ⟨dx7,fs7,d7,g1,g2,_⟩:=(W6.ch.mono s').ob;left;refine aw g1 (g2.no _ (by decide +kernel)) ?_;left;refine ⟨p,la,lb,_,_,_,n,c,rfl,W6.ch.mono s',g,fun v' hv'=>?_⟩;exact qq _ _ (ai.refl _) ⟨c,hc,hv'.but rJ (uP ey)⟩
    left;have s57:=s6.trans s7;have W7:=W5.mono s57;have ch7:=ch5.mono s57;have hX:∀ x∈[p,la,lb,p2,la2,lb2,st],∃ o,H7 x=some o∧∀ xs,o≠.tup xs:=zS W7.ch.ex ch7.ex ⟨_,s57 _ _ est,fun _ z=>nomatch z⟩;have hXf:∀ {a:Addr} {H':Hp},ai H7 H'→H' a=none→a∉[p,la,lb,p2,la2,lb2,st]:=fun {a H'} s' n z=>by
      obtain ⟨o,e,_⟩:=hX a z;rw [s' _ _ e] at n; cases n
    have hXt:∀ {a:Addr} {H':Hp} {xs:List V},ai H7 H'→H' a=some (.tup xs)→a∉[p,la,lb,p2,la2,lb2,st]:=fun {a H' xs} s' e z=>by
      obtain ⟨o,e',k⟩:=hX a z;rw [s' _ _ e'] at e; cases e; exact k _ rfl
    refine ⟨⟨_,SqL.of e7⟩,fun lt nlt=>?_⟩;refine gU (K:=K) (fun i v H'=>∃ c q,cs[i]?=some c∧v=.ref q∧cU (msk (lt::[p,la,lb,p2,la2,lb2,st]) H') q c) (SqL.of e7) (by omega) nlt (fun i v Ha Hb sb ⟨c,q,h1,h2,h3⟩=>⟨c,q,h1,h2,h3.mono (pT sb (by simp))⟩) (fun i x o H' Q' hx s' ⟨zs',ez⟩ qq=>?_) (fun bs H8 s8 e8 l8 r8=>?_)
    · obtain ⟨c,hc,xc,rfl,hcl,_⟩:=r7 i x hx
      left;refine ⟨xc,c.1,c.2.1,c.2.2,rfl,hcl.mono (dk.trans s'),fun tp ca ra H8 s8 nc nr t1 t2 t3=>?_⟩;have n1:∀ {y:Addr},H' y=none→y∉lt::[p,la,lb,p2,la2,lb2,st]:=fun {y} n z=>by
        rcases List.mem_cons.mp z with rfl | z
        · rw [ez] at n; cases n
        · exact hXf s' n z
      exact qq _ H8 s8 ⟨c,tp,hc,rfl,ca,ra,cx t1 (fun z=>by
        rcases List.mem_cons.mp z with rfl | z
        · rw [s8 _ _ ez] at t1; cases t1
        · exact hXt (s'.trans s8) t1 z),cx t2 (n1 nc),cx t3 (n1 nr)⟩
    have s58:=s57.trans s8;have sB8:ai B (msk [p,la,lb,p2,la2,lb2,st] H8):=fZ (W5.s.trans s58) (zS W.no nB ((W3.s.trans sbo).free nst));have nbX:bo∉[p,la,lb,p2,la2,lb2,st]:=DB (W3.ch.new nbo) (ch2.new nbo) fun z=>by rw [← z] at nst; rw [nst] at ebo; cases ebo
    have eb8:msk [p,la,lb,p2,la2,lb2,st] H8 bo=some (.lst [.ref p,.ref p2]):=cx (s58 _ _ (sst _ _ ebo)) nbX;have nkX:lk∉[p,la,lb,p2,la2,lb2,st]:=DB (W6.ch.new nlk) ((ch5.mono s6).new nlk) fun z=>by rw [z,s6 _ _ est] at nlk; cases nlk
    have aX:Apt t.a_ai H8 [p,la,lb,p2,la2,lb2,st]:=zS (W7.ch.mono s8).apt (ch7.mono s8).apt (uP (s58 _ _ est) _ (by simp));have ka:KAt t.a_ai (msk [p,la,lb,p2,la2,lb2,st] H8) lk cs:=⟨ys,cx (s8 _ _ e7) nkX,by rw [l7,lcs],fun i v c h1 h2=>by
      obtain ⟨c',h3,h4⟩:=r7 i v h1;rw [h2] at h3; cases h3;exact (h4.but ((dk.trans s8).butL []) Apt.nil).but rJ aX⟩
    obtain ⟨qs,rfl⟩:=qw fun i v e=>by obtain ⟨c,q,_,h,_⟩:=r8 i v e; exact ⟨q,h⟩
    have ba:BAt (msk [p,la,lb,p2,la2,lb2,st] H8) lt cs:=⟨qs,cx e8 (hXf (ai.refl _) nlt),by rw [List.length_map] at l8; omega,fun i q' c h1 h2=>by
      obtain ⟨c',q2,h3,h4,h5⟩:=r8 i (.ref q') (by rw [List.getElem?_map,h1]; rfl);rw [h2] at h3; cases h3; cases h4;exact h5.mono fun a o e=>by
        have n:a∉lt::[p,la,lb,p2,la2,lb2,st]:=fun z=>by rw [eg z] at e; cases e
        exact cx (dk _ _ e) fun z=>n (List.mem_cons_of_mem _ z)⟩
    have es:=sB8 _ _ es;have el:=sB8 _ _ el;have hv:=hv.mono sB8;have du:Duo t.a_ai t.a_ae H8 p la lb p2 la2 lb2 st S S v v (v,v) (msk [p,la,lb,p2,la2,lb2,st] H8):=⟨W7.ch.mono s8,ch7.mono s8,s58 _ _ est,dk,(fun x hx=>eg hx),ap,(fun z=>by
        rcases List.mem_append.mp (show st∈[p,la,lb]++[p2,la2,lb2] from z) with z | z
        · exact (W3.ch.mono sbo).new nst z
        · exact (ch2.mono sbo).new nst z),hv,hv,by obtain ⟨x,b,y,e,_⟩:=hv; exact ⟨_,e⟩⟩
    generalize msk [p,la,lb,p2,la2,lb2,st] H8=B8 at du ka ba es el eb8 hv;clear aX nkX nbX sB8 s58 r8 e8 l8 hXt hXf hX W7 ch7 s57 r7 e7 s7 nlk hcs W6 s6 e6 nln g1 g2 W5 ch5 s45 est ebo sst sbo nst nbo ap nB W3 W s8 nlt ch2 f1 f2;left;refine ⟨8,rfl,by decide,by decide,?_⟩;refine d9 (n:=8) (fun i σ' H'=>∃ (p5 p6 pB pC:Option V) (lb lb2:Addr) (S1 S2:Sts) (v1 v2:Addr) (B:Hp),σ'=[some (.ref a),some (.ref ls),some (.ref lp),some (.ref p),some (.ref v),p5,p6,some (.ref bo),some (.ref st),some (.ref lk),some (.ref lt),pB,pC]∧Duo t.a_ai t.a_ae H' p la lb p2 la2 lb2 st S1 S2 v1 v2 (v1,v2) B∧B ls=some (.lst (zs.map V.int))∧B lp=some (.lst (pl.map V.str))∧B bo=some (.lst [.ref p,.ref p2])∧KAt t.a_ai B lk cs∧BAt B lt cs∧iY (10+i) S1∧iY (10+i) S2)
      ⟨_,_,_,_,lb,lb2,S,S,v,v,B8,rfl,du,es,el,eb8,ka,ba,?_,?_⟩ ?_ ?_
    · exact ⟨q.1,by have:=q.2.1; omega,fun bk hb=>⟨(q.2.2 bk hb).1,by have:=(q.2.2 bk hb).2; omega⟩⟩
    · exact ⟨q.1,by have:=q.2.1; omega,fun bk hb=>⟨(q.2.2 bk hb).1,by have:=(q.2.2 bk hb).2; omega⟩⟩
    · clear du ka ba es el eb8 hv q
      rintro i σ' H1 hi ⟨p5,p6,pB,pC,lb,lb2,S1,S2,v1,v2,B,rfl,du,es,el,eb,ka,ba,q1,q2⟩;obtain ⟨x1,b1,y1,ev1,hx1,hb1,hy1⟩:=id du.v1;obtain ⟨x2,b2,y2,ev2,hx2,hb2,hy2⟩:=id du.v2;left;refine ⟨st,[v1,v2],rfl,rfl,du.hs,(fun x hx=>by
        simp only [List.mem_cons,List.not_mem_nil,or_false] at hx;rcases hx with rfl | rfl
        · exact ⟨_,du.s _ _ ev1⟩
        · exact ⟨_,du.s _ _ ev2⟩),?_⟩
      left;refine de (fun σ' H'=>∃ bb:Bool,σ'=[some (.ref a),some (.ref ls),some (.ref lp),some (.ref p),some (.ref v),some (.int (0+(i:Nat))),p6,some (.ref bo),some (.ref st),some (.ref lk),some (.ref lt),some (.bl bb),pC]∧H'=H1) ?_ ?_
      · left
        refine aQ (SqL.of (du.s _ _ es)) (cw (i:=0) (by decide) (by omega)) ?_;left;refine bR ⟨by decide,by decide⟩ ?_;left;refine bR (by decide) ?_;left;refine eY (fun _=>?_) (fun _=>?_)
        · left
          refine bR (by decide) ?_;left;exact ⟨_,rfl,rfl⟩
        · left
          exact ⟨_,rfl,rfl⟩
      rintro σ' H2 ⟨bb,rfl,rfl⟩;left;have k1:=q1.2.2 S1.2.1 gA;have k2:=q2.2.2 S2.2.1 gA;refine de (fun σ' H'=>σ'=[some (.ref a),some (.ref ls),some (.ref lp),some (.ref p),some (.ref v),some (.int (0+(i:Nat))),p6,some (.ref bo),some (.ref st),some (.ref lk),some (.ref lt),some (.bl bb),pC]∧ai H2 H') ?_ ?_
      · left
        cases bb with
        | true =>
          left;exact ⟨rfl,ai.refl _⟩
        | false =>
          left;refine aQ (SqL.of (du.s _ _ eb)) (bY (j:=0) rfl) ?_;left;refine aQ (SqL.of du.hs) (bY (j:=0) rfl) ?_;left;refine ⟨p,la,lb,v1,S1,rfl,du.c1,du.v1.mono du.s,k1.1,by omega,fun H3 s3=>?_⟩;have du:=du.mono s3;left;refine aQ (SqL.of (du.s _ _ eb)) (bY (j:=1) rfl) ?_;left;refine aQ (SqL.of du.hs) (bY (j:=1) rfl) ?_;left;refine ⟨p2,la2,lb2,v2,S2,rfl,du.c2,du.v2.mono du.s,k2.1,by omega,fun H4 s4=>?_⟩;left;exact ⟨rfl,s3.trans s4⟩
      rintro σ' H3 ⟨rfl,s3⟩;have du:=du.mono s3;clear s3;left;refine bR (by decide) ?_;left;refine aQ (SqL.of (du.s _ _ es)) (cw (by omega) (by omega)) ?_;generalize zs.getD _ 0=za;left;refine bR ⟨by decide,by decide⟩ ?_;left;refine bR (by decide) ?_;left;rcases (by omega:za / 3%2=0∨za / 3%2=1) with ez | ez
      all_goals rw [ez]
      · obtain ⟨xs,ys,f1,as⟩:=(du).step
        refine eM la2 xs f1 fun φ=>?_;obtain ⟨f2,as⟩:=as φ;refine eM lb2 ys f2 fun ψ=>?_;obtain ⟨hst,B1,W1,sB1,as⟩:=as ψ _ rfl;generalize upd (upd H3 la2 (.ext φ)) lb2 (.ext ψ)=HF at hst W1 ⊢;left;refine aQ (SqL.of (W1.s _ _ (sB1 _ _ eb))) (bY (j:=0) rfl) ?_;left;refine aQ (SqL.of hst) (bY (j:=0) rfl) ?_;left;refine bR (.inl ⟨by decide,by decide⟩) ?_;left;refine di (W1.s _ _ (sB1 _ _ es)) fun lh H4 s4 nh eh=>?_;rw [show (some ((119:Int)+10*(0+(i:Nat))):Option Int)=some ((119+10*i:Nat):Int) by congr 1; omega,c6] at eh;have lzs:10≤(zs.drop (119+10*i)).length:=by rw [List.length_drop]; omega
        generalize zs.drop (119+10*i)=hs at eh lzs;have eh':=W1.new s4 nh eh;obtain ⟨W4,sB4⟩:=(W1.mono s4).all;have sB14:=sB1.trans sB4;left;refine ⟨p,la,lb,v1,lp,lh,S1,_,hs,pl,rfl,W4,(du.v1).mono sB14,sB14 _ _ el,eh',lzs,by omega,by omega,po,k1.1,by have:=q1.2.1; omega,by have:=k1.2; omega,fun v' lb' S' B' H5 stp sB5 W5 hv5=>?_⟩;obtain ⟨hst5,as⟩:=as lb' S' B' H5 v' (sB4.trans sB5) W5 hv5;left;refine lJ hst5 (j:=0) rfl ?_;obtain ⟨g1,g2,B2,sB2,dn⟩:=as (v',v2) (.inl rfl) _ rfl;refine ⟨g1,g2,?_⟩;exact ⟨_,_,_,_,lb',lb2,S',S2,v',v2,B2,rfl,dn,sB2 _ _ es,sB2 _ _ el,sB2 _ _ eb,ka.mono sB2,ba.mono sB2,q1.stp stp,iY.more q2⟩
      · obtain ⟨xs,ys,f1,as⟩:=(du.swap).step
        refine eM la xs f1 fun φ=>?_;obtain ⟨f2,as⟩:=as φ;refine eM lb ys f2 fun ψ=>?_;obtain ⟨hst,B1,W1,sB1,as⟩:=as ψ _ rfl;generalize upd (upd H3 la (.ext φ)) lb (.ext ψ)=HF at hst W1 ⊢;left;refine aQ (SqL.of (W1.s _ _ (sB1 _ _ eb))) (bY (j:=1) rfl) ?_;left;refine aQ (SqL.of hst) (bY (j:=1) rfl) ?_;left;refine bR (.inl ⟨by decide,by decide⟩) ?_;left;refine di (W1.s _ _ (sB1 _ _ es)) fun lh H4 s4 nh eh=>?_;rw [show (some ((119:Int)+10*(0+(i:Nat))):Option Int)=some ((119+10*i:Nat):Int) by congr 1; omega,c6] at eh;have lzs:10≤(zs.drop (119+10*i)).length:=by rw [List.length_drop]; omega
        generalize zs.drop (119+10*i)=hs at eh lzs;have eh':=W1.new s4 nh eh;obtain ⟨W4,sB4⟩:=(W1.mono s4).all;have sB14:=sB1.trans sB4;left;refine ⟨p2,la2,lb2,v2,lp,lh,S2,_,hs,pl,rfl,W4,(du.v2).mono sB14,sB14 _ _ el,eh',lzs,by omega,by omega,po,k2.1,by have:=q2.2.1; omega,by have:=k2.2; omega,fun v' lb' S' B' H5 stp sB5 W5 hv5=>?_⟩;obtain ⟨hst5,as⟩:=as lb' S' B' H5 v' (sB4.trans sB5) W5 hv5;left;refine lJ hst5 (j:=1) rfl ?_;obtain ⟨g1,g2,B2,sB2,dn⟩:=as (v1,v') (.inr rfl) _ rfl;refine ⟨g1,g2,?_⟩;exact ⟨_,_,_,_,lb,lb',S1,S',v1,v',B2,rfl,dn.swap,sB2 _ _ es,sB2 _ _ el,sB2 _ _ eb,ka.mono sB2,ba.mono sB2,iY.more q1,q2.stp stp⟩
    · rintro σ' H1 ⟨p5,p6,pB,pC,lb,lb2,S1,S2,v1,v2,B,rfl,du,es,el,eb,ka,ba,q1,q2⟩
      have k1:=q1.2.2 S1.2.1 gA;have k2:=q2.2.2 S2.2.1 gA;left;refine aQ (SqL.of (du.s _ _ eb)) (bY (j:=0) rfl) ?_;left;refine aQ (SqL.of du.hs) (bY (j:=0) rfl) ?_;left;refine ⟨p,la,lb,v1,S1,rfl,du.c1,du.v1.mono du.s,k1.1,by omega,fun H2 s2=>?_⟩;have du:=du.mono s2;left;refine aQ (SqL.of (du.s _ _ eb)) (bY (j:=1) rfl) ?_;left;refine aQ (SqL.of du.hs) (bY (j:=1) rfl) ?_;left;refine ⟨p2,la2,lb2,v2,S2,rfl,du.c2,du.v2.mono du.s,k2.1,by omega,fun H3 s3=>?_⟩;have s3:=du.s.trans s3;left;obtain ⟨vs,ek,lk',kk⟩:=ka;refine ⟨⟨_,SqL.of (s3 _ _ ek)⟩,fun ln nln=>?_⟩;refine gU (K:=K) (fun i v H'=>∃ c q,cs[i]?=some c∧v=.ref q∧cU (msk [ln] H') q c) (SqL.of (s3 _ _ ek)) (by omega) nln (fun i v Ha Hb sb ⟨c,q,h1,h2,h3⟩=>⟨c,q,h1,h2,h3.mono (pT sb (by simp))⟩) (fun i x o H' Q' hx s' ⟨zs',ez⟩ qq=>?_) (fun bs H8 s8 e8 l8 r8=>?_)
      · obtain ⟨c,hc⟩:∃ c,cs[i]?=some c:=⟨_,List.getElem?_eq_getElem (by have:=(List.getElem?_eq_some_iff.mp hx).1; omega)⟩
        obtain ⟨xc,rfl,hcl,_⟩:=kk i x c hx hc;left;refine ⟨xc,c.1,c.2.1,c.2.2,rfl,hcl.mono (s3.trans s'),fun tp ca ra H8 s8 nc nr t1 t2 t3=>?_⟩;have n1:∀ {y:Addr},H' y=none→y∉[ln]:=fun {y} n z=>by rw [List.mem_singleton.mp z,ez] at n; cases n
        exact qq _ H8 s8 ⟨c,tp,hc,rfl,ca,ra,cx t1 (fun z=>by rw [List.mem_singleton.mp z,s8 _ _ ez] at t1; cases t1),cx t2 (n1 nc),cx t3 (n1 nr)⟩
      obtain ⟨qs,rfl⟩:=qw fun i v e=>by obtain ⟨c,q,_,h,_⟩:=r8 i v e; exact ⟨q,h⟩
      have bn:BAt H8 ln cs:=⟨qs,e8,by rw [List.length_map] at l8; omega,fun i q' c h1 h2=>by
        obtain ⟨c',q2,h3,h4,h5⟩:=r8 i (.ref q') (by rw [List.getElem?_map,h1]; rfl);rw [h2] at h3; cases h3; cases h4;exact h5.mono dk⟩
      left;exact ⟨.ref ln,.ref lt,.list (cs.map plD),rfl,v7 okc (by omega),pj bn,pj (ba.mono (s3.trans s8)),fun H' _=>z H'⟩
end
end My
namespace PySem.W.Fast
theorem tw12901442141989990370:True:=⟨⟩
theorem tw3474982066164391194:True:=⟨⟩
theorem tw3235593166477399174:True:=⟨⟩
theorem tw931147405681327037:True:=⟨⟩
theorem tw5330212040556755165:True:=⟨⟩
theorem tw17639277536838513088:True:=⟨⟩
theorem tw4840365458430675760:True:=⟨⟩
theorem tw10575436239671649819:True:=⟨⟩
theorem tw1045463147982707481:True:=⟨⟩
theorem tw13100251007376363437:True:=⟨⟩
theorem tw1108193713618612750:True:=⟨⟩
theorem tw13414841631127017351:True:=⟨⟩
theorem tw3700001009323794774:True:=⟨⟩
theorem tw4459337318788476874:True:=⟨⟩
theorem tw11247076543064378826:True:=⟨⟩
theorem tw16388504367117133762:True:=⟨⟩
theorem tw9863436390261431167:True:=⟨⟩
theorem tw16562494146549419346:True:=⟨⟩
theorem tw13313643013150877021:True:=⟨⟩
theorem tw14645609479113810177:True:=⟨⟩
theorem tw4080883010093927857:True:=⟨⟩
theorem tw5096995363946626813:True:=⟨⟩
theorem tw17359851521207196719:True:=⟨⟩
theorem tw9271063987356492161:True:=⟨⟩
theorem tw12588987995908170974:True:=⟨⟩
theorem tw14496319579436840527:True:=⟨⟩
theorem tw457293381406849983:True:=⟨⟩
theorem tw3062235210767082218:True:=⟨⟩
theorem tw3161157336871374413:True:=⟨⟩
theorem tw15870659960344386960:True:=⟨⟩
theorem tw16613179366297271760:True:=⟨⟩
theorem tw15248823348311303758:True:=⟨⟩
theorem tw14264508603184491763:True:=⟨⟩
theorem tw16450648194304561315:True:=⟨⟩
theorem tw3398278433909877386:True:=⟨⟩
theorem tw17930246351368182431:True:=⟨⟩
theorem tw12112504941454431641:True:=⟨⟩
theorem tw4904696202141303970:True:=⟨⟩
theorem tw10009592015195356545:True:=⟨⟩
theorem tw8791888390883331587:True:=⟨⟩
theorem tw18075467473878111785:True:=⟨⟩
theorem tw6761283850528514751:True:=⟨⟩
theorem tw8592301238375018815:True:=⟨⟩
theorem tw16963999121595714136:True:=⟨⟩
theorem tw5062889027640283158:True:=⟨⟩
theorem tw6593569827283616874:True:=⟨⟩
theorem tw6327842453981685097:True:=⟨⟩
theorem tw3860322353332765905:True:=⟨⟩
theorem tw12806591395158267355:True:=⟨⟩
theorem tw10335299525009306699:True:=⟨⟩
theorem tw14440103688187754380:True:=⟨⟩
theorem tw9431807735419024629:True:=⟨⟩
theorem tw8421134764409743579:True:=⟨⟩
theorem tw12246654227825763769:True:=⟨⟩
theorem tw10535138636748950088:True:=⟨⟩
theorem tw9579045975796443934:True:=⟨⟩
theorem tw14665961426102446349:True:=⟨⟩
theorem tw12864957956877650392:True:=⟨⟩
theorem tw2801311491750160865:True:=⟨⟩
theorem tw7767306951400369421:True:=⟨⟩
theorem tw6728244231456724584:True:=⟨⟩
theorem tw2811539373277251502:True:=⟨⟩
theorem tw961992663223408129:True:=⟨⟩
theorem tw5855518940610234881:True:=⟨⟩
theorem tw15670764536272746143:True:=⟨⟩
theorem tw13380295651486089791:True:=⟨⟩
theorem tw12172477919836002460:True:=⟨⟩
theorem tw15372174675426841142:True:=⟨⟩
theorem tw434064515417804962:True:=⟨⟩
theorem tw12116933787510161332:True:=⟨⟩
theorem tw2605062715638198400:True:=⟨⟩
theorem tw8196121742063185217:True:=⟨⟩
theorem tw9485655049627995829:True:=⟨⟩
theorem tw4874938356716661063:True:=⟨⟩
theorem tw16298839433960985112:True:=⟨⟩
theorem tw6482563097397800018:True:=⟨⟩
theorem tw1522695298907983188:True:=⟨⟩
theorem tw13298956672762370736:True:=⟨⟩
theorem tw13235088339096378538:True:=⟨⟩
theorem tw6945944267627304104:True:=⟨⟩
theorem tw2847149190259969174:True:=⟨⟩
theorem tw9225057502890509285:True:=⟨⟩
theorem tw9566906330847497502:True:=⟨⟩
theorem tw14609459742592332021:True:=⟨⟩
theorem tw7691254383519014457:True:=⟨⟩
theorem tw6997984562776576379:True:=⟨⟩
theorem tw7947892470556609502:True:=⟨⟩
theorem tw15345531102848507771:True:=⟨⟩
theorem tw6789077281266123213:True:=⟨⟩
theorem tw10452298047022520891:True:=⟨⟩
theorem tw3770565023172401902:True:=⟨⟩
theorem tw7156702737400112825:True:=⟨⟩
theorem tw2358180232437412303:True:=⟨⟩
theorem tw5432494289163378481:True:=⟨⟩
theorem tw7223719233757563369:True:=⟨⟩
theorem tw15647087794151079683:True:=⟨⟩
theorem tw18295743027793152775:True:=⟨⟩
theorem tw12582742193247660359:True:=⟨⟩
theorem tw13115595875884002675:True:=⟨⟩
theorem tw13952358429028330065:True:=⟨⟩
theorem tw15521767418918446360:True:=⟨⟩
theorem tw8275904768722436716:True:=⟨⟩
theorem tw9943890460987427939:True:=⟨⟩
theorem tw3842181696080885444:True:=⟨⟩
theorem tw8189193501556288172:True:=⟨⟩
theorem tw4399019036588649627:True:=⟨⟩
theorem tw2853579172831570884:True:=⟨⟩
theorem tw17702108960345209031:True:=⟨⟩
theorem tw11944071182575969987:True:=⟨⟩
theorem tw4082963034736639576:True:=⟨⟩
theorem tw10342884063456462903:True:=⟨⟩
theorem tw14847364005517445069:True:=⟨⟩
theorem tw8495046432836739182:True:=⟨⟩
theorem tw3527856783379558434:True:=⟨⟩
theorem tw3717138434833511325:True:=⟨⟩
theorem tw10102724991173050209:True:=⟨⟩
theorem tw8206819102722767102:True:=⟨⟩
theorem tw11699917797829517142:True:=⟨⟩
theorem tw9775649979697598232:True:=⟨⟩
theorem tw12999475829180990605:True:=⟨⟩
theorem tw9146607084939527985:True:=⟨⟩
theorem tw11856983100727523513:True:=⟨⟩
theorem tw13976327926173623158:True:=⟨⟩
theorem tw705650261612206153:True:=⟨⟩
theorem tw7528178200054045614:True:=⟨⟩
theorem tw18347306799147966949:True:=⟨⟩
theorem tw9840429672272964080:True:=⟨⟩
theorem tw11099273583744358038:True:=⟨⟩
theorem tw5544127125670476934:True:=⟨⟩
theorem tw8020688039591636205:True:=⟨⟩
theorem tw5026702375734771654:True:=⟨⟩
theorem tw7090317070124718776:True:=⟨⟩
theorem tw11485931048271040383:True:=⟨⟩
theorem tw4620759143186627643:True:=⟨⟩
theorem tw6753260938600932161:True:=⟨⟩
theorem tw15932903852312501019:True:=⟨⟩
theorem tw11713734838560799665:True:=⟨⟩
theorem tw15296548145873961457:True:=⟨⟩
theorem tw14140560194354700712:True:=⟨⟩
theorem tw4964581491386858219:True:=⟨⟩
theorem tw9465739940213640591:True:=⟨⟩
theorem tw7670719176326060139:True:=⟨⟩
theorem tw11983810491156551285:True:=⟨⟩
theorem tw5338170630395945070:True:=⟨⟩
theorem tw5043292236963328156:True:=⟨⟩
theorem tw11775616148378132537:True:=⟨⟩
theorem tw9569817300202856609:True:=⟨⟩
theorem tw17815656105503523474:True:=⟨⟩
theorem tw6712058467594114340:True:=⟨⟩
theorem tw17498886034700274176:True:=⟨⟩
theorem tw6955906490950411194:True:=⟨⟩
theorem tw1264966785700038477:True:=⟨⟩
theorem tw9060424854238213130:True:=⟨⟩
theorem tw13561339408730648338:True:=⟨⟩
theorem tw7311959449555929401:True:=⟨⟩
theorem tw8423011603211338012:True:=⟨⟩
theorem tw9491373602253567325:True:=⟨⟩
theorem tw8458009516082496265:True:=⟨⟩
theorem tw15448740846728632766:True:=⟨⟩
theorem tw6312630848245284252:True:=⟨⟩
theorem tw2497530480478856678:True:=⟨⟩
theorem tw9946426463320852043:True:=⟨⟩
theorem tw9263293095732571960:True:=⟨⟩
theorem tw17623323668968697167:True:=⟨⟩
theorem tw1061965646240818475:True:=⟨⟩
theorem tw12018275321531826337:True:=⟨⟩
theorem tw12466247121745199085:True:=⟨⟩
theorem tw17389888726034295727:True:=⟨⟩
theorem tw17993560553335817990:True:=⟨⟩
theorem tw15937200285762621456:True:=⟨⟩
theorem tw11930714859883822643:True:=⟨⟩
theorem tw12514034255490890417:True:=⟨⟩
theorem tw15988896525575671015:True:=⟨⟩
theorem tw4437949354038730669:True:=⟨⟩
theorem tw12688875459659099003:True:=⟨⟩
theorem tw2134857214141218793:True:=⟨⟩
theorem tw17150710201406451005:True:=⟨⟩
theorem tw6821790978462713521:True:=⟨⟩
theorem tw103398202399960510:True:=⟨⟩
theorem tw5882113106307651320:True:=⟨⟩
theorem tw10329684952075630686:True:=⟨⟩
theorem tw4799692375811147010:True:=⟨⟩
theorem tw10827547023402081179:True:=⟨⟩
theorem tw6824585623697040426:True:=⟨⟩
theorem tw7634049161867399318:True:=⟨⟩
theorem tw16656121421308573432:True:=⟨⟩
theorem tw15294537507765403191:True:=⟨⟩
theorem tw7369825810632560642:True:=⟨⟩
theorem tw14141182755584243306:True:=⟨⟩
theorem tw4944723174814003859:True:=⟨⟩
theorem tw6580349887530463119:True:=⟨⟩
theorem tw17441711093042325648:True:=⟨⟩
theorem tw2363957930733572897:True:=⟨⟩
theorem tw7793794210526554487:True:=⟨⟩
theorem tw8625703589418653779:True:=⟨⟩
theorem tw2484618863385822569:True:=⟨⟩
theorem tw10273813823698219913:True:=⟨⟩
theorem tw16892106327863606223:True:=⟨⟩
theorem tw12912860420778338517:True:=⟨⟩
theorem tw3528388236505219744:True:=⟨⟩
theorem tw15734052690790197484:True:=⟨⟩
theorem tw4052622657181300904:True:=⟨⟩
theorem tw9823394607861864627:True:=⟨⟩
theorem tw13215243365049869050:True:=⟨⟩
theorem tw12394493179397256575:True:=⟨⟩
theorem tw3990395546762775535:True:=⟨⟩
theorem tw7271173663429981887:True:=⟨⟩
theorem tw9045459629389358267:True:=⟨⟩
theorem tw1136330929594976287:True:=⟨⟩
theorem tw2466256880329259784:True:=⟨⟩
theorem tw1173049673922425836:True:=⟨⟩
theorem tw6144641559653299467:True:=⟨⟩
theorem tw17844455611130233700:True:=⟨⟩
theorem tw5708781739267997255:True:=⟨⟩
theorem tw9643882199720397310:True:=⟨⟩
theorem tw991966089023219171:True:=⟨⟩
theorem tw14141094611830489939:True:=⟨⟩
theorem tw5232353197028920433:True:=⟨⟩
theorem tw18125435896991755163:True:=⟨⟩
theorem tw14274184682585840748:True:=⟨⟩
theorem tw8567337369958502286:True:=⟨⟩
theorem tw16503816037915800620:True:=⟨⟩
theorem tw13092449887596161104:True:=⟨⟩
theorem tw13017685276413191024:True:=⟨⟩
theorem tw14419900650323268345:True:=⟨⟩
theorem tw12825503139172860614:True:=⟨⟩
theorem tw2884729669095019328:True:=⟨⟩
theorem tw741863837098379913:True:=⟨⟩
theorem tw12994137884572319022:True:=⟨⟩
theorem tw12891009075561421914:True:=⟨⟩
theorem tw5556517199428168116:True:=⟨⟩
theorem tw4446795911547485996:True:=⟨⟩
theorem tw4424262658118479841:True:=⟨⟩
theorem tw14157627647992897824:True:=⟨⟩
theorem tw9043178159896556366:True:=⟨⟩
theorem tw11416391303849383127:True:=⟨⟩
theorem tw11578742059986602021:True:=⟨⟩
theorem tw1425061223569163973:True:=⟨⟩
theorem tw4295716177422432979:True:=⟨⟩
theorem tw13241482027763886621:True:=⟨⟩
theorem tw13744849055989964449:True:=⟨⟩
theorem tw2169410840300260148:True:=⟨⟩
theorem tw11463208206141024711:True:=⟨⟩
theorem tw1005853618467393431:True:=⟨⟩
theorem tw15286164094266898988:True:=⟨⟩
theorem tw1314834886865336493:True:=⟨⟩
theorem tw15689951507815169943:True:=⟨⟩
theorem tw8382234528832973990:True:=⟨⟩
theorem tw6164441341161584570:True:=⟨⟩
theorem tw15069188330013444449:True:=⟨⟩
theorem tw3664364808488031674:True:=⟨⟩
theorem tw5316554793798492139:True:=⟨⟩
theorem tw1430006194058298347:True:=⟨⟩
theorem tw15368405990098931416:True:=⟨⟩
theorem tw7965812088569444856:True:=⟨⟩
theorem tw9339705971961704265:True:=⟨⟩
theorem tw10206378642903300735:True:=⟨⟩
theorem tw11921991119481487651:True:=⟨⟩
theorem tw9080699070544348680:True:=⟨⟩
theorem tw17620185299553710541:True:=⟨⟩
theorem tw11206418352006647851:True:=⟨⟩
theorem tw5971053733851115121:True:=⟨⟩
theorem tw6646833050595559080:True:=⟨⟩
theorem tw15794297937150998177:True:=⟨⟩
theorem tw6815217608002776119:True:=⟨⟩
theorem tw11134681858143394164:True:=⟨⟩
theorem tw8054167657853883800:True:=⟨⟩
theorem tw4207021594526951919:True:=⟨⟩
theorem tw13389472688357849285:True:=⟨⟩
theorem tw11748894898725226888:True:=⟨⟩
theorem tw1226760316211519623:True:=⟨⟩
theorem tw13897578163822574642:True:=⟨⟩
theorem tw4849656495455255470:True:=⟨⟩
theorem tw573373747117746208:True:=⟨⟩
theorem tw8108159923394718360:True:=⟨⟩
theorem tw1658161337476843251:True:=⟨⟩
theorem tw12984972241871810949:True:=⟨⟩
theorem tw13628268831128977256:True:=⟨⟩
theorem tw3263727115478736494:True:=⟨⟩
theorem tw3117815972294915133:True:=⟨⟩
theorem tw4055349134112935534:True:=⟨⟩
theorem tw11024009155490846533:True:=⟨⟩
theorem tw6325771086951505231:True:=⟨⟩
theorem tw5407484272235768933:True:=⟨⟩
theorem tw15515331391361243006:True:=⟨⟩
theorem tw8014734512904441864:True:=⟨⟩
theorem tw1528238663891594422:True:=⟨⟩
theorem tw608664357830157244:True:=⟨⟩
theorem tw3040966498817915139:True:=⟨⟩
theorem tw6408482450094995301:True:=⟨⟩
theorem tw15579064681322279518:True:=⟨⟩
theorem tw14045561444409717770:True:=⟨⟩
theorem tw3290130448772387828:True:=⟨⟩
theorem tw6142231133578084060:True:=⟨⟩
theorem tw9926464067085474525:True:=⟨⟩
theorem tw15807678149629265391:True:=⟨⟩
theorem tw12553360876276597931:True:=⟨⟩
theorem tw14247610373941991594:True:=⟨⟩
theorem tw6458444869298073790:True:=⟨⟩
theorem tw8632795536563356716:True:=⟨⟩
theorem tw1505656439725076888:True:=⟨⟩
theorem tw18444347375006839541:True:=⟨⟩
theorem tw16866371111836420217:True:=⟨⟩
theorem tw7486296682351928518:True:=⟨⟩
theorem tw4007770380499937612:True:=⟨⟩
theorem tw10854147038076349704:True:=⟨⟩
theorem tw15709002281028850922:True:=⟨⟩
theorem tw6128840899880418821:True:=⟨⟩
theorem tw13246595302348354713:True:=⟨⟩
theorem tw5170194827313134893:True:=⟨⟩
theorem tw9491811412697472664:True:=⟨⟩
theorem tw18064927910912485993:True:=⟨⟩
theorem tw16470768754827243180:True:=⟨⟩
theorem tw17225281768736764641:True:=⟨⟩
theorem tw5116308764451536964:True:=⟨⟩
theorem tw10093713618567482213:True:=⟨⟩
theorem tw779113972911642146:True:=⟨⟩
theorem tw13018866977220638858:True:=⟨⟩
theorem tw7528189196125751887:True:=⟨⟩
theorem tw13089835351009741078:True:=⟨⟩
theorem tw3276405042400064942:True:=⟨⟩
theorem tw5266405460823089343:True:=⟨⟩
theorem tw15755062549473562168:True:=⟨⟩
theorem tw12302943926570419552:True:=⟨⟩
theorem tw7138833162832495173:True:=⟨⟩
theorem tw1948034680423010331:True:=⟨⟩
theorem tw3745904588079908815:True:=⟨⟩
theorem tw7252467551132369008:True:=⟨⟩
theorem tw12192373409445184042:True:=⟨⟩
theorem tw11436615271043381292:True:=⟨⟩
theorem tw1668845731223681647:True:=⟨⟩
theorem tw12955037516224919933:True:=⟨⟩
theorem tw7233925208670728070:True:=⟨⟩
theorem tw3752292258322899523:True:=⟨⟩
theorem tw17015660152362143326:True:=⟨⟩
theorem tw12572250397919123537:True:=⟨⟩
theorem tw12422599870383677760:True:=⟨⟩
theorem tw3212333372124887969:True:=⟨⟩
theorem tw5714620709654267829:True:=⟨⟩
theorem tw13504910633990890614:True:=⟨⟩
theorem tw10420001815767164244:True:=⟨⟩
theorem tw13081092073743985191:True:=⟨⟩
theorem tw8849387991139223474:True:=⟨⟩
theorem tw351213413679394811:True:=⟨⟩
theorem tw11195387186011558556:True:=⟨⟩
theorem tw10224632228717486855:True:=⟨⟩
theorem tw1149115301265230831:True:=⟨⟩
theorem tw17500212081087568096:True:=⟨⟩
theorem tw8553526616980934040:True:=⟨⟩
theorem tw17813412874966953290:True:=⟨⟩
theorem tw2141389485176376391:True:=⟨⟩
theorem tw8841105314960422662:True:=⟨⟩
theorem tw5091577503326528273:True:=⟨⟩
theorem tw17954997278724520081:True:=⟨⟩
theorem tw12160089842233857950:True:=⟨⟩
theorem tw12029379220313297796:True:=⟨⟩
theorem tw8344650586158942542:True:=⟨⟩
theorem tw13334540278429062872:True:=⟨⟩
theorem tw277414940757341507:True:=⟨⟩
theorem tw7568657012763895840:True:=⟨⟩
theorem tw6869913559507013119:True:=⟨⟩
theorem tw9795560673921452365:True:=⟨⟩
theorem tw13042815606631358486:True:=⟨⟩
theorem tw18144165836996866749:True:=⟨⟩
theorem tw5490221368412600715:True:=⟨⟩
theorem tw12969328561785932745:True:=⟨⟩
theorem tw6251692797875681257:True:=⟨⟩
theorem tw14982783829612947758:True:=⟨⟩
end PySem.W.Fast
open PySem PySem.W PyProof.Rows
set_option maxRecDepth 100000 in
set_option maxHeartbeats 0 in
theorem PySem.Challenge.cw_sashiko_k53_chests_apart_holds : PySem.Challenge.rw_sashiko_k53_chests_apart.Holds := by
 w_on; o_law; k_head; (case hw=>w_witness2)
 k_fill
 refine L2.walk_ofK (l:=PySem.Challenge.rw_sashiko_k53_chests_apart) (n:=63) (k:=16) (x:="_law_script") (CX:=L2.CX0) (sp:=My.sp_law) rfl (by decide) rfl ⟨rfl,by decide,by decide⟩ (fun w h Y=>PySem.W.kIn_of Y) ?F ?S ?C
 case F =>
  intro w mg fa h KX G hmg
  have T:∃ t:My.Ad,My.Txt (L2.KOf KX) mg t:=by
   dsimp only [L2.KOf];refine' My.txt_mk KX G ?aC_bs ?ga_bs ?rd_bs ?aC_ae ?pg_ae ?hd_ae ?po_ae ?sa_ae ?mk_ae ?kc_ae ?naC_cloths ?naC_ahead_of_deeds ?naC_behind_undone ?aC_ai ?pg_ai ?hd_ai ?po_ai ?sa_ai ?mk_ai ?kc_ai ?na_columns_count ?na_rows_count ?na_col_bits ?na_row_bits ?na_first_colour ?F_a6 ?oi_ag ?of_ag ?ok_ag ?os_ag ?om_ag ?ox_ag ?a_a4 ?F_a4 ?a_aG ?F_aG ?a_bn ?F_bn ?a_a8 ?F_a8 ?a_bc ?F_bc ?a_a5 ?F_a5 ?fc_aX ?F_aX ?a_aw ?i_aw ?F_aw ?a_ao ?i_ao ?F_ao ?a_ay ?i_ay ?F_ay ?a_aD ?i_aD ?F_aD ?a_au ?i_au ?F_au ?a_ar ?i_ar ?F_ar ?a_al ?i_al ?F_al ?a_aI ?i_aI ?F_aI ?a_aq ?i_aq ?F_aq ?a_a9 ?F_a9 ?a_ap ?F_ap ?a_aS ?F_aS ?a_bi ?F_bi ?a_put ?F_put ?a_putsew ?a_cut ?F_cut ?a_cutsew ?a_aU ?F_aU ?a_bj ?F_bj ?a_aA ?F_aA ?a_az ?F_az ?a_bl ?F_bl ?a_aQ ?i_aQ ?F_aQ ?a_aB ?i_aB ?F_aB ?a_am ?i_am ?F_am ?a_an ?i_an ?F_an ?a_av ?i_av ?F_av ?a_aj ?i_aj ?F_aj ?a_a0 ?i_a0 ?F_a0 ?a_aJ ?i_aJ ?F_aJ ?a_aO ?i_aO ?F_aO ?a_a1 ?i_a1 ?F_a1 ?a_aZ ?i_aZ ?F_aZ ?a_a2 ?i_a2 ?F_a2 ?a_aE ?i_aE ?F_aE ?a_aP ?i_aP ?F_aP ?a_aN ?i_aN ?F_aN ?a_at ?i_at ?F_at ?a_as ?i_as ?F_as ?a_aK ?i_aK ?F_aK ?a_bb ?F_bb ?a_a7 ?F_a7 ?a_bo ?F_bo ?a_bq ?F_bq ?a_Ldo ?F_Ldo ?a_ba ?F_ba ?a_bm ?F_bm ?a_aV ?F_aV ?a_be ?F_be ?a_bd ?F_bd ?a_aM ?F_aM ?a_aC ?F_aC ?a_aT ?F_aT ?a_aF ?F_aF ?a_aY ?F_aY ?a_bg ?F_bg ?a_aW ?F_aW ?a_aL ?F_aL ?a_ax ?F_ax ?a_aR ?F_aR ?a_aH ?F_aH ?a_law ?F_law ?aX_a3 ?aX_ag ?aX_ac ?aX_ah ?aX_bp ?aX_af ?aX_ad ?aX_ak ?aX_ab ?aX_aa ?bb ?bm ?bt ?nb ?nm ?nt ?ogs ?otk ?x_ac ?xg_BadSize ?sb_ac ?sn_ac ?kt_ac_ad ?kt_ac_ak ?kt_ac_ab ?kt_ac_af ?kt_ac_ah ?kt_ac_ac ?kt_ac_aa ?kt_ac_ag ?kv_ac ?x_ah ?xg_BadBit ?sb_ah ?sn_ah ?kt_ah_ad ?kt_ah_ak ?kt_ah_ab ?kt_ah_af ?kt_ah_ah ?kt_ah_ac ?kt_ah_aa ?kt_ah_ag ?kv_ah ?x_bp ?xg_NoCell ?sb_bp ?x_af ?xg_NoLine ?sb_af ?sn_af ?kt_af_ad ?kt_af_ak ?kt_af_ab ?kt_af_af ?kt_af_ah ?kt_af_ac ?kt_af_aa ?kt_af_ag ?kv_af ?x_ad ?xg_BadName ?sb_ad ?sn_ad ?kt_ad_ad ?kt_ad_ak ?kt_ad_ab ?kt_ad_af ?kt_ad_ah ?kt_ad_ac ?kt_ad_aa ?kt_ad_ag ?kv_ad ?x_ak ?xg_Taken ?sb_ak ?sn_ak ?kt_ak_ad ?kt_ak_ak ?kt_ak_ab ?kt_ak_af ?kt_ak_ah ?kt_ak_ac ?kt_ak_aa ?kt_ak_ag ?kv_ak ?x_ab ?xg_NoCloth ?sb_ab ?sn_ab ?kt_ab_ad ?kt_ab_ak ?kt_ab_ab ?kt_ab_af ?kt_ab_ah ?kt_ab_ac ?kt_ab_aa ?kt_ab_ag ?kv_ab ?x_aa ?xg_NothingLeft ?sb_aa ?sn_aa ?kt_aa_ad ?kt_aa_ak ?kt_aa_ab ?kt_aa_af ?kt_aa_ah ?kt_aa_ac ?kt_aa_aa ?kt_aa_ag ?kv_aa ?bg ?br ?ba ?nx_Unfit_at ?xg_Unfit ?sb_ag ?sc_ag ?kt_ag_ad ?kt_ag_ak ?kt_ag_ab ?kt_ag_af ?kt_ag_ah ?kt_ag_ac ?kt_ag_aa ?kt_ag_ag ?v_LONGEST_SIDE ?v_LONGEST_NAME ?z_bh ?z_int ?z_bool ?z_all ?z_len ?z_bf ?z_list ?z_br ?z_abs ?z_sum ?z_min ?z_max ?z_str ?z_zip ?z_bt ?z_bk ?z_dict
   (case aC_bs | aC_ae | aC_ai | aX_a3 | aX_ag | aX_ac | aX_ah | aX_bp | aX_af | aX_ad | aX_ak | aX_ab | aX_aa | a_a4 | a_aG | a_bn | a_a8 | a_bc | a_a5 | a_a9 | a_ap | a_aS | a_bi | a_put | a_putsew | a_cut | a_cutsew | a_aU | a_bj | a_aA | a_az | a_bl | a_bb | a_a7 | a_bo | a_bq | a_Ldo | a_ba | a_bm | a_aV | a_be | a_bd | a_aM | a_aC | a_aT | a_aF | a_aY | a_bg | a_aW | a_aL | a_ax | a_aR | a_aH | a_law=>(unfold My.QNs; k_is))
   (case z_bh | z_int | z_bool | z_all | z_len | z_bf | z_list | z_br | z_abs | z_sum | z_min | z_max | z_str | z_zip | z_bt | z_bk | z_dict=>(unfold My.QNn; k_is))
   (case oi_ag | a_aw | a_ao | a_ay | a_aD | a_au | a_ar | a_al | a_aI | a_aq | a_aQ | a_aB | a_am | a_an | a_av | a_aj | a_a0 | a_aJ | a_aO | a_a1 | a_aZ | a_a2 | a_aE | a_aP | a_aN | a_at | a_as | a_aK=>(unfold My.QFi; k_is))
   (case ga_bs | rd_bs | pg_ae | hd_ae | po_ae | sa_ae | mk_ae | kc_ae | pg_ai | hd_ai | po_ai | sa_ai | mk_ai | kc_ai | of_ag | ok_ag | os_ag | om_ag | fc_aX | bb | bm | bt | nb | nm | nt | ogs | otk | sb_ac | sn_ac | sb_ah | sn_ah | sb_bp | sb_af | sn_af | sb_ad | sn_ad | sb_ak | sn_ak | sb_ab | sn_ab | sb_aa | sn_aa | bg | br | ba | sb_ag | sc_ag | v_LONGEST_SIDE | v_LONGEST_NAME=>k_is)
   (case ox_ag=>(refine' L2.exi_mk ?xa ?xb ?xc ?xd ?xe ?xf; (case xa=>k_is); (case xb=>rfl); (case xc=>rfl); (case xd=>rfl); (case xe=>rfl); (case xf=>k_exc)))
   (case naC_cloths | naC_ahead_of_deeds | naC_behind_undone | na_columns_count | na_rows_count | na_col_bits | na_row_bits | na_first_colour | nx_Unfit_at=>(unfold My.QFn; k_is))
   (case i_aw | i_ao | i_ay | i_aD | i_au | i_ar | i_al | i_aI | i_aq | i_aQ | i_aB | i_am | i_an | i_av | i_aj | i_a0 | i_aJ | i_aO | i_a1 | i_aZ | i_a2 | i_aE | i_aP | i_aN | i_at | i_as | i_aK=>(unfold My.QIf; k_is))
   (case kt_ac_ad | kt_ac_ak | kt_ac_ab | kt_ac_af | kt_ac_ah | kt_ac_ac | kt_ac_aa | kt_ac_ag | kt_ah_ad | kt_ah_ak | kt_ah_ab | kt_ah_af | kt_ah_ah | kt_ah_ac | kt_ah_aa | kt_ah_ag | kt_af_ad | kt_af_ak | kt_af_ab | kt_af_af | kt_af_ah | kt_af_ac | kt_af_aa | kt_af_ag | kt_ad_ad | kt_ad_ak | kt_ad_ab | kt_ad_af | kt_ad_ah | kt_ad_ac | kt_ad_aa | kt_ad_ag | kt_ak_ad | kt_ak_ak | kt_ak_ab | kt_ak_af | kt_ak_ah | kt_ak_ac | kt_ak_aa | kt_ak_ag | kt_ab_ad | kt_ab_ak | kt_ab_ab | kt_ab_af | kt_ab_ah | kt_ab_ac | kt_ab_aa | kt_ab_ag | kt_aa_ad | kt_aa_ak | kt_aa_ab | kt_aa_af | kt_aa_ah | kt_aa_ac | kt_aa_aa | kt_aa_ag | kt_ag_ad | kt_ag_ak | kt_ag_ab | kt_ag_af | kt_ag_ah | kt_ag_ac | kt_ag_aa | kt_ag_ag=>(unfold My.QKt; kit_is))
   (case x_ac | x_ah | x_bp | x_af | x_ad | x_ak | x_ab | x_aa=>(unfold My.QXc; k_exc))
   (case F_a6 | F_a4 | F_aG | F_bn | F_a8 | F_bc | F_a5 | F_aX | F_aw | F_ao | F_ay | F_aD | F_au | F_ar | F_al | F_aI | F_aq | F_a9 | F_ap | F_aS | F_bi | F_put | F_cut | F_aU | F_bj | F_aA | F_az | F_bl | F_aQ | F_aB | F_am | F_an | F_av | F_aj | F_a0 | F_aJ | F_aO | F_a1 | F_aZ | F_a2 | F_aE | F_aP | F_aN | F_at | F_as | F_aK | F_bb | F_a7 | F_bo | F_bq | F_Ldo | F_ba | F_bm | F_aV | F_be | F_bd | F_aM | F_aC | F_aT | F_aF | F_aY | F_bg | F_aW | F_aL | F_ax | F_aR | F_aH | F_law=>exact L2.fun_mk (by k_is) (by k_is) (by k_is))
   (case xg_BadSize | xg_BadBit | xg_NoCell | xg_NoLine | xg_BadName | xg_Taken | xg_NoCloth | xg_NothingLeft | xg_Unfit=>exact ⟨by k_is,by k_is,by k_is,by k_is,by k_is⟩)
   (case kv_ac | kv_ah | kv_af | kv_ad | kv_ak | kv_ab | kv_aa=>kit_is)
  obtain ⟨t,T⟩:=T;have e0:=hmg.symm.trans T.mg_law
  cases e0;exact ⟨t.d_law,T.F_law.bl fun _ _ _ _ _ _ _=>rfl,fun base _ _=>My.Ci T⟩
 case S=>exact fun K H a ns hl _ hS=>⟨a,ns,rfl,hS,hl,fun _=>rfl⟩
 case C=>exact fun _ _ _ _ z=>z
