import PyProof.Rows.All
import Wide.All
import OpenK.AllK
import Wide.FinOn
import Lean
import PyProof.EqAt
import PyProof.EqKinds
import PyProof.TupleCall
import PyProof.NeKinds
import KE.KSortTup
import KE.KItemsList
import KE.KPairComp
import KE.KDictOf
import PyProof.AttrMissHeap
import PySem.Challenge.RW_sashiko_k20_whole_fences_part
import KE.KDictSum
set_option Elab.async false
set_option linter.all false
set_option maxRecDepth 100000
namespace L2
open PySem PySem.Spec PyProof.Rows
noncomputable abbrev Key:=Sum Int Str
noncomputable def jJ:Key→Value→Bool
 | .inl k,v=>Value.isInt k v
 | .inr x,v=>Value.isStrOf x v
noncomputable def B2 (w:World):Key→Int
 | .inl k=>hashInt k
 | .inr x=>hashStr w x
theorem bJ:∀ {k:Key} {v:Value},jJ k v=true→(∃ i t,k=Sum.inl i∧v=Value.int i t)∨(∃ x t,k=Sum.inr x∧v=Value.str x t)
 | .inl i,v,h=>by
  obtain ⟨t,e⟩:=Value.isInt_shape (k:=i) (v:=v) h;exact .inl ⟨i,t,rfl,e⟩
 | .inr x,v,h=>by
  obtain ⟨t,e⟩:=Value.isStrOf_shape (x:=x) (v:=v) h;exact .inr ⟨x,t,rfl,e⟩
theorem si (i:Int) (t:Tok):jJ (.inl i) (.int i t)=true:=by simp [jJ,Value.isInt]
theorem sj (x:Str) (t:Tok):jJ (.inr x) (.str x t)=true:=by simp [jJ,Value.isStrOf]
theorem zQ (a b:Int):decide ((Sum.inl a:Key)=Sum.inl b)=(a==b):=by
 by_cases e:a=b
 ·subst e; simp
 ·have h:¬ (Sum.inl a:Key)=Sum.inl b:=fun q=>e (Sum.inl.inj q);rw [decide_eq_false h];exact (beq_eq_false_iff_ne.mpr e).symm
theorem zT (a b:Str):decide ((Sum.inr a:Key)=Sum.inr b)=decide (a=b):=by
 by_cases e:a=b
 ·subst e; simp
 ·have h:¬ (Sum.inr a:Key)=Sum.inr b:=fun q=>e (Sum.inr.inj q);rw [decide_eq_false h,decide_eq_false e]
theorem zR (a:Int) (b:Str):decide ((Sum.inl a:Key)=Sum.inr b)=false:=decide_eq_false (fun q=>nomatch q)
theorem zS (a:Str) (b:Int):decide ((Sum.inr a:Key)=Sum.inl b)=false:=decide_eq_false (fun q=>nomatch q)
noncomputable def a8 (prog:Program) (w:World):PySem.KeyKind prog w Key where
 is:=jJ
 hash:=B2 w
 inj:=fun v a b ha hb=>by
  rcases bJ ha with ⟨i,t,rfl,rfl⟩ | ⟨x,t,rfl,rfl⟩
  ·rcases bJ hb with ⟨j,u,rfl,e⟩ | ⟨y,u,rfl,e⟩
   ·injection e with e1 _; rw [e1]
   ·exact nomatch e
  ·rcases bJ hb with ⟨j,u,rfl,e⟩ | ⟨y,u,rfl,e⟩
   ·exact nomatch e
   ·injection e with e1 _; rw [e1]
 byValue:=fun k v h=>by
  rcases bJ h with ⟨i,t,rfl,rfl⟩ | ⟨x,t,rfl,rfl⟩<;>rfl
 pyHash:=fun hv h=>by
  rcases bJ hv with ⟨i,t,rfl,rfl⟩ | ⟨x,t,rfl,rfl⟩
  ·exact wpAny_pyHash_int h
  ·exact wpAny_pyHash_str h
 eqBool:=fun hu hv h=>by
  rcases bJ hu with ⟨i,t,rfl,rfl⟩ | ⟨x,t,rfl,rfl⟩
  ·rcases bJ hv with ⟨j,u,rfl,rfl⟩ | ⟨y,u,rfl,rfl⟩
   ·rw [zQ] at h; exact wpAny_eqBool_int h
   ·rw [zR] at h; exact SeqAt.EqAt.int_str i t y u _ _ _ _ h
  ·rcases bJ hv with ⟨j,u,rfl,rfl⟩ | ⟨y,u,rfl,rfl⟩
   ·rw [zS] at h; exact SeqAt.EqAt.str_int x t j u _ _ _ _ h
   ·rw [zT] at h; exact wpAny_eqBool_str h
 «strs»:=fun k x t v h=>by
  rcases bJ h with ⟨i,u,rfl,e⟩ | ⟨y,u,rfl,e⟩
  ·exact nomatch e
  ·injection e with e1 _;subst e1
   cases v<;>rfl
theorem nQ (prog:Program) (w:World) (i:Int) (t:Tok):(a8 prog w).is (.inl i) (.int i t)=true:=si i t
theorem nR (prog:Program) (w:World) (x:Str) (t:Tok):(a8 prog w).is (.inr x) (.str x t)=true:=sj x t
inductive V where
 | non | bl (b:Bool) | int (i:Int) | str (x:Str) | byt (b:Array UInt8) | flt (b:UInt64) | ref (a:Addr) | ty (n:String)
 deriving DecidableEq
noncomputable def aQ:V→Value→Prop
 | .non,u=>u=Value.none
 | .bl b,u=>u=Value.bool b
 | .int i,u=>∃ t,u=Value.int i t
 | .str x,u=>∃ t,u=Value.str x t
 | .byt b,u=>∃ t,u=Value.bytes b t
 | .flt b,u=>∃ t,u=Value.float b t
 | .ref a,u=>u=Value.ref a
 | .ty n,u=>u=Value.type n
noncomputable abbrev Vals:List V→List Value→Prop:=Paired aQ
theorem Vals.length {xs:List V} {us:List Value} (r:Vals xs us):xs.length=us.length:=Paired.length r
theorem Vals.get:∀ {xs:List V} {us:List Value} {i:Nat} {x:V},Vals xs us→xs[i]?=some x→∃ u,us[i]?=some u∧aQ x u
 | _,_,_,_,.nil,e=>by simp at e
 | _,_,0,_,.cons r _,e=>by simp at e; subst e; exact ⟨_,rfl,r⟩
 | _,_,i+1,x,.cons _ t,e=>by
  obtain ⟨u,h1,h2⟩:=Vals.get (i:=i) (x:=x) t (by simpa using e);exact ⟨u,by simpa using h1,h2⟩
theorem Vals.append:∀ {xs ys:List V} {us ws:List Value},Vals xs us→Vals ys ws→Vals (xs++ys) (us++ws)
 | _,_,_,_,.nil,s=>s
 | _,_,_,_,.cons r t,s=>.cons r (Vals.append t s)
theorem Vals.take:∀ {xs:List V} {us:List Value} (n:Nat),Vals xs us→Vals (xs.take n) (us.take n)
 | _,_,0,_=>.nil
 | _,_,_+1,.nil=>.nil
 | _,_,n+1,.cons r t=>.cons r (Vals.take n t)
theorem Vals.drop:∀ {xs:List V} {us:List Value} (n:Nat),Vals xs us→Vals (xs.drop n) (us.drop n)
 | _,_,0,r=>r
 | _,_,_+1,.nil=>.nil
 | _,_,n+1,.cons _ t=>Vals.drop n t
noncomputable def dW:Option V→Option Value→Prop
 | some v,some u=>aQ v u
 | none,none=>True
 | _,_=>False
noncomputable def KV {κ:Type}:List (κ×V)→List (κ×Value)→Prop:=Paired fun (p:κ×V) (q:κ×Value)=>p.1=q.1∧aQ p.2 q.2
noncomputable def kV:Key→V
 | .inl i=>.int i
 | .inr x=>.str x
inductive HO where
 | lst (xs:List V)
 | tup (xs:List V)
 | dK (kvs:List (Key×V)) | dT (kvs:List (List Key×V))
 | set (S:Int→Bool) (n:Nat)
 | ins (C dx:Addr) (fs:List (Str×V))
 | own (x:Addr)
 | xd (fs:List (Str×V))
 | met (f x:Addr)
 | rng (lo hi:Int)
 | frz (o:Obj) (u:HO)
 | tbl (ps:Array Value)
 | ext (φ:Heap→Prop)
noncomputable abbrev Hp:=Addr→Option HO
noncomputable def upd (H:Hp) (a:Addr) (o:HO):Hp:=fun b=>if b=a then some o else H b
theorem ag {H:Hp} {a:Addr} {o:HO}:upd H a o a=some o:=by unfold upd; rw [if_pos rfl]
theorem aj {H:Hp} {a b:Addr} {o:HO} (h:b≠a):upd H a o b=H b:=by unfold upd; rw [if_neg h]
theorem rF {H:Hp} {a:Addr} {o u:HO}:upd (upd H a o) a u=upd H a u:=by
 funext b; unfold upd; split<;>rfl
theorem cm {H:Hp} {a b:Addr} {o u:HO} (h:H a=some o) (h':H b=some u) (d:o≠u):a≠b:=by
 intro e; subst e; rw [h] at h'; exact d (Option.some.inj h')
theorem bM {H:Hp} {a b:Addr} {o:HO} (h:H a=some o) (h':H b=none):a≠b:=by
 intro e; subst e; rw [h] at h'; cases h'
section
variable (P:Program) (w:World)
noncomputable def bg (H:Hp) (h:Heap) (a:Addr):HO→Prop
  | .lst xs => xs.length ≤ sizeLine ∧ ∃ (its : List Value) (n : Nat), Vals xs its ∧ h.get? a = some { cls := .type "list", data := .seq its.toArray n }
  | .tup xs => xs.length ≤ sizeLine ∧ ∃ its : List Value, Vals xs its ∧ IsTup h a its.toArray
  | .dK kvs => kvs.length ≤ sizeLine ∧ (a == sysModules) = false ∧ ∃ vs, KV kvs vs ∧ h.DictOf (a8 P w) a vs
  | .dT kvs => kvs.length ≤ sizeLine ∧ (a == sysModules) = false ∧ ∃ xs : List (List Key × Addr × Value),
      Paired (fun (p:List Key×V) (q:List Key×Addr×Value)=>p.1=q.1∧H q.2.1=some (.tup (p.1.map kV))∧aQ p.2 q.2.2) kvs xs ∧
      ∃ o es ep,h.get? a=some o∧o.ExactDict∧o.data=.dict es ep∧es.toList=xs.map (entryOfKey (tupleKind (a8 P w)))∧(xs.map (·.1)).Nodup
  | .set S n => h.SetOf (intKind P w) a S n
  | .ins C dx fs => H dx = some (.own a) ∧ fs.length ≤ 1000 ∧ dx ≠ a ∧ h.get? a = some (W.instObj C dx) ∧
      ∃ mA,h.Ns1 dx mA∧(∀ f,dW (fs.lookup f) (mA f))∧PySem.Within mA (fs.map (·.1))
  | .own _ => ∃ o, h.get? a = some o
  | .xd fs => ∃ mA, h.Ns1 a mA ∧ ∀ f, dW (fs.lookup f) (mA f)
  | .rng lo hi => ∃ t u v, h.get? a = some { cls := .type "range", data := .fields #[.int lo t, .int hi u, .int 1 v] }
  | .frz o u => h.get? a = some o ∧ bg H h a u
  | .tbl ps => h.get? a = some { cls := .none, data := .fields ps }
  | .met f x => h.get? a = some (W.methodObj (.ref f) (.ref x))
  | .ext φ => φ h ∧ (∃ o, h.get? a = some o) ∧ ∀ h1 h2 : Heap, φ h1 → (∀ o, h1.get? a = some o → h2.get? a = some o) → φ h2
noncomputable def HOk (H:Hp) (h:Heap):Prop:=∀ a o,H a=some o→bg P w H h a o
end
section
variable {P:Program} {w:World} {H H':Hp} {h h':Heap} {a:Addr} {o:HO}
theorem bg.lt (x:bg P w H h a o):a<h.objs.size:=by
 cases o with
 | lst xs=>obtain ⟨_,_,_,_,e⟩:=x; exact Heap.lt_size e
 | tup xs=>obtain ⟨_,_,_,p⟩:=x; exact p.lt
 | dK kvs=>obtain ⟨_,_,_,_,o,_,_,e,_⟩:=x; exact Heap.lt_size e
 | dT kvs=>obtain ⟨_,_,_,_,o,_,_,e,_⟩:=x; exact Heap.lt_size e
 | set S n=>obtain ⟨o,_,_,_,e,_⟩:=x; exact Heap.lt_size e
 | ins C dx fs=>obtain ⟨_,_,_,e,_⟩:=x; exact Heap.lt_size e
 | own y=>obtain ⟨_,e⟩:=x; exact Heap.lt_size e
 | xd fs=>obtain ⟨_,⟨_,_,_,e,_⟩,_⟩:=x; exact Heap.lt_size e
 | rng lo hi=>obtain ⟨_,_,_,e⟩:=x; exact Heap.lt_size e
 | frz ob u=>obtain ⟨e,_⟩:=x; exact Heap.lt_size e
 | tbl ps=>exact Heap.lt_size (show h.get? a=some _ from x)
 | met f y=>exact Heap.lt_size (show h.get? a=some _ from x)
 | ext φ=>obtain ⟨_,⟨_,e⟩,_⟩:=x; exact Heap.lt_size e
theorem Paired.mapP {α β:Type} {F G:α→β→Prop}:∀ {l₁:List α} {l₂:List β},Paired F l₁ l₂→(∀ a b,F a b→G a b)→Paired G l₁ l₂
 | _,_,.nil,_=>.nil
 | _,_,.cons r t,f=>.cons (f _ _ r) (Paired.mapP t f)
theorem bg.stay (x:bg P w H h a o) (k:∀ b u,(b=a∨H b=some (.own a))→h.get? b=some u→h'.get? b=some u)
  (ho:∀ b,H b=some (.own a)→H' b=some (.own a)) (ht:∀ b xs,H b=some (.tup xs)→H' b=some (.tup xs)):bg P w H' h' a o:=by
 induction o with
 | lst xs=>obtain ⟨z,its,n,r,e⟩:=x; exact ⟨z,its,n,r,k _ _ (.inl rfl) e⟩
 | tup xs=>obtain ⟨z,its,r,ob,e,c⟩:=x; exact ⟨z,its,r,ob,k _ _ (.inl rfl) e,c⟩
 | dK kvs=>obtain ⟨z,y,vs,r,ob,es,ep,e,c⟩:=x; exact ⟨z,y,vs,r,ob,es,ep,k _ _ (.inl rfl) e,c⟩
 | dT kvs =>
  obtain ⟨z,y,xs,r,ob,es,ep,e,c⟩:=x;exact ⟨z,y,xs,Paired.mapP r fun p q z=>⟨z.1,ht _ _ z.2.1,z.2.2⟩,ob,es,ep,k _ _ (.inl rfl) e,c⟩
 | set S n=>obtain ⟨ob,es,ep,t,e,c⟩:=x; exact ⟨ob,es,ep,t,k _ _ (.inl rfl) e,c⟩
 | ins C dx fs =>
  obtain ⟨d,z,ne,e,mA,⟨od,es,ep,e2,c⟩,r⟩:=x;exact ⟨ho _ d,z,ne,k _ _ (.inl rfl) e,mA,⟨od,es,ep,k _ _ (.inr d) e2,c⟩,r⟩
 | own y=>obtain ⟨ob,e⟩:=x; exact ⟨ob,k _ _ (.inl rfl) e⟩
 | xd fs=>obtain ⟨mA,⟨od,es,ep,e,c⟩,r⟩:=x; exact ⟨mA,⟨od,es,ep,k _ _ (.inl rfl) e,c⟩,r⟩
 | rng lo hi=>obtain ⟨t,u,v,e⟩:=x; exact ⟨t,u,v,k _ _ (.inl rfl) e⟩
 | frz ob u ih=>obtain ⟨e,q⟩:=x; exact ⟨k _ _ (.inl rfl) e,ih q⟩
 | tbl ps =>
  have e:h.get? a=some { cls:=.none,data:=.fields ps }:=x
  show h'.get? a=some { cls:=.none,data:=.fields ps }
  exact k a _ (.inl rfl) e
 | met f y =>
  have e:h.get? a=some (W.methodObj (.ref f) (.ref y)):=x
  show h'.get? a=some (W.methodObj (.ref f) (.ref y))
  exact k a _ (.inl rfl) e
 | ext φ=>obtain ⟨p,⟨o,e⟩,st⟩:=x; exact ⟨st _ _ p fun o q=>k _ _ (.inl rfl) q,⟨o,k _ _ (.inl rfl) e⟩,st⟩
theorem HOk.lt (x:HOk P w H h) (e:H a=some o):a<h.objs.size:=(x a o e).lt
theorem HOk.fresh (x:HOk P w H h) (e:h.objs.size≤a):H a=none:=by
 cases q:H a with
 | none=>rfl
 | some u=>exact absurd (Nat.lt_of_lt_of_le (x.lt q) e) (Nat.lt_irrefl _)
theorem HOk.kept (x:HOk P w H h) (k:∀ b u,h.get? b=some u→h'.get? b=some u):HOk P w H h':=fun a o e =>
 (x a o e).stay (fun b u _ q=>k b u q) (fun _ q=>q) fun _ _ q=>q
theorem HOk.laid (x:HOk P w H h) (k:∀ b u,h.get? b=some u→h'.get? b=some u) (hp:h.objs.size≤a) (new:bg P w (upd H a o) h' a o):HOk P w (upd H a o) h':=fun b u e=>by
 have hn:=x.fresh hp;by_cases hb:b=a
 ·subst hb; rw [ag] at e; cases e; exact new
 ·rw [aj hb] at e;exact (x b u e).stay (fun c v _ q=>k c v q) (fun c q=>by rw [aj (bM q hn)]; exact q) fun c xs q=>by rw [aj (bM q hn)]; exact q
end
noncomputable def Rd (H:Hp) (a:Addr) (u:HO):Prop:=H a=some u∨∃ o,H a=some (.frz o u)
theorem Rd.ok {P:Program} {w:World} {H:Hp} {h:Heap} {a:Addr} {u:HO} (r:Rd H a u) (x:HOk P w H h):bg P w H h a u:=by
 rcases r with r | ⟨o,r⟩
 ·exact x a u r
 ·obtain ⟨_,q⟩:=x a _ r;exact q
noncomputable def Mut:Option HO→Prop
 | some (.lst _)=>True
 | some (.dK _)=>True
 | some (.dT _)=>True
 | some (.set _ _)=>True
 | some (.ins _ _ _)=>True
 | some (.ext _)=>True
 | _=>False
section
variable {P:Program} {w:World} {H:Hp} {h h':Heap} {x e:Addr} {o':HO}
theorem HOk.write (ok:HOk P w H h) (mu:Mut (H x)) (he:e=x∨H e=some (.own x)) (k:∀ b u,b≠e→h.get? b=some u→h'.get? b=some u) (heo:∃ u,h'.get? e=some u)
    (new:bg P w (upd H x o') h' x o'):HOk P w (upd H x o') h':=fun b u q=>by
  have nown:∀ c y,H c=some (.own y)→c≠x:=fun c y r z=>by subst z; rw [r] at mu; exact mu
  have ntup:∀ c xs,H c=some (.tup xs)→c≠x:=fun c xs r z=>by subst z; rw [r] at mu; exact mu
  by_cases hb:b=x
  · subst hb; rw [ag] at q; cases q; exact new
  · rw [aj hb] at q
    by_cases hbe:b=e
    · have q':H b=some (.own x):=by
        rcases he with z | z
        · exact absurd (hbe.trans z) hb
        · rw [hbe]; exact z
      rw [q] at q'; cases q';obtain ⟨v,hv⟩:=heo;exact ⟨v,by rw [hbe]; exact hv⟩
    · refine (ok b u q).stay (fun c v hc r=>k c v ?_ r) (fun c r=>by rw [aj (nown c b r)]; exact r) fun c xs r=>by rw [aj (ntup c xs r)]; exact r
      rcases hc with rfl | hc
      · exact hbe
      · rintro rfl
        rcases he with z | z
        · exact nown c b hc z
        · rw [hc] at z; cases z; exact hb rfl
end
structure Un (fs ex:List Addr) (H H':Hp) (h h':Heap):Prop where
 keep:∀ b o,h.get? b=some o→H b=none→b∉fs→b∉ex→h'.get? b=some o
 slot:∀ b o,h.get? b=some o→H b=none→b∈fs→b∉ex→∃ sl,h'.get? b=some { o with slots:=sl }
 free:∀ b o,h.get? b=some o→H b=none→b∉ex→H' b=none
 there:∀ b o,h.get? b=some o→b∉ex→∃ o',h'.get? b=some o'
 tups:∀ b xs,H b=some (.tup xs)→H' b=some (.tup xs)
 frzs:∀ b o u,H b=some (.frz o u)→H' b=some (.frz o u)
 tbls:∀ b ps,H b=some (.tbl ps)→∃ more,H' b=some (.tbl (ps++more))
section
variable {fs fs' ex ex':List Addr} {H H1 H2:Hp} {h h1 h2 h':Heap} {a x e:Addr} {o:HO}
theorem Un.any (u:Un fs ex H H1 h h1) {b:Addr} {ob:Obj} (q:h.get? b=some ob) (n:H b=none) (hx:b∉ex):∃ sl,h1.get? b=some { ob with slots:=sl }:=by
 by_cases hb:b∈fs
 ·exact u.slot b ob q n hb hx
 ·exact ⟨ob.slots,u.keep b ob q n hb hx⟩
theorem Un.trans (a:Un fs ex H H1 h h1) (b:Un fs ex H1 H2 h1 h2):Un fs ex H H2 h h2 where
 keep:=fun c ob q n hc hx=>b.keep c ob (a.keep c ob q n hc hx) (a.free c ob q n hx) hc hx
 slot:=fun c ob q n hc hx=>by
  obtain ⟨sl,e1⟩:=a.slot c ob q n hc hx;obtain ⟨sl',e2⟩:=b.slot c _ e1 (a.free c ob q n hx) hc hx;exact ⟨sl',e2⟩
 free:=fun c ob q n hx=>by
  obtain ⟨o',e1⟩:=a.there c ob q hx;exact b.free c o' e1 (a.free c ob q n hx) hx
 there:=fun c ob q hx=>by
  obtain ⟨o',e1⟩:=a.there c ob q hx;exact b.there c o' e1 hx
 tups:=fun c xs q=>b.tups c xs (a.tups c xs q)
 frzs:=fun c ob xs q=>b.frzs c ob xs (a.frzs c ob xs q)
 tbls:=fun c ps q=>by
  obtain ⟨m1,e1⟩:=a.tbls c ps q;obtain ⟨m2,e2⟩:=b.tbls c _ e1;exact ⟨m1++m2,by rw [e2,Array.append_assoc]⟩
theorem Un.kept (k:∀ b u,h.get? b=some u→h'.get? b=some u):Un fs ex H H h h' :=
 ⟨fun b ob q _ _ _=>k b ob q,fun b ob q _ _ _=>⟨ob.slots,k b ob q⟩,fun _ _ _ n _=>n,fun b ob q _=>⟨ob,k b ob q⟩,fun _ _ q=>q,fun _ _ _ q=>q,fun _ ps q=>⟨#[],by rw [q]; simp⟩⟩
theorem Un.refl:Un fs ex H H h h:=Un.kept fun _ _ q=>q
theorem Un.laid (k:∀ b u,h.get? b=some u→h'.get? b=some u) (hp:h.objs.size≤a) (hn:H a=none):Un fs ex H (upd H a o) h h' where
 keep:=fun b u q _ _ _=>k b u q
 slot:=fun b u q _ _ _=>⟨u.slots,k b u q⟩
 free:=fun b u q n _=>by rw [aj (Nat.ne_of_lt (Nat.lt_of_lt_of_le (Heap.lt_size q) hp))]; exact n
 there:=fun b u q _=>⟨u,k b u q⟩
 tups:=fun b xs q=>by rw [aj (bM q hn)]; exact q
 frzs:=fun b u xs q=>by rw [aj (bM q hn)]; exact q
 tbls:=fun b ps q=>⟨#[],by rw [aj (bM q hn),q]; simp⟩
theorem Un.write (mu:Mut (H x)) (he:e=x∨H e=some (.own x)) (k:∀ b u,b≠e→h.get? b=some u→h'.get? b=some u) (heo:∃ u,h'.get? e=some u):Un fs ex H (upd H x o) h h':=by
 have hx:∀ b,H b=none→b≠x:=fun b n z=>by subst z; rw [n] at mu; exact mu
 have hb:∀ b,H b=none→b≠e:=fun b n z=>by
  subst z;rcases he with r | r
  ·exact hx b n r
  ·rw [n] at r; cases r
 have hm:∀ b u,H b=some u→¬ Mut (some u)→b≠x:=fun b u q nm z=>by subst z; rw [q] at mu; exact nm mu
 refine ⟨fun b u q n _ _=>k b u (hb b n) q,fun b u q n _ _=>⟨u.slots,k b u (hb b n) q⟩,fun b u q n _=>by rw [aj (hx b n)]; exact n,fun b u q _=>?_,
  fun b xs q=>by rw [aj (hm b _ q fun z=>z)]; exact q,fun b u xs q=>by rw [aj (hm b _ q fun z=>z)]; exact q,fun b ps q=>⟨#[],by rw [aj (hm b _ q fun z=>z),q]; simp⟩⟩
 by_cases hbe:b=e
 ·subst hbe; exact heo
 ·exact ⟨u,k b u hbe q⟩
end
noncomputable def trk (h:Heap) (H:Hp):List Addr:=(List.range h.objs.size).filter fun a=>(H a).isSome
noncomputable def l7 (h:Heap) (H:Hp):Heap:=W.hideAll h (trk h H)
theorem rZ (h:Heap) (H:Hp):(l7 h H).objs.size=h.objs.size:=W.hideAll_size _ _
theorem uj {h:Heap} {H:Hp} {b:Addr} {o:Obj} (e:h.get? b=some o) (n:H b=none):(l7 h H).get? b=some o :=
 W.hideAll_get _ e fun hm=>by
  have q:(H b).isSome=true:=(List.mem_filter.mp hm).2;rw [n] at q; simp at q
theorem xl {h:Heap} {H:Hp} {b:Addr} {o:Obj} (e:(l7 h H).get? b=some o):h.get? b=some o∧H b=none:=by
 have e':h.get? b=some o:=W.of_hideAll (trk h H) e;refine ⟨e',?_⟩
 cases q:H b with
 | none=>rfl
 | some x =>
  have hm:b∈trk h H:=List.mem_filter.mpr ⟨List.mem_range.mpr (Heap.lt_size e'),by simp [q]⟩;have z:(l7 h H).get? b=none:=W.hideAll_none (trk h H) hm;rw [z] at e; cases e
noncomputable def wJ (g h:Heap) (L:Addr):List (Addr×Obj):=(List.range h.objs.size).filterMap fun a=>if a=L∨(g.get? a).isSome=true then none else (h.get? a).map fun o=>(a,o)
noncomputable def cW (g h:Heap) (L d:Addr):List (Addr×Obj):=(wJ g h L).filter fun p=>decide (p.1≠d)
structure Mod (K:W.Frag) (mg:Str→Option Value) (base:Heap):Prop where
 kin:K.In base
 glob:base.Ns mainGlobals mg
 blt:∃ mb,base.Ns builtinsNs mb∧∀ x:Str,x≠"__name__"→mb x=bootBuiltins x
 nolimit:base.NoLimit
structure Cx where
 prog:Program
 w:World
 K:W.Frag
 mg:Str→Option Value
 base:Heap
 A:Around
 N:List Str
 s₀:Shared
 H₀:Hp
 env:Env
 outer:List Env
 stack:List Env
 ex:List Addr
 fn:Str→Bool
 calm:Bool
 pn:List (Addr×Obj)
 xe:Value→Shared→Prop
noncomputable def frs (l:List Env):List Addr:=l.filterMap (·.frame)
noncomputable abbrev Cx.fs (X:Cx):List Addr:=frs X.outer
noncomputable def Vis (sc:Scope) (x:Str):Prop:=sc.names.lookup x=some .local∨sc.names.lookup x=some .cell∨sc.names.lookup x=some .free
noncomputable def Loc (sc:Scope) (x:Str):Prop:=sc.names.lookup x=some .local∨sc.names.lookup x=some .cell
noncomputable def BR (env:Env) (h:Heap) (m:Str→Option Value) (x:Str) (u:Value):Prop :=
 (env.kindOf x=some .local∧m x=some u)∨((env.kindOf x=some .cell∨env.kindOf x=some .free)∧∃ c,env.cells.lookup x=some c∧h.IsCell c (some u))
structure Cx.Ok (X:Cx):Prop where
 mod:Mod X.K X.mg X.base
 kind:X.env.scope.kind=.function
 glob:X.env.globals=mainGlobals
 blt:X.env.builtins=builtinsNs
 above:X.s₀.heap.objs.size≤X.env.locals
 inj:∀ x y c,X.env.cells.lookup x=some c→X.env.cells.lookup y=some c→x=y
 has:∀ x,(X.env.kindOf x=some .cell∨X.env.kindOf x=some .free)→∃ c,X.env.cells.lookup x=some c
 cab:∀ x c,X.fn x=true→X.env.cells.lookup x=some c→X.s₀.heap.objs.size≤c
 hd:X.calm=true→X.A.handled=none
 frames:X.A.frames=some X.stack
 stk:X.stack=X.outer∨(X.stack=X.env::X.outer∧X.env.frame=some X.env.locals)
 exf:∀ b∈X.ex,b≠X.env.locals∧∀ x c,X.env.cells.lookup x=some c→c≠b
 bs:∀ b o,X.base.get? b=some o→X.s₀.heap.get? b=some o∧X.H₀ b=none
 bsz:X.base.objs.size≤X.s₀.heap.objs.size
 noex:∀ b o,X.base.get? b=some o→b∉X.ex
 exfs:∀ b∈X.ex,b∉X.fs
 funs:X.s₀.heap.FunFrames X.base X.outer
 frf:∀ b∈X.fs,X.H₀ b=none
structure Inv (X:Cx) (pins:List (Addr×Obj)) (σ:List (Option V)) (H:Hp) (s:Shared):Prop where
 ok:X.Ok
 os:s.os=X.s₀.os
 bare:AllBare s.gens
 base:Un X.fs X.ex X.H₀ H X.s₀.heap s.heap
 loc:∃ m,s.heap.Ns X.env.locals m∧∀ (i:Nat) (x:Str) (v:V),X.N[i]?=some x→σ[i]?=some (some v)→Vis X.env.scope x→∃ u,aQ v u∧BR X.env s.heap m x u
 cell:∀ x c,X.env.cells.lookup x=some c→∃ v,s.heap.IsCell c v
 free:H X.env.locals=none
 freeC:∀ x c,X.env.cells.lookup x=some c→H c=none
 pin:∀ p∈X.pn++pins,s.heap.get? p.1=some p.2∧H p.1=none∧p.1≠X.env.locals∧p.1∉X.fs∧∀ v,p.2.data≠.cell v
 hok:HOk X.prog X.w H s.heap
 len:σ.length=X.N.length
section
variable {X:Cx} {pins:List (Addr×Obj)} {σ:List (Option V)} {H H':Hp} {s:Shared} {h':Heap}
theorem Cx.Ok.nofr (ok:X.Ok) {b:Addr} {o:Obj} (e:X.base.get? b=some o):b∉X.fs:=fun hb=>by
 have:=(ok.funs.mem hb).1
 rw [e] at this; cases this
theorem Inv.bs (I:Inv X pins σ H s):∀ b o,X.base.get? b=some o→s.heap.get? b=some o∧H b=none:=fun b o e =>
 ⟨I.base.keep b o (I.ok.bs b o e).1 (I.ok.bs b o e).2 (I.ok.nofr e) (I.ok.noex b o e),I.base.free b o (I.ok.bs b o e).1 (I.ok.bs b o e).2 (I.ok.noex b o e)⟩
theorem Inv.bk (I:Inv X pins σ H s):∀ b o,X.base.get? b=some o→s.heap.get? b=some o:=fun b o e=>(I.bs b o e).1
theorem Inv.mod (I:Inv X pins σ H s):Mod X.K X.mg X.base:=I.ok.mod
theorem Inv.kIn (I:Inv X pins σ H s):X.K.In s.heap:=I.ok.mod.kin.keeps I.bk
theorem Inv.lt (I:Inv X pins σ H s):X.env.locals<s.heap.objs.size:=let ⟨_,hn,_⟩:=I.loc; hn.lt
theorem Inv.sz (I:Inv X pins σ H s):X.s₀.heap.objs.size≤s.heap.objs.size:=Nat.le_trans I.ok.above (Nat.le_of_lt I.lt)
theorem Inv.nofs (I:Inv X pins σ H s) {a:Addr} (h:s.heap.objs.size≤a):a∉X.fs:=fun hb=>by
 obtain ⟨_,o,ho,_⟩:=I.ok.funs.mem hb;exact absurd (Nat.lt_of_lt_of_le (Heap.lt_size ho) (Nat.le_trans I.sz h)) (Nat.lt_irrefl _)
theorem Inv.cne (I:Inv X pins σ H s):∀ x c,X.env.cells.lookup x=some c→c≠X.env.locals:=fun x c e z=>by
 obtain ⟨v,o,ho,hd⟩:=I.cell x c e;obtain ⟨m,⟨o',es,ep,ho',hd',_⟩,_⟩:=I.loc;rw [z,ho'] at ho; cases ho; rw [hd'] at hd; cases hd
theorem Inv.funs (I:Inv X pins σ H s):s.heap.FunFrames X.base X.outer:=by
 have all:∀ (l:List Env),(∀ b∈frs l,b∈X.fs)→X.s₀.heap.FunFrames X.base l→s.heap.FunFrames X.base l:=by
  intro l
  induction l with
  | nil => intro _ _; trivial
  | cons env r ih =>
   intro hs hl;obtain ⟨hk,⟨L,o,hf,hn,ho,hd⟩,hr⟩:=hl;have hL:L∈X.fs:=hs L (by unfold frs; rw [List.filterMap_cons,hf]; exact List.mem_cons_self);obtain ⟨sl,e⟩:=I.base.slot L o ho (I.ok.frf L hL) hL fun z=>I.ok.exfs L z hL;exact ⟨hk,⟨L,_,hf,hn,e,hd⟩,ih (fun b hb=>hs b (by unfold frs; rw [List.filterMap_cons,hf]; exact List.mem_cons_of_mem _ hb)) hr⟩
 exact all X.outer (fun _ hb=>hb) I.ok.funs
theorem Inv.stack (I:Inv X pins σ H s):s.heap.FunFrames X.base X.stack:=by
 rcases I.ok.stk with e | ⟨e,hf⟩
 ·rw [e]; exact I.funs
 ·rw [e];obtain ⟨m,hn,_⟩:=I.loc;refine .cons (by rw [I.ok.kind]; decide) hf hn ?_ I.funs;exact Heap.get?_none_of_le (Nat.le_trans I.ok.bsz I.ok.above)
theorem Inv.stkSub (I:Inv X pins σ H s):∀ b∈frs X.stack,b∈X.env.locals::X.fs:=fun b hb=>by
 rcases I.ok.stk with e | ⟨e,hf⟩
 ·rw [e] at hb; exact List.mem_cons_of_mem _ hb
 ·rw [e] at hb;unfold frs at hb;rw [List.filterMap_cons,hf] at hb;exact hb
theorem Inv.stkFree (I:Inv X pins σ H s):∀ b∈frs X.stack,H b=none:=fun b hb=>by
 rcases List.mem_cons.mp (I.stkSub b hb) with e | hb
 ·rw [e]; exact I.free
 ·obtain ⟨_,o,ho,_⟩:=I.ok.funs.mem hb;exact I.base.free b o ho (I.ok.frf b hb) fun z=>I.ok.exfs b z hb
theorem Inv.step {g':Array GenState} {t':Nat} {d':Drawn} {ch:List Addr} (I:Inv X pins σ H s)
  (hch:∀ b∈ch,(b∈X.ex∨X.s₀.heap.objs.size≤b)∧b≠X.env.locals∧(∀ x c,X.env.cells.lookup x=some c→c≠b)∧∀ p∈X.pn++pins,p.1≠b)
  (keep:∀ b o,b≠X.env.locals→b∉X.fs→b∉ch→s.heap.get? b=some o→H b=none→h'.get? b=some o)
  (slot:∀ b o,b≠X.env.locals→b∈X.fs→b∉ch→s.heap.get? b=some o→H b=none→∃ sl,h'.get? b=some { o with slots:=sl }) (free:∀ b o,b∉ch→s.heap.get? b=some o→H b=none→H' b=none)
  (there:∀ b o,b∉ch→s.heap.get? b=some o→∃ o',h'.get? b=some o')
  (tups:∀ b xs,H b=some (.tup xs)→H' b=some (.tup xs)) (frzs:∀ b o u,H b=some (.frz o u)→H' b=some (.frz o u)) (tbls:∀ b ps,H b=some (.tbl ps)→∃ more,H' b=some (.tbl (ps++more)))
  (ns:∀ m,s.heap.Ns X.env.locals m→h'.Ns X.env.locals m) (hok:HOk X.prog X.w H' h') (hg:AllBare g') :
  Inv X pins σ H' { s with heap:=h',gens:=g',drawn:=d',toks:=t' }:=by
 have neL:∀ b o,X.s₀.heap.get? b=some o→b≠X.env.locals:=fun b o e=>Nat.ne_of_lt (Nat.lt_of_lt_of_le (Heap.lt_size e) I.ok.above);have neC:∀ b o,X.s₀.heap.get? b=some o→b∉X.ex→b∉ch:=fun b o e hx hb=>by
  rcases (hch b hb).1 with z | z
  ·exact hx z
  ·exact absurd (Nat.lt_of_lt_of_le (Heap.lt_size e) z) (Nat.lt_irrefl _)
 have cellK:∀ x c,X.env.cells.lookup x=some c→∀ v,s.heap.IsCell c v→h'.IsCell c v:=fun x c e v ⟨o,ho,hd⟩=>by
  have nch:c∉ch:=fun z=>(hch c z).2.2.1 x c e rfl;by_cases hc:c∈X.fs
  ·obtain ⟨sl,q⟩:=slot c o (I.cne x c e) hc nch ho (I.freeC x c e);exact ⟨_,q,hd⟩
  ·exact ⟨o,keep c o (I.cne x c e) hc nch ho (I.freeC x c e),hd⟩
 refine ⟨I.ok,I.os,hg,⟨fun b o e n hb hx=>?_,fun b o e n hb hx=>?_,fun b o e n hx=>?_,fun b o e hx=>?_,fun b xs e=>tups b xs (I.base.tups b xs e),fun b o xs e=>frzs b o xs (I.base.frzs b o xs e),fun b ps e=>?_⟩,?_,fun x c e=>?_,?_,fun x c e=>?_,fun p hp=>?_,hok,I.len⟩
 ·exact keep b o (neL b o e) hb (neC b o e hx) (I.base.keep b o e n hb hx) (I.base.free b o e n hx)
 ·obtain ⟨sl,e1⟩:=I.base.slot b o e n hb hx;obtain ⟨sl',e2⟩:=slot b _ (neL b o e) hb (neC b o e hx) e1 (I.base.free b o e n hx);exact ⟨sl',e2⟩
 ·obtain ⟨o',e1⟩:=I.base.there b o e hx;exact free b o' (neC b o e hx) e1 (I.base.free b o e n hx)
 ·obtain ⟨o',e1⟩:=I.base.there b o e hx;exact there b o' (neC b o e hx) e1
 ·obtain ⟨m1,e1⟩:=I.base.tbls b ps e;obtain ⟨m2,e2⟩:=tbls b _ e1;exact ⟨m1++m2,by rw [e2,Array.append_assoc]⟩
 ·obtain ⟨m,hn,hl⟩:=I.loc;refine ⟨m,ns m hn,fun i x v e1 e2 e3=>?_⟩;obtain ⟨u,r,l⟩:=hl i x v e1 e2 e3;refine ⟨u,r,?_⟩;rcases l with l | ⟨k,c,e,z⟩
  ·exact .inl l
  ·exact .inr ⟨k,c,e,cellK x c e _ z⟩
 ·obtain ⟨v,z⟩:=I.cell x c e;exact ⟨v,cellK x c e v z⟩
 ·obtain ⟨m,⟨o,_,_,ho,_⟩,_⟩:=I.loc;exact free _ o (fun z=>(hch _ z).2.1 rfl) ho I.free
 ·obtain ⟨v,o,ho,hd⟩:=I.cell x c e;exact free c o (fun z=>(hch c z).2.2.1 x c e rfl) ho (I.freeC x c e)
 ·obtain ⟨e,n,ne,nf,d⟩:=I.pin p hp;have nch:p.1∉ch:=fun z=>(hch p.1 z).2.2.2 p hp rfl;exact ⟨keep p.1 p.2 ne nf nch e n,free p.1 p.2 nch e n,ne,nf,d⟩
theorem Inv.un {t':Nat} (I:Inv X pins σ H s) (u:Un X.fs [] H H' s.heap h') (hok:HOk X.prog X.w H' h'):Inv X pins σ H' { s with heap:=h',toks:=t' }:=by
 obtain ⟨m,⟨o,es,ep,ho,r⟩,_⟩:=id I.loc;obtain ⟨sl,hL⟩:=u.any ho I.free (by simp);exact I.step (g':=s.gens) (d':=s.drawn) (ch:=[]) (fun _ z=>nomatch z) (fun b o _ hb _ e n=>u.keep b o e n hb (by simp)) (fun b o _ hb _ e n=>u.slot b o e n hb (by simp)) (fun b o _ e n=>u.free b o e n (by simp)) (fun b o _ e=>u.there b o e (by simp)) u.tups u.frzs u.tbls (fun m' hm=>by
  obtain ⟨o',es',ep',ho',r'⟩:=hm;rw [ho] at ho'; cases ho';exact ⟨_,es',ep',hL,r'⟩) hok I.bare
theorem Inv.call {g':Array GenState} {t':Nat} {d':Drawn} {ch:List Addr} (I:Inv X pins σ H s) (u:Un (frs X.stack) ch H H' s.heap h') (hok:HOk X.prog X.w H' h') (hg:AllBare g')
  (hch:∀ b∈ch,(b∈X.ex∨X.s₀.heap.objs.size≤b)∧b≠X.env.locals∧(∀ x c,X.env.cells.lookup x=some c→c≠b)∧∀ p∈X.pn++pins,p.1≠b) :
  Inv X pins σ H' { s with heap:=h',gens:=g',drawn:=d',toks:=t' }:=by
 obtain ⟨m,⟨o,es,ep,ho,r⟩,_⟩:=id I.loc;obtain ⟨sl,hL⟩:=u.any ho I.free fun z=>(hch _ z).2.1 rfl;exact I.step (ch:=ch) hch (fun b o hL hb hc e n=>u.keep b o e n (fun z=>(List.mem_cons.mp (I.stkSub b z)).elim hL hb) hc) (fun b o _ _ hc e n=>u.any e n hc) (fun b o hc e n=>u.free b o e n hc) (fun b o hc e=>u.there b o e hc) u.tups u.frzs u.tbls (fun m' hm=>by
  obtain ⟨o',es',ep',ho',r'⟩:=hm;rw [ho] at ho'; cases ho';exact ⟨_,es',ep',hL,r'⟩) hok hg
theorem Inv.turned {t':Nat} {it:Addr} (I:Inv X pins σ H s) (k:∀ b o,b≠it→s.heap.get? b=some o→h'.get? b=some o) (hn:H it=none) (hL:it≠X.env.locals)
  (h1:it∈X.ex∨X.s₀.heap.objs.size≤it) (h2:∀ x c,X.env.cells.lookup x=some c→c≠it) (h3:∀ p∈X.pn++pins,p.1≠it):Inv X pins σ H { s with heap:=h',toks:=t' }:=by
 have nit:∀ b u,H b=some u→b≠it:=fun b u e z=>by rw [z,hn] at e; cases e
 refine I.step (g':=s.gens) (d':=s.drawn) (ch:=[it]) (fun b hb=>?_) (fun b o _ _ hc e _=>k b o (fun z=>hc (by simp [z])) e) (fun b o _ _ hc e _=>⟨o.slots,k b o (fun z=>hc (by simp [z])) e⟩) (fun _ _ _ _ n=>n)
  (fun b o hc e=>⟨o,k b o (fun z=>hc (by simp [z])) e⟩) (fun _ _ e=>e) (fun _ _ _ e=>e) (fun b ps e=>⟨#[],by rw [e]; simp⟩) (fun m hm=>?_) (fun b u e=>?_) I.bare
 ·have e:b=it:=by simpa using hb
  subst e;exact ⟨h1,hL,h2,h3⟩
 ·obtain ⟨o,es,ep,ho,r⟩:=hm;exact ⟨o,es,ep,k _ o (Ne.symm hL) ho,r⟩
 ·refine (I.hok b u e).stay (fun c v hc q=>k c v ?_ q) (fun _ q=>q) fun _ _ q=>q;rcases hc with z | z
  ·rw [z]; exact nit b u e
  ·exact nit c _ z
theorem Inv.tok (I:Inv X pins σ H s) (t:Nat):Inv X pins σ H { s with toks:=t }:=I.un (h':=s.heap) (t':=t) Un.refl I.hok
theorem Inv.kept {t':Nat} (I:Inv X pins σ H s) (k:∀ b u,s.heap.get? b=some u→h'.get? b=some u):Inv X pins σ H { s with heap:=h',toks:=t' }:=I.un (Un.kept k) (I.hok.kept k)
theorem Inv.laid {a:Addr} {o:HO} {t':Nat} (I:Inv X pins σ H s) (k:∀ b u,s.heap.get? b=some u→h'.get? b=some u) (hp:s.heap.objs.size≤a) (new:bg X.prog X.w (upd H a o) h' a o) :
  Inv X pins σ (upd H a o) { s with heap:=h',toks:=t' }:=I.un (Un.laid k hp (I.hok.fresh hp)) (I.hok.laid k hp new)
theorem Inv.write {x e:Addr} {o:HO} {t':Nat} (I:Inv X pins σ H s) (mu:Mut (H x)) (he:e=x∨H e=some (.own x)) (k:∀ b u,b≠e→s.heap.get? b=some u→h'.get? b=some u) (heo:∃ u,h'.get? e=some u)
  (new:bg X.prog X.w (upd H x o) h' x o):Inv X pins σ (upd H x o) { s with heap:=h',toks:=t' }:=I.un (Un.write mu he k heo) (I.hok.write mu he k heo new)
theorem Inv.pins_of {pins':List (Addr×Obj)} (I:Inv X pins σ H s) (h:∀ p∈pins',s.heap.get? p.1=some p.2∧H p.1=none∧p.1≠X.env.locals∧p.1∉X.fs∧∀ v,p.2.data≠.cell v):Inv X pins' σ H s :=
 ⟨I.ok,I.os,I.bare,I.base,I.loc,I.cell,I.free,I.freeC,fun p hp=>(List.mem_append.mp hp).elim (fun z=>I.pin p (List.mem_append_left _ z)) (h p),I.hok,I.len⟩
theorem nU {N:List Str} (hN:N.Nodup) {i j:Nat} {x:Str} (a:N[i]?=some x) (b:N[j]?=some x):i=j:=by
 obtain ⟨h1,e1⟩:=List.getElem?_eq_some_iff.mp a;obtain ⟨h2,e2⟩:=List.getElem?_eq_some_iff.mp b;exact (List.getElem_inj hN).mp (e1.trans e2.symm)
theorem tq {M:Model} {A:Around} {E:Value→Shared→Prop} {i:Nat} {x:Str} {v:V} {u:Value} {Q:Unit→Shared→Prop} (I:Inv X pins σ H s) (hN:X.N.Nodup) (hi:X.N[i]?=some x) (hx:Loc X.env.scope x) (r:aQ v u)
    (h:∀ s',Inv X pins (σ.set i (some v)) H s'→(∃ a,Heap.SameBut a s.heap s'.heap∧(a=X.env.locals∨X.env.cells.lookup x=some a))→Q () s') (hf:X.fn x=true∨X.env.scope.names.lookup x=some .local:=by first | exact .inl rfl | exact .inr rfl | assumption):wpAny M A (storeName X.env x u) Q E s:=by
  obtain ⟨m,hn,hl⟩:=id I.loc;have hcls:(X.env.scope.kind==.class||(X.env.scope.kind==.module&&X.env.locals != X.env.globals))=false:=by rw [I.ok.kind]; rfl
  have hiσ:i<σ.length:=by rw [I.len]; exact (List.getElem?_eq_some_iff.mp hi).1
  have cne:=I.cne;have tracked:∀ {a:Addr} {h':Heap},(∃ o,s.heap.get? a=some o∧H a=none)→Heap.SameBut a s.heap h'→HOk X.prog X.w H h':=fun {a h'} ha hs b ob e=>by
    obtain ⟨_,_,hfree⟩:=ha;refine (I.hok b ob e).stay (fun c w' hc q=>(hs.2 c ?_).trans q) (fun _ q=>q) fun _ _ q=>q;rintro rfl;rcases hc with rfl | hc
    · rw [hfree] at e; cases e
    · rw [hfree] at hc; cases hc
  rcases hx with hk | hk
  · refine wpAny_storeName_local hk hn (fun h' hn' hs=>?_) hcls
    obtain ⟨oL,_,_,hoL,_⟩:=id hn;refine h _ ⟨I.ok,I.os,I.bare,⟨fun b o e n hb hx=>?_,fun b o e n hb hx=>?_,I.base.free,fun b o e hx=>?_,I.base.tups,I.base.frzs,I.base.tbls⟩,⟨_,hn',fun j y v' e1 e2 e3=>?_⟩,fun y c e=>?_,I.free,I.freeC,fun p hp=>?_,tracked ⟨oL,hoL,I.free⟩ hs,by simpa using I.len⟩ ⟨_,hs,.inl rfl⟩
    · exact (hs.2 b (Nat.ne_of_lt (Nat.lt_of_lt_of_le (Heap.lt_size e) I.ok.above))).trans (I.base.keep b o e n hb hx)
    · obtain ⟨sl,e1⟩:=I.base.slot b o e n hb hx
      exact ⟨sl,(hs.2 b (Nat.ne_of_lt (Nat.lt_of_lt_of_le (Heap.lt_size e) I.ok.above))).trans e1⟩
    · obtain ⟨o',e1⟩:=I.base.there b o e hx
      exact ⟨o',(hs.2 b (Nat.ne_of_lt (Nat.lt_of_lt_of_le (Heap.lt_size e) I.ok.above))).trans e1⟩
    · by_cases hj:j=i
      · subst hj
        rw [hi] at e1; cases e1;rw [List.getElem?_set_self hiσ] at e2
        cases e2;exact ⟨u,r,.inl ⟨hk,by simp⟩⟩
      · rw [List.getElem?_set_ne (Ne.symm hj)] at e2
        obtain ⟨u',r',q⟩:=hl j y v' e1 e2 e3;refine ⟨u',r',?_⟩;rcases q with ⟨k,e⟩ | ⟨k,c,e,z⟩
        · refine .inl ⟨k,?_⟩
          have:y≠x:=fun e=>hj (nU hN e1 (e ▸ hi))
          simp [this,e]
        · exact .inr ⟨k,c,e,z.sameBut hs (cne y c e)⟩
    · obtain ⟨w',z⟩:=I.cell y c e
      exact ⟨w',z.sameBut hs (cne y c e)⟩
    · obtain ⟨e,n,ne,nf,d⟩:=I.pin p hp
      exact ⟨(hs.2 p.1 ne).trans e,n,ne,nf,d⟩
  · have hfn:X.fn x=true:=by
      rcases hf with z | z
      · exact z
      · rw [z] at hk; cases hk
    obtain ⟨c,hc⟩:=I.ok.has x (.inl hk);obtain ⟨w',z⟩:=I.cell x c hc;refine wpAny_storeName_cell I.ok.kind hk hc z (fun h' hc' hs=>?_);obtain ⟨oc,hoc,hocd⟩:=id z;refine h { s with heap:=h' } ⟨I.ok,I.os,I.bare,⟨fun b o e n hb hx=>?_,fun b o e n hb hx=>?_,I.base.free,fun b o e hx=>?_,I.base.tups,I.base.frzs,I.base.tbls⟩,⟨m,hn.sameBut hs (Ne.symm (cne x c hc)),fun j y v' e1 e2 e3=>?_⟩,fun y c' e=>?_,I.free,I.freeC,fun p hp=>?_,tracked ⟨oc,hoc,I.freeC x c hc⟩ hs,by simpa using I.len⟩ ⟨c,hs,.inr hc⟩
    · exact (hs.2 b (Nat.ne_of_lt (Nat.lt_of_lt_of_le (Heap.lt_size e) (I.ok.cab x c hfn hc)))).trans (I.base.keep b o e n hb hx)
    · obtain ⟨sl,e1⟩:=I.base.slot b o e n hb hx
      exact ⟨sl,(hs.2 b (Nat.ne_of_lt (Nat.lt_of_lt_of_le (Heap.lt_size e) (I.ok.cab x c hfn hc)))).trans e1⟩
    · obtain ⟨o',e1⟩:=I.base.there b o e hx
      exact ⟨o',(hs.2 b (Nat.ne_of_lt (Nat.lt_of_lt_of_le (Heap.lt_size e) (I.ok.cab x c hfn hc)))).trans e1⟩
    · by_cases hj:j=i
      · subst hj
        rw [hi] at e1; cases e1;rw [List.getElem?_set_self hiσ] at e2
        cases e2;exact ⟨u,r,.inr ⟨.inl hk,c,hc,hc'⟩⟩
      · rw [List.getElem?_set_ne (Ne.symm hj)] at e2
        obtain ⟨u',r',q⟩:=hl j y v' e1 e2 e3;refine ⟨u',r',?_⟩;rcases q with q | ⟨k,c',e,z'⟩
        · exact .inl q
        · refine .inr ⟨k,c',e,z'.sameBut hs ?_⟩
          rintro rfl;exact hj (nU hN e1 (I.ok.inj _ _ _ e hc ▸ hi))
    · by_cases hcc:c'=c
      · subst hcc; exact ⟨_,hc'⟩
      · obtain ⟨w2,z2⟩:=I.cell y c' e
        exact ⟨w2,z2.sameBut hs hcc⟩
    · obtain ⟨e,n,ne,nf,d⟩:=I.pin p hp
      refine ⟨(hs.2 p.1 ?_).trans e,n,ne,nf,d⟩;intro q;rw [q,hoc] at e;have q':oc=p.2:=Option.some.inj e;exact d w' (by rw [← q']; exact hocd)
theorem ir {M:Model} {A:Around} {E:Value→Shared→Prop} {i:Nat} {x:Str} {v:V} {u:Value} {Q:Unit→Shared→Prop} (I:Inv X pins σ H s) (hN:X.N.Nodup) (hi:X.N[i]?=some x) (hx:Loc X.env.scope x) (r:aQ v u)
  (h:∀ s',Inv X pins (σ.set i (some v)) H s'→Q () s') (hf:X.fn x=true∨X.env.scope.names.lookup x=some .local:=by first | exact .inl rfl | exact .inr rfl | assumption):wpAny M A (storeName X.env x u) Q E s :=
 tq I hN hi hx r (fun s' I' _=>h s' I') hf
theorem Inv.call' {s':Shared} {ch:List Addr} (I:Inv X pins σ H s) (ho:s'.os=s.os) (u:Un (frs X.stack) ch H H' s.heap s'.heap) (hok:HOk X.prog X.w H' s'.heap) (hg:AllBare s'.gens)
  (hch:∀ b∈ch,(b∈X.ex∨X.s₀.heap.objs.size≤b)∧b≠X.env.locals∧(∀ x c,X.env.cells.lookup x=some c→c≠b)∧∀ p∈X.pn++pins,p.1≠b):Inv X pins σ H' s':=by
 obtain ⟨h',g',d',t',o'⟩:=s';have e:o'=s.os:=ho;subst e;exact I.call (g':=g') (t':=t') (d':=d') u hok hg hch
end
noncomputable abbrev XK:=Value→Option Addr→Hp→Prop
noncomputable abbrev St:=List (Option V)
noncomputable abbrev VK:=V→Hp→Prop
noncomputable abbrev TE:=St→Hp→VK→Prop
noncomputable abbrev TT:=St→Hp→(Bool→Hp→Prop)→Prop
noncomputable abbrev TA:=St→Hp→(List V→Hp→Prop)→Prop
structure dH where
 nx:St→Hp→Prop
 rt:VK
 bk:St→Hp→Prop:=fun _ _=>False
 ct:St→Hp→Prop:=fun _ _=>False
noncomputable abbrev TS:=dH→St→Hp→Prop
noncomputable def EP (X:Cx) (pins:List (Addr×Obj)) (σ:St) (Q:VK) (u:Value) (s':Shared):Prop:=∃ v H',Inv X pins σ H' s'∧aQ v u∧Q v H'
noncomputable def TP (X:Cx) (pins:List (Addr×Obj)) (σ:St) (Q:Bool→Hp→Prop) (b:Bool) (s':Shared):Prop:=∃ H',Inv X pins σ H' s'∧Q b H'
noncomputable def AP (X:Cx) (pins:List (Addr×Obj)) (σ:St) (Q:List V→Hp→Prop) (us:List Value) (s':Shared):Prop:=∃ vs H',Inv X pins σ H' s'∧Vals vs us∧Q vs H'
noncomputable def SP (X:Cx) (pins:List (Addr×Obj)) (D:dH) (f:Flow) (s':Shared):Prop :=
 match f with
 | .next=>∃ σ' H',Inv X pins σ' H' s'∧D.nx σ' H'
 | .brk=>∃ σ' H',Inv X pins σ' H' s'∧D.bk σ' H'
 | .cont=>∃ σ' H',Inv X pins σ' H' s'∧D.ct σ' H'
 | .ret u=>∃ v σ' H',Inv X pins σ' H' s'∧aQ v u∧D.rt v H'
noncomputable def PE (X:Cx) (e:Expr) (t:TE):Prop :=
 ∀ (pins:List (Addr×Obj)) (s:Shared) (σ:St) (H:Hp) (Q:VK),Inv X pins σ H s→t σ H Q→wpAny (model X.prog X.w) X.A (eval e X.env) (EP X pins σ Q) X.xe s
noncomputable def PT (X:Cx) (e:Expr) (t:TT):Prop :=
 ∀ (pins:List (Addr×Obj)) (s:Shared) (σ:St) (H:Hp) (Q:Bool→Hp→Prop),Inv X pins σ H s→t σ H Q→wpAny (model X.prog X.w) X.A (isTrue e X.env (eval e X.env)) (TP X pins σ Q) X.xe s
noncomputable def PW (X:Cx) (e:Expr) (t:TT):Prop :=
 ∀ (whole:Sem Value) (pins:List (Addr×Obj)) (s:Shared) (σ:St) (H:Hp) (Q:Bool→Hp→Prop),Inv X pins σ H s→t σ H Q→wpAny (model X.prog X.w) X.A (isTrue e X.env whole) (TP X pins σ Q) X.xe s
theorem PW.pt {X:Cx} {e:Expr} {t:TT} (h:PW X e t):PT X e t:=h _
noncomputable def PA (X:Cx) (es:List Expr) (t:TA):Prop :=
 ∀ (pos:Pos) (pins:List (Addr×Obj)) (s:Shared) (σ:St) (H:Hp) (Q:List V→Hp→Prop),Inv X pins σ H s→t σ H Q→wpAny (model X.prog X.w) X.A (spliced (backTo pos (starEach es X.env))) (AP X pins σ Q) X.xe s
noncomputable def PS (X:Cx) (st:Stmt) (t:TS):Prop :=
 ∀ (pins:List (Addr×Obj)) (s:Shared) (σ:St) (H:Hp) (D:dH),Inv X pins σ H s→t D σ H→wpAny (model X.prog X.w) X.A (exec st X.env) (SP X pins D) X.xe s
noncomputable def PSs (X:Cx) (st:List Stmt) (t:TS):Prop :=
 ∀ (pins:List (Addr×Obj)) (s:Shared) (σ:St) (H:Hp) (D:dH),Inv X pins σ H s→t D σ H→wpAny (model X.prog X.w) X.A (execs st X.env) (SP X pins D) X.xe s
theorem thn {α:Type} {t:Sem α} {Q Q':α→Shared→Prop} {M:Model} {A:Around} {E:Value→Shared→Prop} {s:Shared} (h:wpAny M A t Q E s) (hQ:∀ a s,Q a s→Q' a s):wpAny M A t Q' E s:=wpAny_mono h hQ fun _ _ x=>x
section
variable {X:Cx}
noncomputable def AY (i:Nat):TE:=fun σ H Q=>∃ v,σ[i]?=some (some v)∧Q v H
noncomputable def tC (v:V):TE:=fun _ H Q=>Q v H
theorem Ak {i:Nat} {x:Str} {pos:Pos} (hN:X.N[i]?=some x) (hv:Vis X.env.scope x) (hd:(x==("__debug__":Str))=false:=by decide) (hcd:(x==("__classdict__":Str))=false:=by decide):PE X (.Name x pos) (AY i):=by
 intro pins s σ H Q I h;obtain ⟨v,e,h⟩:=h;obtain ⟨m,hn,hl⟩:=I.loc;obtain ⟨u,r,l⟩:=hl i x v hN e hv;have fin:EP X pins σ Q u s:=⟨v,H,I,r,h⟩
 rcases l with ⟨hk,hm⟩ | ⟨hk,c,hc,hcell⟩
 ·exact wpAny_Name (wpAny_loadName_local I.ok.kind hk hn hm fin) hd
 ·rcases hk with hk | hk
  ·exact wpAny_Name (wpAny_loadName_cell I.ok.kind hk hc hcell fin) hd
  ·exact wpAny_Name (wpAny_loadName_free I.ok.kind hk hc hcell fin hcd) hd
theorem af {i j pos}:PE X (.Constant (.int i) j pos) (tC (.int i)):=fun _ _ _ H _ I h=>wpAny_Constant_int ⟨.int i,H,I.tok _,⟨_,rfl⟩,h⟩
theorem gj {b j pos}:PE X (.Constant (.bool b) j pos) (tC (.bl b)):=fun _ _ _ H _ I h=>Constant_bool ⟨.bl b,H,I,rfl,h⟩
theorem gu {j pos}:PE X (.Constant .none j pos) (tC .non):=fun _ _ _ H _ I h=>Constant_none ⟨.non,H,I,rfl,h⟩
theorem bZ {x j pos}:PE X (.Constant (.str x) j pos) (tC (.str x)):=fun _ _ _ H _ I h=>Calls.Constant_str ⟨.str x,H,I.tok _,⟨_,rfl⟩,h⟩
noncomputable def Gl (X:Cx) (x:Str):Prop:=X.env.kindOf x=some .globalImplicit
theorem gT {E:Value→Shared→Prop} {pins:List (Addr×Obj)} {s:Shared} {σ:St} {H:Hp} {x:Str} {u:Value} {pos:Pos} {Q:Value→Shared→Prop} (I:Inv X pins σ H s) (hg:Gl X x) (hm:X.mg x=some u) (h:Q u s)
  (hd:(x==("__debug__":Str))=false:=by decide):wpAny (model X.prog X.w) X.A (eval (.Name x pos) X.env) Q E s :=
 Calls.Name_function_global I.ok.kind hg (Calls.loadGlobal_global (by rw [I.ok.glob]; exact I.mod.glob.keeps I.bk) hm h) hd
theorem d9 {E:Value→Shared→Prop} {pins:List (Addr×Obj)} {s:Shared} {σ:St} {H:Hp} {x:Str} {u:Value} {pos:Pos} {Q:Value→Shared→Prop} (I:Inv X pins σ H s) (hg:Gl X x) (hm:X.mg x=none) (hv:bootBuiltins x=some u) (h:Q u s)
  (hn:x≠"__name__":=by decide) (hd:(x==("__debug__":Str))=false:=by decide):wpAny (model X.prog X.w) X.A (eval (.Name x pos) X.env) Q E s:=by
 obtain ⟨mb,h1,h2⟩:=I.mod.blt;exact Calls.Name_function_global I.ok.kind hg (Calls.loadGlobal_builtin (by rw [I.ok.glob]; exact I.mod.glob.keeps I.bk) hm (by rw [I.ok.blt]; exact h1.keeps I.bk) ((h2 x hn).trans hv) h) hd
theorem rh {x:Str} {v:V} {u:Value} {pos:Pos} (hg:Gl X x) (hm:X.mg x=some u) (r:aQ v u) (hd:(x==("__debug__":Str))=false:=by decide):PE X (.Name x pos) (tC v) :=
 fun _ _ _ H _ I h=>gT I hg hm ⟨v,H,I,r,h⟩ hd
theorem cf {x:Str} {v:V} {u:Value} {pos:Pos} (hg:Gl X x) (hm:X.mg x=none) (hv:bootBuiltins x=some u) (r:aQ v u) (hn:x≠"__name__":=by decide) (hd:(x==("__debug__":Str))=false:=by decide):PE X (.Name x pos) (tC v) :=
 fun _ _ _ H _ I h=>d9 I hg hm hv ⟨v,H,I,r,h⟩ hn hd
variable {a b:Expr} {ta tb:TE} {pos:Pos}
noncomputable def PC (X:Cx) (op:CmpOp) (a b:Expr) (t:TE):Prop :=
 ∀ (pins:List (Addr×Obj)) (s:Shared) (σ:St) (H:Hp) (Q:VK),Inv X pins σ H s→t σ H Q →
  wpAny (model X.prog X.w) X.A (eval a X.env) (fun v s₁=>wpAny (model X.prog X.w) X.A (eval b X.env) (fun u s₂=>wpAny (model X.prog X.w) X.A (compareOp op v u) (EP X pins σ Q) X.xe s₂) X.xe s₁) X.xe s
noncomputable def tB (t:TE):TT:=fun σ H Q=>t σ H fun x H1=>∃ c,x=.bl c∧Q c H1
theorem mq {op:CmpOp} {t:TE} (h:PC X op a b t) (h1:behindInMarks op b=false:=by first | exact nobehind _ (by decide) (by decide) | rfl):PT X (.Compare a [op] [b] pos) (tB t):=by
 intro pins s σ H Q I hw;refine wpAny_isTrue_Compare1 (thn (h pins s σ H _ I hw) fun v s1 h1=>thn h1 fun u s2 h2=>thn h2 fun c s3 ⟨x,H1,I1,r1,q1⟩=>?_) h1;obtain ⟨d,rfl,q⟩:=q1
 cases r1;exact wpAny_truthy_bool ⟨H1,I1,q⟩
theorem bE {e:Expr} {t:TE} (h:PE X e t) (he:∀ whole,isTrue e X.env whole=(do let v ← whole; standAt e.pos; holding [v] (truthy v)):=by intro _; rfl):PT X e (tB t):=by
 intro pins s σ H Q I hw;refine isTrue_plain (thn (h pins s σ H _ I hw) fun v s1 ⟨x,H1,I1,r1,q1⟩=>?_) (he _);obtain ⟨d,rfl,q⟩:=q1
 cases r1;exact wpAny_truthy_bool ⟨H1,I1,q⟩
variable {tA tB':TT} {cW:List Expr}
noncomputable def BG (t u:TT):TT:=fun σ H Q=>t σ H fun c H1=>if c=true then u σ H1 Q else Q false H1
noncomputable def tOr (t u:TT):TT:=fun σ H Q=>t σ H fun c H1=>if c=true then Q true H1 else u σ H1 Q
noncomputable def BM (t:TT):TT:=fun σ H Q=>t σ H fun c H1=>Q (!c) H1
theorem cU (ha:PT X a tA):PW X (.BoolOp .And [a] pos) tA:=by
 intro wh pins s σ H Q I h;refine isTrue_and (thn (ha pins s σ H Q I h) fun c s1 e=>?_)
 cases c with
 | true=>exact isTrue_and_nil e
 | false=>exact e
theorem mv (ha:PT X a tA):PW X (.BoolOp .Or [a] pos) tA:=by
 intro wh pins s σ H Q I h;refine isTrue_or (thn (ha pins s σ H Q I h) fun c s1 e=>?_)
 cases c with
 | false=>exact isTrue_or_nil e
 | true=>exact e
theorem dB (ha:PT X a tA) (hb:PW X (.BoolOp .And (b::cW) pos) tB'):PW X (.BoolOp .And (a::b::cW) pos) (BG tA tB'):=by
 intro wh pins s σ H Q I h;refine isTrue_and (thn (ha pins s σ H _ I h) fun c s1 ⟨H1,I1,q1⟩=>?_)
 cases c with
 | true=>exact hb wh pins s1 σ H1 Q I1 q1
 | false=>exact ⟨H1,I1,q1⟩
theorem rk (ha:PT X a tA) (hb:PW X (.BoolOp .Or (b::cW) pos) tB'):PW X (.BoolOp .Or (a::b::cW) pos) (tOr tA tB'):=by
 intro wh pins s σ H Q I h;refine isTrue_or (thn (ha pins s σ H _ I h) fun c s1 ⟨H1,I1,q1⟩=>?_)
 cases c with
 | true=>exact ⟨H1,I1,q1⟩
 | false=>exact hb wh pins s1 σ H1 Q I1 q1
theorem cA (ha:PT X a tA):PT X (.UnaryOp .Not a pos) (BM tA):=by
 intro pins s σ H Q I h;exact isTrue_not (ha pins s σ H (fun c H1=>Q (!c) H1) I h)
noncomputable def y7 (ta tb:TE):TE:=fun σ H Q=>ta σ H fun x H1=>∃ c,x=.bl c∧if c=true then tb σ H1 Q else Q (.bl false) H1
noncomputable def zf (ta:TE):TE:=fun σ H Q=>ta σ H fun x H1=>∃ c,x=.bl c∧Q (.bl (!c)) H1
theorem jQ {op} {t:TE} (h:PE X a t):PE X (.BoolOp op [a] pos) t:=fun pins s σ H Q I hw=>BoolOp_one (h pins s σ H Q I hw)
theorem jO (ha:PE X a ta) (hb:PE X (.BoolOp .And (b::cW) pos) tb):PE X (.BoolOp .And (a::b::cW) pos) (y7 ta tb):=by
 intro pins s σ H Q I h;refine BoolOp_and (thn (ha pins s σ H _ I h) fun v s1 ⟨x,H1,I1,r1,q1⟩=>?_);obtain ⟨c,rfl,q1⟩:=q1
 cases r1;refine wpAny_truthy_bool ?_
 cases c with
 | true=>exact hb pins s1 σ H1 Q I1 q1
 | false=>exact ⟨.bl false,H1,I1,rfl,q1⟩
theorem uV (ha:PE X a ta):PE X (.UnaryOp .Not a pos) (zf ta):=by
 intro pins s σ H Q I h;refine UnaryOp_ (thn (ha pins s σ H _ I h) fun v s1 ⟨x,H1,I1,r1,q1⟩=>?_);obtain ⟨c,rfl,q1⟩:=q1
 cases r1;exact not_of (wpAny_truthy_bool ⟨.bl (!c),H1,I1,rfl,q1⟩)
noncomputable def tIf (t:TT) (ta tb:TE):TE:=fun σ H Q=>t σ H fun c H1=>if c=true then ta σ H1 Q else tb σ H1 Q
theorem oq {c:Expr} (hc:PT X c tA) (ha:PE X a ta) (hb:PE X b tb):PE X (.IfExp c a b pos) (tIf tA ta tb):=by
 intro pins s σ H Q I h;refine wpAny_IfExp (thn (hc pins s σ H _ I h) fun d s1 ⟨H1,I1,q1⟩=>?_)
 cases d with
 | true=>exact ha pins s1 σ H1 Q I1 q1
 | false=>exact hb pins s1 σ H1 Q I1 q1
end
noncomputable def SqL (K:W.Frag) (H:Hp) (a:Addr) (xs:List V):Prop :=
 Rd H a (.lst xs) ∨
  ∃ (o:Obj) (its:Array Value) (n:Nat),K.lookup a=some o∧o.cls=.type "list"∧o.dict=none∧o.data=.seq its n∧its.size≤sizeLine∧Vals xs its.toList
noncomputable def SqT (K:W.Frag) (H:Hp) (a:Addr) (xs:List V):Prop :=
 Rd H a (.tup xs) ∨
  ∃ (o:Obj) (its:Array Value) (n:Nat),K.lookup a=some o∧o.cls=.type "tuple"∧o.data=.seq its n∧its.size≤sizeLine∧Vals xs its.toList
noncomputable def BX:Value→Option V
 | .none=>some .non
 | .bool b=>some (.bl b)
 | .int i _=>some (.int i)
 | .str x _=>some (.str x)
 | .bytes b _=>some (.byt b)
 | .float b _=>some (.flt b)
 | .ref a=>some (.ref a)
 | .type n=>some (.ty n)
 | _=>none
theorem aQ.abs {x:V} {u:Value} (r:aQ x u):BX u=some x:=by
 cases x with
 | non=>cases r; rfl
 | bl _=>cases r; rfl
 | int _=>obtain ⟨t,rfl⟩:=r; rfl
 | str _=>obtain ⟨t,rfl⟩:=r; rfl
 | byt _=>obtain ⟨t,rfl⟩:=r; rfl
 | flt _=>obtain ⟨t,rfl⟩:=r; rfl
 | ref _=>cases r; rfl
 | ty _=>cases r; rfl
theorem aQ.inj {x y:V} {u:Value} (r:aQ x u) (q:aQ y u):x=y:=Option.some.inj (r.abs.symm.trans q.abs)
theorem Vals.inj:∀ {xs ys:List V} {us:List Value},Vals xs us→Vals ys us→xs=ys
 | _,_,_,.nil,.nil=>rfl
 | _,_,_,.cons r t,.cons r' t'=>by rw [r.inj r',Vals.inj t t']
section
variable {X:Cx} {pins:List (Addr×Obj)} {σ:St} {H:Hp} {s:Shared} {a:Addr} {xs ys:List V}
theorem SqL.of {K:W.Frag} (h:H a=some (.lst xs)):SqL K H a xs:=.inl (.inl h)
theorem SqT.of {K:W.Frag} (h:H a=some (.tup xs)):SqT K H a xs:=.inl (.inl h)
theorem Inv.list (I:Inv X pins σ H s) (h:SqL X.K H a xs):∃ its:List Value,Vals xs its∧PlainL s.heap a its.toArray∧xs.length≤sizeLine:=by
 rcases h with h | ⟨o,its,n,hk,hc,hd,hs,hz,r⟩
 ·obtain ⟨z,its,n,r,e⟩:=h.ok I.hok;exact ⟨its,r,⟨_,n,e,rfl,rfl,rfl⟩,z⟩
 ·refine ⟨its.toList,r,⟨o,n,I.kIn a o hk,hc,hd,by simpa using hs⟩,?_⟩;have e:=r.length;simp only [Array.length_toList] at e;omega
theorem Inv.tuple (I:Inv X pins σ H s) (h:SqT X.K H a xs):∃ its:List Value,Vals xs its∧IsTup s.heap a its.toArray∧xs.length≤sizeLine:=by
 rcases h with h | ⟨o,its,n,hk,hc,hs,hz,r⟩
 ·obtain ⟨z,its,r,p⟩:=h.ok I.hok;exact ⟨its,r,p,z⟩
 ·refine ⟨its.toList,r,⟨o,I.kIn a o hk,hc,n,by simpa using hs⟩,?_⟩;have e:=r.length;simp only [Array.length_toList] at e;omega
theorem Inv.list_inj (I:Inv X pins σ H s) (h:SqL X.K H a xs) (h':SqL X.K H a ys):xs=ys:=by
 obtain ⟨its,r,⟨o,n,e,_,_,d⟩,_⟩:=I.list h;obtain ⟨its',r',⟨o',n',e',_,_,d'⟩,_⟩:=I.list h';rw [e] at e'; cases e';rw [d] at d';injection d' with d1 _;have:its=its':=by simpa using congrArg Array.toList d1
 subst this;exact r.inj r'
theorem Inv.tuple_inj (I:Inv X pins σ H s) (h:SqT X.K H a xs) (h':SqT X.K H a ys):xs=ys:=by
 obtain ⟨its,r,⟨o,e,_,n,d⟩,_⟩:=I.tuple h;obtain ⟨its',r',⟨o',e',_,n',d'⟩,_⟩:=I.tuple h';rw [e] at e'; cases e';rw [d] at d';injection d' with d1 _;have:its=its':=by simpa using congrArg Array.toList d1
 subst this;exact r.inj r'
end
noncomputable abbrev Cx.wish (X:Cx) (E:Value→Shared→Prop):Cx:={ X with xe:=E }
noncomputable abbrev Cx.nox (X:Cx):Cx:=X.wish fun _ _=>False
theorem Cx.Ok.wish {X:Cx} (ok:X.Ok) (E:Value→Shared→Prop):(X.wish E).Ok :=
 ⟨ok.mod,ok.kind,ok.glob,ok.blt,ok.above,ok.inj,ok.has,ok.cab,ok.hd,ok.frames,ok.stk,ok.exf,ok.bs,ok.bsz,ok.noex,ok.exfs,ok.funs,ok.frf⟩
theorem Cx.Ok.unwish {X:Cx} {E:Value→Shared→Prop} (ok:(X.wish E).Ok):X.Ok :=
 ⟨ok.mod,ok.kind,ok.glob,ok.blt,ok.above,ok.inj,ok.has,ok.cab,ok.hd,ok.frames,ok.stk,ok.exf,ok.bs,ok.bsz,ok.noex,ok.exfs,ok.funs,ok.frf⟩
section
variable {X:Cx} {pins:List (Addr×Obj)} {σ:St} {H:Hp} {s:Shared} {E:Value→Shared→Prop}
theorem Inv.wish (I:Inv X pins σ H s) (E:Value→Shared→Prop):Inv (X.wish E) pins σ H s:=⟨I.ok.wish E,I.os,I.bare,I.base,I.loc,I.cell,I.free,I.freeC,I.pin,I.hok,I.len⟩
theorem Inv.unwish (I:Inv (X.wish E) pins σ H s):Inv X pins σ H s:=⟨I.ok.unwish,I.os,I.bare,I.base,I.loc,I.cell,I.free,I.freeC,I.pin,I.hok,I.len⟩
theorem SP.unwish {D:dH} {f:Flow} {s':Shared} (h:SP (X.wish E) pins D f s'):SP X pins D f s':=by
 cases f with
 | next=>obtain ⟨σ',H',I,q⟩:=h; exact ⟨σ',H',I.unwish,q⟩
 | brk=>obtain ⟨σ',H',I,q⟩:=h; exact ⟨σ',H',I.unwish,q⟩
 | cont=>obtain ⟨σ',H',I,q⟩:=h; exact ⟨σ',H',I.unwish,q⟩
 | ret u=>obtain ⟨v,σ',H',I,r,q⟩:=h; exact ⟨v,σ',H',I.unwish,r,q⟩
theorem PSs.nox {st:List Stmt} {t:TS} (h:PSs X.nox st t):PSs X st t:=fun pins s σ H D I hw =>
 wpAny_mono (h pins s σ H D (I.wish _) hw) (fun _ _ q=>q.unwish) fun _ _ z=>False.elim z
end
section
variable {X:Cx} {st:Stmt} {cW:List Stmt} {t u:TS} {e:Expr} {te:TE} {pos:Pos}
noncomputable def ze:TS:=fun D σ H=>D.nx σ H
noncomputable def AX (t u:TS):TS:=fun D σ H=>t { D with nx:=u D } σ H
theorem aE:PSs X [] ze:=fun _ _ σ H _ I h=>wpAny_execs_nil ⟨σ,H,I,h⟩
theorem aO (h1:PS X st t) (h2:PSs X cW u):PSs X (st::cW) (AX t u):=by
 intro pins s σ H D I h;refine wpAny_execs_cons (thn (h1 pins s σ H { D with nx:=u D } I h) fun f s1 q=>?_)
 cases f with
 | next =>
  obtain ⟨σ',H',I',q⟩:=q;exact h2 pins s1 σ' H' D I' q
 | ret v=>exact q
 | brk=>exact q
 | cont=>exact q
theorem ai (h1:PS X st t):PSs X [st] t:=by
 intro pins s σ H D I h;refine wpAny_execs_cons (thn (h1 pins s σ H D I h) fun f s1 q=>?_)
 cases f with
 | next=>exact wpAny_execs_nil q
 | ret v=>exact q
 | brk=>exact q
 | cont=>exact q
theorem Inv.quiet {pins:List (Addr×Obj)} {σ:St} {H:Hp} {s:Shared} (I:Inv X pins σ H s):interactive X.env=false:=by simp [interactive,I.ok.kind]
noncomputable def zb (te:TE):TS:=fun D σ H=>te σ H fun _ H1=>D.nx σ H1
theorem bf (he:PE X e te) (hs:swapsWith e none pos.line X.env=pure false:=by rfl):PS X (.Expr e pos) (zb te):=by
 intro pins s σ H D I h;exact wpAny_Expr_any (thn (he pins s σ H _ I h) fun v s1 ⟨x,H1,I1,r1,q1⟩=>⟨σ,H1,I1,q1⟩) I.quiet hs
noncomputable def BN (te:TE):TS:=fun D σ H=>te σ H D.rt
theorem aG (he:PE X e te):PS X (.Return (some e) pos) (BN te):=by
 intro pins s σ H D I h;exact wpAny_Return_some (thn (he pins s σ H _ I h) fun v s1 ⟨x,H1,I1,r1,q1⟩=>⟨x,σ,H1,I1,r1,q1⟩)
noncomputable def BK (c:TT) (t u:TS):TS:=fun D σ H=>c σ H fun b H1=>if b=true then t D σ H1 else u D σ H1
theorem bo {c:Expr} {a b:List Stmt} {tc:TT} (hc:PT X c tc) (ha:PSs X a t) (hb:PSs X b u):PS X (.If c a b pos) (BK tc t u):=by
 intro pins s σ H D I h;refine wpAny_If (thn (hc pins s σ H _ I h) fun d s1 ⟨H1,I1,q1⟩=>?_)
 cases d with
 | true=>exact ha pins s1 σ H1 D I1 q1
 | false=>exact hb pins s1 σ H1 D I1 q1
end
noncomputable abbrev TG:=V→St→Hp→(St→Hp→Prop)→Prop
noncomputable abbrev TGs:=List V→St→Hp→(St→Hp→Prop)→Prop
noncomputable def PG (X:Cx) (target:Expr) (t:TG):Prop :=
 ∀ (pins:List (Addr×Obj)) (s:Shared) (σ:St) (H:Hp) (v:V) (u:Value) (Q:St→Hp→Prop),Inv X pins σ H s→aQ v u→t v σ H Q →
  wpAny (model X.prog X.w) X.A (assign target X.env u) (fun _ s'=>∃ σ' H',Inv X pins σ' H' s'∧Q σ' H') X.xe s
noncomputable def PGs (X:Cx) (ts:List Expr) (t:TGs):Prop :=
 ∀ (pins:List (Addr×Obj)) (s:Shared) (σ:St) (H:Hp) (vs:List V) (us:List Value) (Q:St→Hp→Prop),Inv X pins σ H s→Vals vs us→t vs σ H Q →
  wpAny (model X.prog X.w) X.A (assignInOrder ((assignEach ts X.env).map (·.2)) us) (fun _ s'=>∃ σ' H',Inv X pins σ' H' s'∧Q σ' H') X.xe s
noncomputable abbrev BW:=V→V→V→Hp→(Hp→Prop)→Prop
noncomputable abbrev TIp:=V→V→Hp→VK→Prop
noncomputable def PIp (X:Cx) (op:Operator) (t:TIp):Prop :=
 ∀ (pins:List (Addr×Obj)) (s:Shared) (σ:St) (H:Hp) (x y:V) (v u:Value) (Q:VK),Inv X pins σ H s→aQ x v→aQ y u→t x y H Q →
  wpAny (model X.prog X.w) X.A (inplaceOp op v u) (EP X pins σ Q) X.xe s
section
variable {X:Cx} {pos:Pos}
noncomputable def dw (i:Nat):TG:=fun v σ H Q=>Q (σ.set i (some v)) H
theorem aW {i:Nat} {x:Str} (hN:X.N.Nodup) (hi:X.N[i]?=some x) (hx:Loc X.env.scope x) (hf:X.fn x=true∨X.env.scope.names.lookup x=some .local:=by first | exact .inl rfl | exact .inr rfl | assumption):PG X (.Name x pos) (dw i):=by
 intro pins s σ H v u Q I r h;exact wpAny_assign_Name (ir I hN hi hx r (fun s' I'=>⟨_,H,I',h⟩) hf)
noncomputable def wW:TGs:=fun vs σ H Q=>vs=[]∧Q σ H
noncomputable def kQ (t:TG) (u:TGs):TGs:=fun vs σ H Q=>∃ v r,vs=v::r∧t v σ H fun σ' H'=>u r σ' H' Q
theorem gZ:PGs X [] wW:=by
 intro pins s σ H vs us Q I r h;obtain ⟨e,h⟩:=h;subst e
 cases r;exact assignInOrder_nil ⟨σ,H,I,h⟩
theorem cD {e:Expr} {es:List Expr} {t:TG} {u:TGs} (h1:PG X e t) (h2:PGs X es u)
  (hs:(assignEach (e::es) X.env).map (·.2)=assign e X.env::(assignEach es X.env).map (·.2):=by rfl):PGs X (e::es) (kQ t u):=by
 intro pins s σ H vs us Q I r h;obtain ⟨v,vr,e1,h⟩:=h;subst e1
 cases r with
 | cons r rr =>
  rw [hs];refine assignInOrder_cons (thn (h1 pins s σ H _ _ _ I r h) fun _ s1 ⟨σ1,H1,I1,q1⟩=>?_);exact h2 pins s1 σ1 H1 _ _ Q I1 rr q1
noncomputable def uf (K:W.Frag) (n:Nat) (t:TGs):TG:=fun v σ H Q=>∃ a xs,v=.ref a∧SqT K H a xs∧xs.length=n∧t xs σ H Q
theorem Al {es:List Expr} {k:Nat} {t:TGs} {n:Nat} (hc:X.calm=true) (h:PGs X es t)
  (hn:(assignEach es X.env).length=n:=by rfl) (hst:(assignEach es X.env).findIdx? (·.1)=none:=by rfl):PG X (.Tuple es k pos) (uf X.K n t):=by
 intro pins s σ H v u Q I r hw;obtain ⟨a,xs,e1,hq,hl,hw⟩:=hw;subst e1
 cases r;obtain ⟨its,rv,ht,hz⟩:=I.tuple hq;refine assign_Tuple_tuple (I.ok.hd hc) ht (by simp [hn,← hl,rv.length]) hst fun h' hx=>?_;have I1:Inv X pins σ H { s with heap:=h' }:=I.kept (t':=s.toks) fun b o e=>hx b o (Nat.ne_of_lt (Heap.lt_size e)) e;exact h pins _ σ H xs _ Q I1 (by simpa using rv) hw
noncomputable def v3 (te:TE) (g:TG):TS:=fun D σ H=>te σ H fun x H1=>g x σ H1 D.nx
theorem Am {tg e:Expr} {te:TE} {g:TG} (he:PE X e te) (hg:PG X tg g) (hs:swapsWithSole [tg] e pos.line X.env=pure false:=by rfl) (hw:swappedStores [tg] e X.env=pure none:=by rfl)
  (h1:(assignEach [tg] X.env).map (·.2)=[assign tg X.env]:=by rfl):PS X (.Assign [tg] e pos) (v3 te g):=by
 intro pins s σ H D I h;refine wpAny_Assign_stores (thn (he pins s σ H _ I h) fun v s1 ⟨x,H1,I1,r1,q1⟩=>?_) hs hw;rw [h1];exact thn (hg pins s1 σ H1 x v _ I1 r1 q1) fun _ s2 q=>q
theorem gw {i:Nat} {x:Str} {e:Expr} {te:TE} {pos':Pos} (hN:X.N.Nodup) (hi:X.N[i]?=some x) (hx:Loc X.env.scope x) (he:PE X e te) (hs:swapsWith e (some (.Name x pos')) pos.line X.env=pure false:=by rfl) (hf:X.fn x=true∨X.env.scope.names.lookup x=some .local:=by first | exact .inl rfl | exact .inr rfl | assumption) :
  PS X (.Assign [.Name x pos'] e pos) (v3 te (dw i)):=by
 intro pins s σ H D I h;refine wpAny_Assign_Name (thn (he pins s σ H _ I h) fun v s1 ⟨y,H1,I1,r1,q1⟩=>?_) hs;exact ir I1 hN hi hx r1 (fun s2 I2=>⟨_,H1,I2,q1⟩) hf
noncomputable def BH (i:Nat) (te:TE) (ti:TIp):TS:=fun D σ H=>∃ x,σ[i]?=some (some x)∧te σ H fun y H1=>ti x y H1 fun z H2=>D.nx (σ.set i (some z)) H2
theorem Ao {i:Nat} {x:Str} {e:Expr} {te:TE} {op:Operator} {ti:TIp} {pos':Pos} (hN:X.N.Nodup) (hi:X.N[i]?=some x) (hx:Loc X.env.scope x) (he:PE X e te) (ho:PIp X op ti) (hf:X.fn x=true∨X.env.scope.names.lookup x=some .local:=by first | exact .inl rfl | exact .inr rfl | assumption) :
  PS X (.AugAssign (.Name x pos') op e pos) (BH i te ti):=by
 intro pins s σ H D I h;obtain ⟨v,e1,h⟩:=h;obtain ⟨m,hn,hl⟩:=I.loc;have vis:Vis X.env.scope x:=by rcases hx with k | k; exact .inl k; exact .inr (.inl k)
 obtain ⟨u,r,l⟩:=hl i x v hi e1 vis;refine wpAny_AugAssign_Name ?_
 have go:wpAny (model X.prog X.w) X.A (eval e X.env) (fun w s₂=>wpAny (model X.prog X.w) X.A (inplaceOp op u w) (fun r s₃=>wpAny (model X.prog X.w) X.A (storeName X.env x r) (fun _=>SP X pins D .next) X.xe s₃) X.xe s₂) X.xe s:=by
  refine thn (he pins s σ H _ I h) fun w s1 ⟨y,H1,I1,r1,q1⟩=>?_;refine thn (ho pins s1 σ H1 v y u w _ I1 r r1 q1) fun z s2 ⟨zv,H2,I2,r2,q2⟩=>?_;exact ir I2 hN hi hx r2 (fun s3 I3=>⟨_,H2,I3,q2⟩) hf
 rcases l with ⟨hk,hm⟩ | ⟨hk,c,hc,hcell⟩
 ·exact wpAny_loadName_local I.ok.kind hk hn hm go
 ·rcases hk with hk | hk
  ·exact wpAny_loadName_cell I.ok.kind hk hc hcell go
  ·rcases hx with k | k
   ·have:X.env.scope.names.lookup x=some .free:=hk
    rw [k] at this; cases this
   ·have:X.env.scope.names.lookup x=some .free:=hk
    rw [k] at this; cases this
noncomputable def ipI (f:Int→Int→Int):TIp:=fun x y H Q=>∃ i j,x=.int i∧y=.int j∧Q (.int (f i j)) H
theorem zL:PIp X .Add (ipI fun i j=>i+j):=by
 intro pins s σ H x y v u Q I r1 r2 h;obtain ⟨i,j,e1,e2,q⟩:=h;subst e1; subst e2;obtain ⟨t,rfl⟩:=r1;obtain ⟨t',rfl⟩:=r2;exact iadd_int ⟨.int _,H,I.tok _,⟨_,rfl⟩,q⟩
noncomputable def wo (c:TT) (tb:TS):TS:=fun D σ H=>∃ W:Nat→St→Hp→Prop,(∃ m,W m σ H)∧∀ m σ H,W m σ H →
 c σ H fun b H1=>if b=true then ∃ N:St→Hp→Prop,(∀ σ' H',N σ' H'→∃ m',m'<m∧W m' σ' H')∧tb { D with nx:=N,ct:=N,bk:=D.nx } σ H1 else D.nx σ H1
theorem fu {c:Expr} {body:List Stmt} {tc:TT} {tb:TS} (hp:PassesOwn (model X.prog X.w) X.A X.env X.xe) (hc:PT X c tc) (hb:PSs X body tb):PS X (.While c body [] pos) (wo tc tb):=by
 intro pins s σ H D I h;obtain ⟨W,⟨m0,w0⟩,turn⟩:=h;refine wpAny_While (codeAny_whileLoop (fun n s'=>∃ σ' H',Inv X pins σ' H' s'∧W n σ' H') ?_ m0 ⟨σ,H,I,w0⟩);rintro n s1 ⟨σ1,H1,I1,w1⟩;refine wpAny_passesOwn hp (thn (hc pins s1 σ1 H1 _ I1 (turn n σ1 H1 w1)) fun b s2 ⟨H2,I2,q2⟩=>?_)
 cases b with
 | true =>
  obtain ⟨N,hN,q2⟩:=q2;rw [if_pos rfl];refine wpAny_passesOwn hp (thn (hb pins s2 σ1 H2 _ I2 q2) fun f s3 q3=>?_)
  cases f with
  | next =>
   obtain ⟨σ3,H3,I3,n3⟩:=q3;obtain ⟨m',hm,w3⟩:=hN σ3 H3 n3;exact ⟨m',hm,σ3,H3,I3,w3⟩
  | cont =>
   obtain ⟨σ3,H3,I3,n3⟩:=q3;obtain ⟨m',hm,w3⟩:=hN σ3 H3 n3;exact ⟨m',hm,σ3,H3,I3,w3⟩
  | brk => exact q3
  | ret v => exact q3
 | false =>
  rw [if_neg Bool.false_ne_true];exact wpAny_execs_nil ⟨σ1,H2,I2,q2⟩
end
structure It where
 go:Nat→Hp→Prop
 yld:Nat→Hp→V→Hp→Prop
 stop:Nat→Hp→Prop
noncomputable def f9 (X:Cx) (pins:List (Addr×Obj)) (H:Hp) (b:Addr):Prop :=
 H b=none∧b≠X.env.locals∧b∉X.fs∧(b∈X.ex∨X.s₀.heap.objs.size≤b)∧(∀ x c,X.env.cells.lookup x=some c→c≠b)∧∀ p∈X.pn++pins,p.1≠b
theorem Inv.fpOk {X:Cx} {pins:List (Addr×Obj)} {σ:St} {H H':Hp} {s:Shared} {b:Addr} (I:Inv X pins σ H s) (hb:s.heap.objs.size≤b) (hn:H' b=none):f9 X pins H' b:=by
 refine ⟨hn,Nat.ne_of_gt (Nat.lt_of_lt_of_le I.lt hb),I.nofs hb,.inr (Nat.le_trans I.sz hb),fun x c e z=>?_,fun p hp z=>?_⟩
 ·obtain ⟨v,q⟩:=I.cell x c e;exact absurd (Nat.lt_of_lt_of_le q.lt (by rw [z]; exact hb)) (Nat.lt_irrefl _)
 ·exact absurd (Nat.lt_of_lt_of_le (Heap.lt_size (I.pin p hp).1) (by rw [z]; exact hb)) (Nat.lt_irrefl _)
structure pB (P:Program) (w:World) (K:W.Frag) (tg:Expr) (J:It) (fp:List Addr) (it:Addr) (tn:Nat→Heap→Prop):Prop where
 mem:it∈fp
 obj:∀ i h,tn i h→∀ b∈fp,∃ o,h.get? b=some o∧∀ v,o.data≠.cell v
 keep:∀ i h h',tn i h→(∀ b∈fp,∀ o,h.get? b=some o→h'.get? b=some o)→tn i h'
 item:∀ (X:Cx),X.prog=P→X.w=w→X.K=K→X.calm=true→∀ (i:Nat) (pins:List (Addr×Obj)) (s:Shared) (σ:St) (H:Hp) (E:Value→Shared→Prop),Inv X pins σ H s→(∀ b∈fp,f9 X pins H b)→tn i s.heap→J.go i H →
  wpAny (model P w) X.A (pyNext (.ref it)) (fun r s1=>∃ u,r=some u ∧
   wpAny (model P w) X.A (letOwnedTupleGo tg (.ref it) u) (fun _ s2=>∃ x H',Inv X pins σ H' s2∧aQ x u∧J.yld i H x H'∧tn (i+1) s2.heap∧∀ b∈fp,H' b=none) E s1) E s
 done:∀ (X:Cx),X.prog=P→X.w=w→X.K=K→X.calm=true→∀ (i:Nat) (pins:List (Addr×Obj)) (s:Shared) (σ:St) (H:Hp) (E:Value→Shared→Prop),Inv X pins σ H s→(∀ b∈fp,f9 X pins H b)→tn i s.heap→J.stop i H →
  wpAny (model P w) X.A (pyNext (.ref it)) (fun r s1=>r=none∧Inv X pins σ H s1) E s
 self:∀ (A:Around) (i:Nat) (s:Shared) (Q:Value→Shared→Prop) (E:Value→Shared→Prop),tn i s.heap→Q (.ref it) s→wpAny (model P w) A (pyIter (.ref it)) Q E s
noncomputable abbrev TI:=St→Hp→(It→Hp→Prop)→Prop
noncomputable def PIE (X:Cx) (pins:List (Addr×Obj)) (σ:St) (tg:Expr) (R:It→Hp→Prop) (itv:Value) (s2:Shared):Prop :=
 ∃ (it:Addr) (fp:List Addr) (tn:Nat→Heap→Prop) (J:It) (H':Hp),itv=.ref it∧Inv X pins σ H' s2∧pB X.prog X.w X.K tg J fp it tn∧tn 0 s2.heap∧(∀ b∈fp,f9 X pins H' b)∧R J H'
noncomputable def PI (X:Cx) (tg iter:Expr) (wi:TI):Prop :=
 ∀ (pins:List (Addr×Obj)) (s:Shared) (σ:St) (H:Hp) (R:It→Hp→Prop),Inv X pins σ H s→wi σ H R →
  wpAny (model X.prog X.w) X.A (eval iter X.env) (fun v s1=>wpAny (model X.prog X.w) X.A (pyIter v) (PIE X pins σ tg R) X.xe s1) X.xe s
theorem ui {M:Model} {A:Around} {E:Value→Shared→Prop} {s:Shared} {tg:Expr} {it:Addr} {u:Value} {o:Obj} {n:String} {vs:Array Value} {Q:Unit→Shared→Prop} (ho:s.heap.get? it=some o) (hc:o.cls=.type n) (hd:o.data=.fields vs)
    (hn:["enumerate","zip","dict_itemiterator","dict_reverseitemiterator","odict_iterator","itertools.zip_longest","itertools.pairwise"].contains n=false) (hQ:Q () s):wpAny M A (letOwnedTupleGo tg (.ref it) u) Q E s:=by
  unfold letOwnedTupleGo
  cases tg<;>first
    | exact wpAny_pure hQ
    | (cases u<;>first
        | exact wpAny_pure hQ
        | (refine wpAny_bind (wpAny_load ho ?_)
           rw [hc,hd]
           show wpAny M A (if (["enumerate","zip","dict_itemiterator","dict_reverseitemiterator","odict_iterator","itertools.zip_longest","itertools.pairwise"].contains n&&vs[0]?==some (rawInt _))=true then _ else _) Q E s
           rw [if_neg (by intro h; rw [hn,Bool.false_and] at h; cases h)];exact wpAny_pure hQ))
noncomputable def Itl (K:W.Frag) (a:Addr):It :=
 ⟨fun i H=>∃ xs x,SqL K H a xs∧xs[i]?=some x,fun i H x H'=>H'=H∧∀ xs,SqL K H a xs→xs[i]?=some x,fun i H=>∃ xs,SqL K H a xs∧xs.length≤i⟩
noncomputable def Itr (lo:Int) (n:Nat):It:=⟨fun i _=>i<n,fun i H x H'=>H'=H∧x=.int (lo+i),fun i _=>n≤i⟩
theorem tF {P:Program} {w:World} {K:W.Frag} {tg:Expr} (a it:Addr):pB P w K tg (Itl K a) [it] it (fun i h=>h.IsListIter it a i) where
 mem:=by simp
 obj:=fun i h st b hb=>by
  have e:b=it:=by simpa using hb
  subst e;obtain ⟨o,e,c,d⟩:=st;exact ⟨o,e,fun v z=>by rw [d] at z; cases z⟩
 keep:=fun i h h' st k=>st.at fun o e=>k it (by simp) o e
 item:=by
  intro X hP hw hK hc i pins s σ H E I hf st hg;subst hP hw hK;obtain ⟨xs,x,hq,hx⟩:=hg;obtain ⟨its,rv,p,hz⟩:=I.list hq;obtain ⟨u,hu,ru⟩:=rv.get hx;obtain ⟨f0,f1,f2,f3,f4,f5⟩:=hf it (by simp);refine wpAny_pyNext_list_item st p.isList (x:=u) (by simpa using hu) fun h' st' sb=>?_;have I1:Inv X pins σ H { s with heap:=h' }:=I.turned (t':=s.toks) (fun b o hb e=>(sb.2 b hb).trans e) f0 f1 f3 f4 f5;obtain ⟨o,e,c,d⟩:=id st';exact ⟨u,rfl,ui (s:={ s with heap:=h' }) e c d (by decide) ⟨x,H,I1,ru,⟨rfl,fun ys hy=>by rw [I.list_inj hy hq]; exact hx⟩,st',fun b hb=>(hf b hb).1⟩⟩
 done:=by
  intro X hP hw hK hc i pins s σ H E I hf st hg;subst hP hw hK;obtain ⟨xs,hq,hx⟩:=hg;obtain ⟨its,rv,p,hz⟩:=I.list hq;obtain ⟨f0,f1,f2,f3,f4,f5⟩:=hf it (by simp);have hl:=rv.length;exact wpAny_pyNext_list_end (I.ok.hd hc) st p.isList (by simp; omega) fun h' eb=>⟨rfl,I.turned (t':=s.toks) (fun b o hb e=>eb b o hb e) f0 f1 f3 f4 f5⟩
 self:=fun _ _ _ _ _ st h=>wpAny_pyIter_listiter st h
theorem qx {P:Program} {w:World} {K:W.Frag} {tg:Expr} (it:Addr) (lo:Int) (n:Nat):pB P w K tg (Itr lo n) [it] it (fun i h=>IsRangeIter h it (lo+(i:Nat)*1) ((n:Int) - (i:Nat)) 1) where
 mem:=by simp
 obj:=fun i h st b hb=>by
  have e:b=it:=by simpa using hb
  subst e;exact ⟨_,st,fun v z=>by
   have z':Data.fields _=Data.cell v:=z
   cases z'⟩
 keep:=fun i h h' st k=>k it (by simp) _ st
 item:=by
  intro X hP hw hK hc i pins s σ H E I hf st hg;subst hP hw hK;obtain ⟨f0,f1,f2,f3,f4,f5⟩:=hf it (by simp);have W:=Walks.range (prog:=X.prog) (w:=X.w) (I.ok.hd hc) it lo 1 n;refine W.item i s _ _ hg st fun v h' tk hv st' kk=>?_;obtain ⟨t,rfl⟩:=hv;have I1:Inv X pins σ H { s with heap:=h',toks:=tk }:=I.turned (fun b o hb e=>kk b o (by simpa using hb) e) f0 f1 f3 f4 f5;refine ⟨_,rfl,ui (s:={ s with heap:=h',toks:=tk }) (n:="range_iterator") st' rfl rfl (by decide) ⟨.int (lo+i),H,I1,⟨t,?_⟩,⟨rfl,rfl⟩,st',fun b hb=>(hf b hb).1⟩⟩;rw [Int.mul_one]
 done:=by
  intro X hP hw hK hc i pins s σ H E I hf st hg;subst hP hw hK;obtain ⟨f0,f1,f2,f3,f4,f5⟩:=hf it (by simp);exact wpAny_pyNext_range_end (I.ok.hd hc) st (by have:n≤i:=hg; omega) fun h' eb=>⟨rfl,I.turned (t':=s.toks) (fun b o hb e=>eb b o hb e) f0 f1 f3 f4 f5⟩
 self:=fun _ _ _ _ _ st h=>wpAny_pyIter_rangeiter st h
section
variable {X:Cx} {tg:Expr}
noncomputable def yM (K:W.Frag) (tl:TE):TI:=fun σ H R=>tl σ H fun x H1=>∃ a,x=.ref a∧(∃ xs,SqL K H1 a xs)∧R (Itl K a) H1
theorem dR {l:Expr} {tl:TE} (hl:PE X l tl):PI X tg l (yM X.K tl):=by
 intro pins s σ H R I h;refine thn (hl pins s σ H _ I h) fun v s1 ⟨x,H1,I1,r1,q1⟩=>?_;obtain ⟨a,e,⟨xs,hq⟩,q⟩:=q1;subst e
 cases r1;obtain ⟨its,rv,p,hz⟩:=I1.list hq;refine wpAny_pyIter_list p.isList ?_;refine ⟨s1.heap.objs.size,[s1.heap.objs.size],_,_,H1,rfl,I1.kept (t':=s1.toks) fun b o e=>Heap.get?_push_of_some _ e,tF a _,⟨_,Heap.get?_push_size _ rfl,rfl,rfl⟩,fun b hb=>?_,q⟩;have e:b=s1.heap.objs.size:=by simpa using hb
 subst e;exact I1.fpOk (Nat.le_refl _) (I1.hok.fresh (Nat.le_refl _))
theorem ox {pins:List (Addr×Obj)} {σ:St} {H:Hp} {s:Shared} {R:It→Hp→Prop} {E:Value→Shared→Prop} {lo hi:Int} {t u v:Tok} {tk:Nat} (I:Inv X pins σ H s) (h1:-(2 ^ 62)≤lo) (h2:lo<2 ^ 62) (h3:-(2 ^ 62)≤hi) (h4:hi<2 ^ 62)
  (q:R (Itr lo (hi - lo).toNat) H):wpAny (model X.prog X.w) X.A (pyIter (.ref s.heap.objs.size)) (PIE X pins σ tg R) E { s with heap:=s.heap.push { cls:=.type "range",data:=.fields #[.int lo t,.int hi u,.int 1 v] },toks:=tk }:=by
 refine wpAny_pyIter_range (IsRange.new ..) (small_one h1 h2 h3 h4) ?_;have I1:Inv X pins σ H { s with heap:=s.heap.push { cls:=.type "range",data:=.fields #[.int lo t,.int hi u,.int 1 v] },toks:=tk }:=I.kept fun b o e=>Heap.get?_push_of_some _ e;refine ⟨(s.heap.push { cls:=.type "range",data:=.fields #[.int lo t,.int hi u,.int 1 v] }).objs.size,[(s.heap.push { cls:=.type "range",data:=.fields #[.int lo t,.int hi u,.int 1 v] }).objs.size],_,_,H,rfl,
  I1.kept (t':=tk) fun b o e=>Heap.get?_push_of_some _ e,qx _ lo (hi - lo).toNat,?_,fun b hb=>?_,q⟩
 ·have e1:lo+((0:Nat):Int)*1=lo:=by simp
  have e2:(((hi - lo).toNat:Nat):Int) - ((0:Nat):Int)=Builtin.Range.rangeSize lo hi 1:=by rw [rangeSize_one]; split<;>omega
  show IsRangeIter _ _ (lo+((0:Nat):Int)*1) ((((hi - lo).toNat:Nat):Int) - ((0:Nat):Int)) 1
  rw [e1,e2];exact Heap.get?_push_size _ rfl
 ·have e:b=(s.heap.push { cls:=.type "range",data:=.fields #[.int lo t,.int hi u,.int 1 v] }).objs.size:=by simpa using hb
  subst e;exact I1.fpOk (Nat.le_refl _) (I1.hok.fresh (Nat.le_refl _))
noncomputable def yN (ta:TA):TI:=fun σ H R=>ta σ H fun vs H1=>∃ j:Int,vs=[.int j]∧-(2 ^ 62)≤j∧j<2 ^ 62∧R (Itr 0 j.toNat) H1
noncomputable def yO (ta:TA):TI:=fun σ H R=>ta σ H fun vs H1=>∃ i j:Int,vs=[.int i,.int j]∧(-(2 ^ 62)≤i∧i<2 ^ 62∧-(2 ^ 62)≤j∧j<2 ^ 62)∧R (Itr i (j - i).toNat) H1
theorem dk {a:Expr} {ta:TA} {p pos:Pos} (hg:Gl X "range") (hm:X.mg "range"=none) (ha:PA X [a] ta) (hs:starEach [a] X.env=[(false,eval a X.env)]:=by rfl):PI X tg (.Call (.Name "range" p) [a] [] pos) (yN ta):=by
 intro pins s σ H R I h;refine Call_ (d9 I hg hm boot_range (PyProof.Rows.callWith_type1 (thn (ha pos pins s σ H _ I h) fun us s1 ⟨vs,H1,I1,r1,q1⟩=>?_) hs rfl));obtain ⟨j,e,q1,q2,q⟩:=q1;subst e
 cases r1 with
 | cons r rr =>
  cases rr;obtain ⟨t,rfl⟩:=r;exact call_range_1 (ox I1 (by omega) (by omega) q1 q2 (by simpa using q))
theorem iE {a b:Expr} {ta:TA} {p pos:Pos} (hg:Gl X "range") (hm:X.mg "range"=none) (ha:PA X [a,b] ta) (hs:starEach [a,b] X.env=[(false,eval a X.env),(false,eval b X.env)]:=by rfl) (hs2:starEach [b] X.env=[(false,eval b X.env)]:=by rfl) :
  PI X tg (.Call (.Name "range" p) [a,b] [] pos) (yO ta):=by
 intro pins s σ H R I h;refine Call_ (d9 I hg hm boot_range (PyProof.Rows.callWith_type1 (thn (ha pos pins s σ H _ I h) fun us s1 ⟨vs,H1,I1,r1,q1⟩=>?_) (by rw [hs,hs2]) (by rw [hs2]; rfl)));obtain ⟨i,j,e,⟨q1,q2,q3,q4⟩,q⟩:=q1;subst e
 cases r1 with
 | cons r rr =>
  cases rr with
  | cons r' rr =>
   cases rr;obtain ⟨t,rfl⟩:=r;obtain ⟨t',rfl⟩:=r';exact call_range_2 (ox I1 q1 q2 q3 q4 q)
noncomputable def BJ (wi:TI) (g:TG) (tb:TS):TS:=fun D σ H=>wi σ H fun J H1=>∃ W:Nat→Nat→St→Hp→Prop,(∃ m,W 0 m σ H1)∧∀ i m σ H,W i m σ H →
 (J.stop i H∧D.nx σ H)∨(J.go i H∧∃ N:St→Hp→Prop,(∀ σ' H',N σ' H'→∃ m',m'<m∧W (i+1) m' σ' H')∧∀ x H',J.yld i H x H'→g x σ H' fun σ2 H2=>tb { D with nx:=N,ct:=N,bk:=D.nx } σ2 H2)
noncomputable def jR (fp:List Addr) (h:Heap):List (Addr×Obj):=fp.filterMap fun b=>(h.get? b).map fun o=>(b,o)
theorem eX {fp:List Addr} {h:Heap} {b:Addr} {o:Obj} (hb:b∈fp) (e:h.get? b=some o):(b,o)∈jR fp h:=List.mem_filterMap.mpr ⟨b,hb,by rw [e]; rfl⟩
theorem sF {fp:List Addr} {h:Heap} {p:Addr×Obj} (hp:p∈jR fp h):p.1∈fp∧h.get? p.1=some p.2:=by
 obtain ⟨b,hb,e⟩:=List.mem_filterMap.mp hp
 cases q:h.get? b with
 | none=>rw [q] at e; cases e
 | some o =>
  rw [q] at e;have e':(b,o)=p:=Option.some.inj e;subst e';exact ⟨hb,q⟩
theorem Inv.pinned {pins:List (Addr×Obj)} {σ:St} {H:Hp} {s:Shared} {fp:List Addr} (I:Inv X pins σ H s) (hf:∀ b∈fp,f9 X pins H b) (ho:∀ b∈fp,∃ o,s.heap.get? b=some o∧∀ v,o.data≠.cell v):Inv X (pins++jR fp s.heap) σ H s :=
 I.pins_of fun p hp=>(List.mem_append.mp hp).elim (fun z=>I.pin p (List.mem_append_right _ z)) fun z=>by
  obtain ⟨hb,e⟩:=sF z;obtain ⟨f0,f1,f2,_⟩:=hf p.1 hb;obtain ⟨o,e',d⟩:=ho p.1 hb;rw [e] at e'; cases e';exact ⟨e,f0,f1,f2,d⟩
theorem Inv.unpinned {pins pl:List (Addr×Obj)} {σ:St} {H:Hp} {s:Shared} (I:Inv X (pins++pl) σ H s):Inv X pins σ H s:=I.pins_of fun p hp=>I.pin p (List.mem_append_right _ (List.mem_append_left _ hp))
theorem c6 {iter:Expr} {body:List Stmt} {wi:TI} {g:TG} {tb:TS} {pos:Pos} (hp:PassesOwn (model X.prog X.w) X.A X.env X.xe) (hc:X.calm=true) (hi:PI X tg iter wi) (hg:PG X tg g) (hb:PSs X body tb)
  (hs:∀ x,foldedSetIterable iter X.env x=pure x:=by intro _; rfl):PS X (.For tg iter body [] pos) (BJ wi g tb):=by
 intro pins s σ H D I h;refine wpAny_For (thn (hi pins s σ H _ I h) fun v s1 h1=>thn h1 fun itv s2 h2=>?_) hs;obtain ⟨it,fp,tn,J,H2,e,I2,T,st2,f2,W,⟨m0,w0⟩,turn⟩:=h2;subst e
 -- what stays true of the iterator's objects through the loop
 have stat:∀ {H':Hp},(∀ b∈fp,H' b=none)→∀ b∈fp,f9 X pins H' b:=fun hn b hb=>⟨hn b hb,(f2 b hb).2⟩
 refine codeAny_forLoop_any (fun n s'=>∃ i σ' H',Inv X pins σ' H' s'∧tn i s'.heap∧(∀ b∈fp,H' b=none)∧W i n σ' H') ?_ m0 ⟨0,σ,H2,I2,st2,fun b hb=>(f2 b hb).1,w0⟩;rintro n s3 ⟨i,σ3,H3,I3,st3,fr3,w3⟩;rcases turn i n σ3 H3 w3 with ⟨stop,qn⟩ | ⟨go,N,hN,step⟩
 ·refine wpAny_passesOwn hp (thn (T.done X rfl rfl rfl hc i pins s3 σ3 H3 X.xe I3 (stat fr3) st3 stop) fun r s4 ⟨hr,I4⟩=>?_);subst hr;exact wpAny_execs_nil ⟨σ3,H3,I4,qn⟩
 ·refine wpAny_passesOwn hp (thn (T.item X rfl rfl rfl hc i pins s3 σ3 H3 X.xe I3 (stat fr3) st3 go) fun r s4 ⟨u,hr,h4⟩=>?_);subst hr;refine wpAny_passesOwn hp (thn h4 fun _ s5 ⟨x,H5,I5,r5,y5,st5,fr5⟩=>?_);have I5':=I5.pinned (stat fr5) (T.obj _ _ st5);refine wpAny_passesOwn hp (thn (hg _ s5 σ3 H5 x u _ I5' r5 (step x H5 y5)) fun _ s6 ⟨σ6,H6,I6,q6⟩=>?_);refine wpAny_passesOwn hp (thn (hb _ s6 σ6 H6 _ I6 q6) fun f s7 q7=>?_);have again:∀ {σ7:St} {H7:Hp},Inv X (pins++jR fp s5.heap) σ7 H7 s7→N σ7 H7→∃ m,m<n∧∃ i σ' H',Inv X pins σ' H' s7∧tn i s7.heap∧(∀ b∈fp,H' b=none)∧W i m σ' H':=fun {σ7 H7} I7 n7=>by
   obtain ⟨m',hm,w7⟩:=hN σ7 H7 n7;refine ⟨m',hm,i+1,σ7,H7,I7.unpinned,T.keep _ _ _ st5 fun b hb o e=>(I7.pin (b,o) (List.mem_append_right _ (List.mem_append_right _ (eX hb e)))).1,fun b hb=>?_,w7⟩;obtain ⟨o,e,d⟩:=T.obj _ _ st5 b hb;exact (I7.pin (b,o) (List.mem_append_right _ (List.mem_append_right _ (eX hb e)))).2.1
  cases f with
  | next => obtain ⟨σ7, H7, I7, n7⟩ := q7; exact again I7 n7
  | cont => obtain ⟨σ7, H7, I7, n7⟩ := q7; exact again I7 n7
  | brk => obtain ⟨σ7, H7, I7, q7⟩ := q7; exact ⟨σ7, H7, I7.unpinned, q7⟩
  | ret v => obtain ⟨x7, σ7, H7, I7, r7, q7⟩ := q7; exact ⟨x7, σ7, H7, I7.unpinned, r7, q7⟩
end
theorem ue {K:W.Frag} {a:Addr} {xs:List V} {g:TG} {tb:TS} {D:dH} {σ:St} {H:Hp} (Pv:Nat→St→Hp→Prop) (h0:Pv 0 σ H) (hl:∀ i σ H,i≤xs.length→Pv i σ H→SqL K H a xs)
  (hs:∀ i x σ H,xs[i]?=some x→Pv i σ H→g x σ H fun σ2 H2=>tb { D with nx:=Pv (i+1),ct:=Pv (i+1),bk:=D.nx } σ2 H2) (hd:∀ σ H,Pv xs.length σ H→D.nx σ H) :
  ∃ W:Nat→Nat→St→Hp→Prop,(∃ m,W 0 m σ H)∧∀ i m σ H,W i m σ H →
   ((Itl K a).stop i H∧D.nx σ H)∨((Itl K a).go i H∧∃ N:St→Hp→Prop,(∀ σ' H',N σ' H'→∃ m',m'<m∧W (i+1) m' σ' H')∧∀ x H',(Itl K a).yld i H x H'→g x σ H' fun σ2 H2=>tb { D with nx:=N,ct:=N,bk:=D.nx } σ2 H2):=by
 refine ⟨fun i m σ H=>m=xs.length - i∧i≤xs.length∧Pv i σ H,⟨xs.length,by simp,Nat.zero_le _,h0⟩,?_⟩;rintro i m σ H ⟨rfl,hi,p⟩;have q:=hl i σ H hi p;by_cases hlt:i<xs.length
 ·refine .inr ⟨⟨xs,xs[i],q,by simp [hlt]⟩,Pv (i+1),fun σ' H' p'=>⟨xs.length - (i+1),by omega,rfl,hlt,p'⟩,fun x H' y=>?_⟩;obtain ⟨e,y⟩:=y;subst e;exact hs i x σ _ (y xs q) p
 ·have e:i=xs.length:=by omega
  subst e;exact .inl ⟨⟨xs,q,Nat.le_refl _⟩,hd σ H p⟩
theorem rX {lo:Int} {n:Nat} {g:TG} {tb:TS} {D:dH} {σ:St} {H:Hp} (Pv:Nat→St→Hp→Prop) (h0:Pv 0 σ H)
  (hs:∀ i σ H,i<n→Pv i σ H→g (.int (lo+i)) σ H fun σ2 H2=>tb { D with nx:=Pv (i+1),ct:=Pv (i+1),bk:=D.nx } σ2 H2) (hd:∀ σ H,Pv n σ H→D.nx σ H) :
  ∃ W:Nat→Nat→St→Hp→Prop,(∃ m,W 0 m σ H)∧∀ i m σ H,W i m σ H →
   ((Itr lo n).stop i H∧D.nx σ H)∨((Itr lo n).go i H∧∃ N:St→Hp→Prop,(∀ σ' H',N σ' H'→∃ m',m'<m∧W (i+1) m' σ' H')∧∀ x H',(Itr lo n).yld i H x H'→g x σ H' fun σ2 H2=>tb { D with nx:=N,ct:=N,bk:=D.nx } σ2 H2):=by
 refine ⟨fun i m σ H=>m=n - i∧i≤n∧Pv i σ H,⟨n,by simp,Nat.zero_le _,h0⟩,?_⟩;rintro i m σ H ⟨rfl,hi,p⟩;by_cases hlt:i<n
 ·refine .inr ⟨hlt,Pv (i+1),fun σ' H' p'=>⟨n - (i+1),by omega,rfl,hlt,p'⟩,fun x H' y=>?_⟩;obtain ⟨e,y⟩:=y;subst e y;exact hs i σ _ hlt p
 ·have e:i=n:=by omega
  subst e;exact .inl ⟨Nat.le_refl _,hd σ H p⟩
noncomputable abbrev R2:=V→V→Hp→VK→Prop
noncomputable def OpR (X:Cx) (f:Value→Value→Sem Value) (r:R2):Prop :=
 ∀ (pins:List (Addr×Obj)) (s:Shared) (σ:St) (H:Hp) (x y:V) (v u:Value) (Q:VK),Inv X pins σ H s→aQ x v→aQ y u→r x y H Q →
  wpAny (model X.prog X.w) X.A (f v u) (EP X pins σ Q) X.xe s
noncomputable def UnR (X:Cx) (f:Value→Sem Value) (r:V→Hp→VK→Prop):Prop :=
 ∀ (pins:List (Addr×Obj)) (s:Shared) (σ:St) (H:Hp) (x:V) (v:Value) (Q:VK),Inv X pins σ H s→aQ x v→r x H Q →
  wpAny (model X.prog X.w) X.A (f v) (EP X pins σ Q) X.xe s
noncomputable def bI (X:Cx) (f:Value) (r:List V→Hp→VK→Prop):Prop :=
 ∀ (pins:List (Addr×Obj)) (s:Shared) (σ:St) (H:Hp) (xs:List V) (us:List Value) (Q:VK),Inv X pins σ H s→Vals xs us→r xs H Q →
  wpAny (model X.prog X.w) X.A (call f us) (EP X pins σ Q) X.xe s
noncomputable def tOp (r:R2) (ta tb:TE):TE:=fun σ H Q=>ta σ H fun x H1=>tb σ H1 fun y H2=>r x y H2 Q
noncomputable def tUn (r:V→Hp→VK→Prop) (ta:TE):TE:=fun σ H Q=>ta σ H fun x H1=>r x H1 Q
noncomputable def rI (C:Int→Int→Prop) (g:Int→Int→V):R2:=fun x y H Q=>∃ i j,x=.int i∧y=.int j∧C i j∧Q (g i j) H
noncomputable def rI0 (g:Int→Int→V):R2:=fun x y H Q=>∃ i j,x=.int i∧y=.int j∧Q (g i j) H
noncomputable def rU (g:Int→V):V→Hp→VK→Prop:=fun x H Q=>∃ i,x=.int i∧Q (g i) H
section
variable {X:Cx} {a b c:Expr} {ta tb tc:TE} {pos:Pos}
theorem zq (ha:PE X a ta) (hb:PE X b tb) {pins:List (Addr×Obj)} {s:Shared} {σ:St} {H:Hp} {R:V→V→Hp→Prop} (I:Inv X pins σ H s)
  (h:ta σ H fun x H1=>tb σ H1 fun y H2=>R x y H2) {Q:Value→Shared→Prop} {f:Value→Value→Sem Value}
  (hf:∀ v u s2 x y H2,Inv X pins σ H2 s2→aQ x v→aQ y u→R x y H2→wpAny (model X.prog X.w) X.A (f v u) Q X.xe s2) :
  wpAny (model X.prog X.w) X.A (eval a X.env) (fun v s₁=>wpAny (model X.prog X.w) X.A (eval b X.env) (fun u s₂=>wpAny (model X.prog X.w) X.A (f v u) Q X.xe s₂) X.xe s₁) X.xe s:=by
 refine thn (ha pins s σ H _ I h) fun v s1 ⟨x,H1,I1,r1,q1⟩=>?_;refine thn (hb pins s1 σ H1 _ I1 q1) fun u s2 ⟨y,H2,I2,r2,q2⟩=>?_;exact hf v u s2 x y H2 I2 r1 r2 q2
theorem ar {op:Operator} {r:R2} (ho:OpR X (binaryOp op) r) (ha:PE X a ta) (hb:PE X b tb):PE X (.BinOp a op b pos) (tOp r ta tb):=by
 intro pins s σ H Q I h;exact wpAny_BinOp (zq ha hb I h fun v u s2 x y H2 I2 rx ry q=>ho pins s2 σ H2 x y v u Q I2 rx ry q)
theorem kZ {op:UnaryOp} {r:V→Hp→VK→Prop} (ho:UnR X (unaryOp op) r) (ha:PE X a ta):PE X (.UnaryOp op a pos) (tUn r ta):=by
 intro pins s σ H Q I h;exact UnaryOp_ (thn (ha pins s σ H _ I h) fun v s1 ⟨x,H1,I1,r1,q1⟩=>ho pins s1 σ H1 x v Q I1 r1 q1)
theorem opI {f:Value→Value→Sem Value} {C:Int→Int→Prop} {g:Int→Int→Int}
  (rule:∀ (i j:Int) (t u:Tok) (s:Shared) (Q:Value→Shared→Prop) (E:Value→Shared→Prop),C i j→Q (.int (g i j) s.toks) { s with toks:=s.toks+1 }→wpAny (model X.prog X.w) X.A (f (.int i t) (.int j u)) Q E s) :
  OpR X f (rI C fun i j=>.int (g i j)):=by
 intro pins s σ H x y v u Q I rx ry h;obtain ⟨i,j,rfl,rfl,hc,q⟩:=h;obtain ⟨t,rfl⟩:=rx;obtain ⟨t',rfl⟩:=ry;exact rule i j t t' s _ _ hc ⟨.int (g i j),H,I.tok _,⟨_,rfl⟩,q⟩
theorem Bk {f:Value→Value→Sem Value} {g:Int→Int→Int}
  (rule:∀ (i j:Int) (t u:Tok) (s:Shared) (Q:Value→Shared→Prop) (E:Value→Shared→Prop),Q (.int (g i j) s.toks) { s with toks:=s.toks+1 }→wpAny (model X.prog X.w) X.A (f (.int i t) (.int j u)) Q E s) :
  OpR X f (rI0 fun i j=>.int (g i j)):=by
 intro pins s σ H x y v u Q I rx ry h;obtain ⟨i,j,rfl,rfl,q⟩:=h;obtain ⟨t,rfl⟩:=rx;obtain ⟨t',rfl⟩:=ry;exact rule i j t t' s _ _ ⟨.int (g i j),H,I.tok _,⟨_,rfl⟩,q⟩
theorem Aa {f:Value→Value→Sem Value} {g:Int→Int→Bool}
  (rule:∀ (i j:Int) (t u:Tok) (s:Shared) (Q:Value→Shared→Prop) (E:Value→Shared→Prop),Q (.bool (g i j)) s→wpAny (model X.prog X.w) X.A (f (.int i t) (.int j u)) Q E s) :
  OpR X f (rI0 fun i j=>.bl (g i j)):=by
 intro pins s σ H x y v u Q I rx ry h;obtain ⟨i,j,rfl,rfl,q⟩:=h;obtain ⟨t,rfl⟩:=rx;obtain ⟨t',rfl⟩:=ry;exact rule i j t t' s _ _ ⟨.bl (g i j),H,I,rfl,q⟩
noncomputable def BP (i j:Int):Prop:=0<j∧j<1073741824
noncomputable def BQ (i j:Int):Prop:=0≤j∧j≤1000000∧i.natAbs<2 ^ 64
noncomputable def zk (i j:Int):Prop:=(-(2 ^ 64)<i∧i<2 ^ 64)∨(-(2 ^ 64)<j∧j<2 ^ 64)
theorem zk.ok {i j:Int} (h:zk i j):IntMulOk i j:=by
 rcases h with ⟨h1,h2⟩ | ⟨h1,h2⟩
 ·exact .of_left (intBits_le_64 h1 h2)
 ·exact .of_right (intBits_le_64 h1 h2)
theorem aY:OpR X (binaryOp .Add) (rI0 fun i j=>.int (i+j)):=Bk fun _ _ _ _ _ _ _ q=>add_int q
theorem cq:OpR X (binaryOp .Sub) (rI0 fun i j=>.int (i - j)):=Bk fun _ _ _ _ _ _ _ q=>sub_int q
theorem gr:OpR X (binaryOp .Mult) (rI zk fun i j=>.int (i*j)):=opI fun _ _ _ _ _ _ _ hc q=>mul_int q hc.ok
theorem qZ:OpR X (binaryOp .FloorDiv) (rI BP fun i j=>.int (i / j)):=opI fun i j _ _ _ _ _ hc q=>by
 have h1:(0:Int)<j:=hc.1;have h2:j<1073741824:=hc.2;exact floordiv_int (by omega) (by rw [Int.fdiv_eq_ediv_of_nonneg i (by omega)]; exact q) (.inl (PyProof.noPylong_small (by omega)))
theorem bN:OpR X (binaryOp .Mod) (rI (fun _ j=>0<j) fun i j=>.int (i%j)):=opI fun i j _ _ _ _ _ hc q=>by
 have h1:(0:Int)<j:=hc;exact mod_int' (by omega) (by rw [Int.fmod_eq_emod_of_nonneg i (by omega)]; exact q)
theorem Af:OpR X (binaryOp .Pow) (rI BQ fun i j=>.int (i ^ j.toNat)):=opI fun _ _ _ _ _ _ _ hc q=>pow_int_small hc.1 hc.2.1 hc.2.2 q
theorem unI {f:Value→Sem Value} {g:Int→Int}
  (rule:∀ (i:Int) (t:Tok) (s:Shared) (Q:Value→Shared→Prop) (E:Value→Shared→Prop),Q (.int (g i) s.toks) { s with toks:=s.toks+1 }→wpAny (model X.prog X.w) X.A (f (.int i t)) Q E s) :
  UnR X f (rU fun i=>.int (g i)):=by
 intro pins s σ H x v Q I rx h;obtain ⟨i,rfl,q⟩:=h;obtain ⟨t,rfl⟩:=rx;exact rule i t s _ _ ⟨.int (g i),H,I.tok _,⟨_,rfl⟩,q⟩
theorem iL:UnR X (unaryOp .USub) (rU fun i=>.int (-i)):=unI fun _ _ _ _ _ q=>neg_int q
end
noncomputable def BE:V→V→Bool
 | .non,.non=>true | .non,.int _=>true | .int _,.non=>true | .non,.bl _=>true | .bl _,.non=>true | .non,.str _=>true | .str _,.non=>true
 | .int _,.int _=>true | .bl _,.bl _=>true | .str _,.str _=>true | .byt _,.byt _=>true
 | .int _,.str _=>true | .str _,.int _=>true | .bl _,.str _=>true | .str _,.bl _=>true
 | _,_=>false
noncomputable def rEq:R2:=fun x y H Q=>BE x y=true∧Q (.bl (decide (x=y))) H
noncomputable def rNe:R2:=fun x y H Q=>BE x y=true∧Q (.bl (!decide (x=y))) H
theorem i7 {i j:Int}:decide (V.int i=V.int j)=(i==j):=by
 rw [Bool.eq_iff_iff];simp
theorem tZ {i j:Bool}:decide (V.bl i=V.bl j)=(i==j):=by
 rw [Bool.eq_iff_iff];simp
theorem qR {i j:Str}:decide (V.str i=V.str j)=(i==j):=by
 rw [Bool.eq_iff_iff];simp
theorem qP {i j:Array UInt8}:decide (V.byt i=V.byt j)=(i.toList==j.toList):=by
 rw [Bool.eq_iff_iff]
 cases i
 cases j;simp
section
variable {X:Cx} {a b c:Expr} {ta tb tc:TE} {pos:Pos}
theorem a9 {pins:List (Addr×Obj)} {σ:St} {H:Hp} {s:Shared} {Q:VK} {k k':Bool} (I:Inv X pins σ H s) (q:Q (.bl k) H) (e:k=k'):EP X pins σ Q (.bool k') s:=by
 subst e;exact ⟨.bl k,H,I,rfl,q⟩
theorem dy:OpR X (compareOp .Eq) rEq:=by
 intro pins s σ H x y v u Q I rx ry h;obtain ⟨hs,q⟩:=h
 cases x with
 | non =>
  cases rx
  cases y with
  | non => cases ry; exact PySem.EqNone.eq_none_none (a9 I q (by simp))
  | bl j => cases ry; exact PySem.EqNone.eq_none_bool (a9 I q (by simp))
  | int j => obtain ⟨t', rfl⟩ := ry; exact PySem.EqNone.eq_none_int (a9 I q (by simp))
  | str j => obtain ⟨t', rfl⟩ := ry; exact PySem.EqNone.eq_none_str (a9 I q (by simp))
  | _ => exact absurd (show false = true from hs) Bool.false_ne_true
 | bl i =>
  cases rx
  cases y with
  | non => cases ry; exact PySem.EqNone.eq_bool_none (a9 I q (by simp))
  | bl j => cases ry; exact eq_bool (a9 I q tZ)
  | str j => obtain ⟨t', rfl⟩ := ry; exact PySem.EqMixed.eq_bool_str (a9 I q (by simp))
  | _ => exact absurd (show false = true from hs) Bool.false_ne_true
 | int i =>
  obtain ⟨t,rfl⟩:=rx
  cases y with
  | non => cases ry; exact PySem.EqNone.eq_int_none (a9 I q (by simp))
  | int j => obtain ⟨t', rfl⟩ := ry; exact eq_int (a9 I q i7)
  | str j => obtain ⟨t', rfl⟩ := ry; exact PySem.EqMixed.eq_int_str (a9 I q (by simp))
  | _ => exact absurd (show false = true from hs) Bool.false_ne_true
 | str i =>
  obtain ⟨t,rfl⟩:=rx
  cases y with
  | non => cases ry; exact PySem.EqNone.eq_str_none (a9 I q (by simp))
  | bl j => cases ry; exact PySem.EqMixed.eq_str_bool (a9 I q (by simp))
  | int j => obtain ⟨t', rfl⟩ := ry; exact PySem.EqMixed.eq_str_int (a9 I q (by simp))
  | str j => obtain ⟨t', rfl⟩ := ry; exact eq_str (a9 I q qR)
  | _ => exact absurd (show false = true from hs) Bool.false_ne_true
 | byt i =>
  obtain ⟨t,rfl⟩:=rx
  cases y with
  | byt j => obtain ⟨t', rfl⟩ := ry; exact W.eq_bytes (a9 I q qP)
  | _ => exact absurd (show false = true from hs) Bool.false_ne_true
 | _=>cases y<;>exact absurd (show false=true from hs) Bool.false_ne_true
theorem kX:OpR X (compareOp .NotEq) rNe:=by
 intro pins s σ H x y v u Q I rx ry h;obtain ⟨hs,q⟩:=h
 cases x with
 | non =>
  cases rx
  cases y with
  | non => cases ry; exact PySem.EqNone.ne_none_none (a9 I q (by simp))
  | bl j => cases ry; exact PySem.EqNone.ne_none_bool (a9 I q (by simp))
  | int j => obtain ⟨t', rfl⟩ := ry; exact PySem.EqNone.ne_none_int (a9 I q (by simp))
  | str j => obtain ⟨t', rfl⟩ := ry; exact PySem.EqNone.ne_none_str (a9 I q (by simp))
  | _ => exact absurd (show false = true from hs) Bool.false_ne_true
 | bl i =>
  cases rx
  cases y with
  | non => cases ry; exact PySem.EqNone.ne_bool_none (a9 I q (by simp))
  | bl j => cases ry; exact ne_bool (a9 I q (congrArg not tZ))
  | str j => obtain ⟨t', rfl⟩ := ry; exact PySem.EqMixed.ne_bool_str (a9 I q (by simp))
  | _ => exact absurd (show false = true from hs) Bool.false_ne_true
 | int i =>
  obtain ⟨t,rfl⟩:=rx
  cases y with
  | non => cases ry; exact PySem.EqNone.ne_int_none (a9 I q (by simp))
  | int j => obtain ⟨t', rfl⟩ := ry; exact ne_int (a9 I q (congrArg not i7))
  | str j => obtain ⟨t', rfl⟩ := ry; exact PySem.EqMixed.ne_int_str (a9 I q (by simp))
  | _ => exact absurd (show false = true from hs) Bool.false_ne_true
 | str i =>
  obtain ⟨t,rfl⟩:=rx
  cases y with
  | non => cases ry; exact PySem.EqNone.ne_str_none (a9 I q (by simp))
  | bl j => cases ry; exact PySem.EqMixed.ne_str_bool (a9 I q (by simp))
  | int j => obtain ⟨t', rfl⟩ := ry; exact PySem.EqMixed.ne_str_int (a9 I q (by simp))
  | str j => obtain ⟨t', rfl⟩ := ry; exact ne_str (a9 I q (congrArg not qR))
  | _ => exact absurd (show false = true from hs) Bool.false_ne_true
 | byt i =>
  obtain ⟨t,rfl⟩:=rx
  cases y with
  | byt j => obtain ⟨t', rfl⟩ := ry; exact W.ne_bytes (a9 I q (congrArg not qP))
  | _ => exact absurd (show false = true from hs) Bool.false_ne_true
 | _=>cases y<;>exact absurd (show false=true from hs) Bool.false_ne_true
theorem dz:OpR X (compareOp .Lt) (rI0 fun i j=>.bl (decide (i<j))):=Aa fun _ _ _ _ _ _ _ q=>lt_int q
theorem og:OpR X (compareOp .LtE) (rI0 fun i j=>.bl (decide (i≤j))):=Aa fun _ _ _ _ _ _ _ q=>le_int q
theorem q8:OpR X (compareOp .Gt) (rI0 fun i j=>.bl (decide (j<i))):=Aa fun _ _ _ _ _ _ _ q=>gt_int q
theorem ml:OpR X (compareOp .IsNot) (fun x y H Q=>y=.non∧Q (.bl (!decide (x=.non))) H):=by
 intro pins s σ H x y v u Q I rx ry h;obtain ⟨rfl,q⟩:=h
 cases ry;refine isnot_none_gen (a9 I q ?_)
 cases x<;>first
  | (cases rx; rfl)
  | (obtain ⟨t, rfl⟩ := rx; rfl)
theorem uF (b:Expr) {op:CmpOp} (h:op≠.In:=by decide) (h2:op≠.NotIn:=by decide):behindInMarks op b=false:=by
 have e1:(op==CmpOp.In)=false:=by cases op<;>first | rfl | exact absurd rfl h
 have e2:(op==CmpOp.NotIn)=false:=by cases op<;>first | rfl | exact absurd rfl h2
 cases b<;>simp [behindInMarks,e1,e2]
theorem xr {op:CmpOp} {r:R2} (ho:OpR X (compareOp op) r) (ha:PE X a ta) (hb:PE X b tb) (hm:behindInMarks op b=false):PE X (.Compare a [op] [b] pos) (tOp r ta tb):=by
 intro pins s σ H Q I h;exact wpAny_Compare1 (zq ha hb I h fun v u s2 x y H2 I2 rx ry q=>ho pins s2 σ H2 x y v u Q I2 rx ry q) hm
noncomputable def rD (t:TE):TT:=fun σ H Q=>t σ H fun x H'=>∃ k,x=.bl k∧Q k H'
theorem xA {op:CmpOp} {r:R2} (ho:OpR X (compareOp op) r) (ha:PE X a ta) (hb:PE X b tb) (hm:behindInMarks op b=false):PT X (.Compare a [op] [b] pos) (rD (tOp r ta tb)):=by
 intro pins s σ H Q I h;refine wpAny_isTrue_Compare1 (thn (ha pins s σ H _ I h) fun v s1 ⟨x,H1,I1,r1,q1⟩=>thn (hb pins s1 σ H1 _ I1 q1) fun u s2 ⟨y,H2,I2,r2,q2⟩ =>
  thn (ho pins s2 σ H2 x y v u _ I2 r1 r2 q2) fun c s3 ⟨z,H3,I3,r3,k,e,q3⟩=>?_) hm
 subst e
 cases r3;exact wpAny_truthy_bool ⟨H3,I3,q3⟩
noncomputable def qv (r r':R2) (ta tb tc:TE):TE:=fun σ H Q=>ta σ H fun x H1=>tb σ H1 fun y H2=>r x y H2 fun z H3=>∃ k,z=.bl k ∧
 (if k=true then tc σ H3 fun w' H4=>r' y w' H4 Q else Q (.bl false) H3)
theorem uR {op op':CmpOp} {r r':R2} (ho:OpR X (compareOp op) r) (ho':OpR X (compareOp op') r') (ha:PE X a ta) (hb:PE X b tb) (hc:PE X c tc)
  (hm:lastMarks [op,op'] [b,c]=false:=by with_unfolding_all rfl):PE X (.Compare a [op,op'] [b,c] pos) (qv r r' ta tb tc):=by
 intro pins s σ H Q I h;refine Compare_chain (thn (ha pins s σ H _ I h) fun v s1 ⟨x,H1,I1,r1,q1⟩=>chain_link (thn (hb pins s1 σ H1 _ I1 q1) fun u s2 ⟨y,H2,I2,r2,q2⟩ =>
  thn (ho pins s2 σ H2 x y v u _ I2 r1 r2 q2) fun d s3 ⟨z,H3,I3,r3,k,e,q3⟩=>?_)) hm
 subst e
 cases r3;refine wpAny_truthy_bool ?_
 cases k with
 | false=>exact ite_ff ⟨.bl false,H3,I3,rfl,q3⟩
 | true=>exact ite_tt (chain_last (thn (hc pins s3 σ H3 _ I3 q3) fun w' s4 ⟨z',H4,I4,r4,q4⟩=>ho' pins s4 σ H4 y z' u w' Q I4 r2 r4 q4))
theorem eN {op op':CmpOp} {r r':R2} (ho:OpR X (compareOp op) r) (ho':OpR X (compareOp op') r') (ha:PE X a ta) (hb:PE X b tb) (hc:PE X c tc)
  (hm:lastMarks [op,op'] [b,c]=false:=by with_unfolding_all rfl):PT X (.Compare a [op,op'] [b,c] pos) (rD (qv r r' ta tb tc)):=by
 intro pins s σ H Q I h;refine isTrue_chain (thn (ha pins s σ H _ I h) fun v s1 ⟨x,H1,I1,r1,q1⟩=>test_link (thn (hb pins s1 σ H1 _ I1 q1) fun u s2 ⟨y,H2,I2,r2,q2⟩ =>
  thn (ho pins s2 σ H2 x y v u _ I2 r1 r2 q2) fun d s3 ⟨z,H3,I3,r3,k,e,q3⟩=>?_)) hm
 subst e
 cases r3;refine wpAny_truthy_bool ?_
 cases k with
 | false =>
  obtain ⟨k',e',q'⟩:=q3
  cases e';exact ite_ff ⟨H3,I3,q'⟩
 | true =>
  refine ite_tt (test_last (thn (hc pins s3 σ H3 _ I3 q3) fun w' s4 ⟨z',H4,I4,r4,q4⟩=>thn (ho' pins s4 σ H4 y z' u w' _ I4 r2 r4 q4) fun d' s5 ⟨z2,H5,I5,r5,k2,e2,q5⟩=>?_));subst e2
  cases r5;exact wpAny_truthy_bool ⟨H5,I5,q5⟩
theorem me:(sizeLine:Nat)<2 ^ 63:=by rw [sizeLine_eq]; decide
theorem lD {x:V} {us:List Value} (r:Vals [x] us):∃ u,us=[u]∧aQ x u:=by
 cases r with
 | cons r1 r2=>cases r2; exact ⟨_,rfl,r1⟩
theorem rH {x y:V} {us:List Value} (r:Vals [x,y] us):∃ u w',us=[u,w']∧aQ x u∧aQ y w':=by
 cases r with
 | cons r1 r2 =>
  cases r2 with
  | cons r3 r4 => cases r4; exact ⟨_, _, rfl, r1, r3⟩
theorem tV:bI X (.builtin "abs") (fun xs H Q=>∃ i,xs=[.int i]∧Q (.int (if i<0 then -i else i)) H):=by
 intro pins s σ H xs us Q I r h;obtain ⟨i,rfl,q⟩:=h;obtain ⟨u,rfl,t,rfl⟩:=lD r;exact call_abs_int fun u tk=>⟨.int (if i<0 then -i else i),H,I.tok _,⟨_,rfl⟩,q⟩
theorem rO (hc:X.calm=true):bI X (.builtin "max") (fun xs H Q=>∃ i j,xs=[.int i,.int j]∧Q (.int (if j > i then j else i)) H):=by
 intro pins s σ H xs us Q I r h;obtain ⟨i,j,rfl,q⟩:=h;obtain ⟨u,w',rfl,⟨t,rfl⟩,⟨t',rfl⟩⟩:=rH r;refine max_two_ints (I.ok.hd hc) fun h' tk k=>⟨_,H,I.kept k,?_,q⟩
 by_cases hj:j > i
 ·rw [if_pos hj,if_pos hj]; exact ⟨_,rfl⟩
 ·rw [if_neg hj,if_neg hj]; exact ⟨_,rfl⟩
theorem rP (hc:X.calm=true):bI X (.builtin "min") (fun xs H Q=>∃ i j,xs=[.int i,.int j]∧Q (.int (if j<i then j else i)) H):=by
 intro pins s σ H xs us Q I r h;obtain ⟨i,j,rfl,q⟩:=h;obtain ⟨u,w',rfl,⟨t,rfl⟩,⟨t',rfl⟩⟩:=rH r;refine min_two_ints (I.ok.hd hc) fun h' tk k=>⟨_,H,I.kept k,?_,q⟩
 by_cases hj:j<i
 ·rw [if_pos hj,if_pos hj]; exact ⟨_,rfl⟩
 ·rw [if_neg hj,if_neg hj]; exact ⟨_,rfl⟩
theorem rN:bI X (.type "int") (fun xs H Q=>(∃ i,xs=[.int i]∧Q (.int i) H)∨∃ k,xs=[.bl k]∧Q (.int (if k then 1 else 0)) H):=by
 intro pins s σ H xs us Q I r h;rcases h with ⟨i,rfl,q⟩ | ⟨k,rfl,q⟩
 ·obtain ⟨u,rfl,t,rfl⟩:=lD r;exact call_int_int ⟨.int i,H,I,⟨_,rfl⟩,q⟩
 ·obtain ⟨u,rfl,r1⟩:=lD r
  cases r1;exact call_int_bool ⟨.int (if k then 1 else 0),H,I.tok _,⟨_,rfl⟩,q⟩
end
structure pA (h:Heap) (x dx C:Addr) (mA:Str→Option Value):Prop where
 obj:h.get? x=some (W.instObj C dx)
 ns:h.Ns1 dx mA
 ne:dx≠x
theorem sv {h:Heap} {dx:Addr} {mA:Str→Option Value} (n:h.Ns1 dx mA):∃ od,h.get? dx=some od∧∀ name,W.lookIn name od=some (mA name):=by
 obtain ⟨o,es,ep,ho,hd,hk,_,hm⟩:=n;refine ⟨o,ho,fun name=>?_⟩;have e:=hm name;unfold nsFind findBy at e;rw [← Array.find?_toList] at e;unfold W.lookIn;rw [hd];dsimp only
 split
 ·rename_i y q;rw [q] at e;exact congrArg some e
 ·rename_i q;rw [q] at e
  have a:es.toList.any (·.refKey)=false:=by
   rw [List.any_eq_false];intro y hy;obtain ⟨z,t,hkey⟩:=hk y (Array.mem_toList_iff.mp hy);simp [DictEntry.refKey,hkey]
  have a':¬ es.toList.any (·.refKey)=true:=by rw [a]; exact Bool.false_ne_true
  rw [if_neg a'];exact congrArg some e
theorem pA.look {h:Heap} {x dx C:Addr} {mA:Str→Option Value} (I:pA h x dx C mA):∃ od,PySem.W.InstAt h x (W.instObj C dx) C (some od)∧∀ name,W.lookIn name od=some (mA name) :=
 let ⟨od,ho,hl⟩:=sv I.ns
 ⟨od,⟨I.obj,rfl,rfl,ho⟩,hl⟩
section
variable {prog:Program} {w:World} {A:Around} {E:Value→Shared→Prop} {s:Shared} {K:W.Frag} {x dx C f:Addr} {mA:Str→Option Value} {name:Str} {v:Value}
theorem wX {expr:Bool} {Q:Value→Shared→Prop} (X:K.In s.heap) (I:pA s.heap x dx C mA) (hg:W.plainGet K C name=true) (hh:W.hasDictIn K C=true)
  (ha:W.findIn K (.ref C) name=some none) (hv:mA name=some v) (hv':W.handedIn v=true) (h:Q v { s with toks:=s.toks+1 }) :
  wpAny (model prog w) A (getAttr (.ref x) name expr) Q E s:=by
 obtain ⟨od,J,hl⟩:=I.look;exact W.get_value X J (W.plainGet_of hg).1 (W.findObj_own hh ha rfl (by rw [hl,hv])) hv' h
theorem ug {pl:Sem Bool} {Q:Value×List Value→Shared→Prop} (X:K.In s.heap) (I:pA s.heap x dx C mA) (hg:W.plainGet K C name=true)
  (hf:W.findIn K (.ref C) name=some (some (.ref f))) (ht:W.isFn K (.ref f)=true) (hv:mA name=none) (h:Q (.ref f,[.ref x]) s) :
  wpAny (model prog w) A (getMethod (.ref x) name pl) Q E s:=by
 obtain ⟨od,J,hl⟩:=I.look;exact W.method_fn X J (W.plainGet_of hg).1 (W.plainGet_of hg).2 hf (beq_iff_eq.mp ht) (by show (W.lookIn name od).map (·.isSome)=some false; rw [hl,hv]; rfl) h
theorem yh {ns:List Str} {Q:Unit→Shared→Prop} (X:K.In s.heap) (I:pA s.heap x dx C mA)
  (hs:W.findIn K (.ref C) "__setattr__"=some (some (.builtin "object.__setattr__"))) (hp:W.plainOver K C=true) (ht:W.takerIn K C name=some none) (hh:W.hasDictIn K C=true)
  (hw:PySem.Within mA ns) (hsz:ns.length≤sizeLine)
  (h:∀ h',pA h' x dx C (fun y=>if y=name then some v else mA y)→Heap.SameBut dx s.heap h'→Q () { s with heap:=h',toks:=s.toks+2 }) :
  wpAny (model prog w) A (setAttr (.ref x) name v) Q E s:=by
 obtain ⟨od,J,hl⟩:=I.look;refine W.set_plain X J hs (W.osa_open (s:={ s with toks:=s.toks+1 }) (r:=none) X J hp ht fun b=>?_);obtain ⟨cd,hc,hd'⟩:=W.any_some hh;have hx:s.heap.get? x=some ⟨.ref C,some dx,.plain,#[]⟩:=I.obj;refine wpAny_bind (wpAny_pure (wpAny_bind (wpAny_bind (wpAny_loadPart hx (wpAny_bind (PySem.W.Looks.here (s:={ s with toks:=s.toks+1 }) (W.looks_clsIn X hc) ?_))))));rw [hd'];refine wpAny_pure (a:=some dx) (wpAny_bind (wpAny_pure (wpAny_bind ?_)));refine wpAny_nsSet1 (s:={ s with toks:=s.toks+1 }) I.ns fun h' hn2 hs2=>?_;obtain ⟨oD,esD,epD,hoD,hdD,hcD⟩:=hn2.count (PySem.Within.cons name v hw);refine wpAny_bind (wpAny_lookBehind hoD (by rw [hdD]; exact pastItsLine_dict (Nat.le_trans hcD (by rw [List.length_cons]; omega))) ?_);exact wpAny_pure (h _ ⟨(hs2.2 _ (Ne.symm I.ne)).trans I.obj,hn2,I.ne⟩ hs2)
theorem uA {R:Result→Shared→Prop} {vs:List Value} {kw:List (Str×Value)} (X:K.In s.heap) (hm:W.makesIn K C=true)
  (hi:W.findIn K (.ref C) "__init__"=some (some (.ref f))) (hf:W.typeIn K (.ref f)=some (.type "function"))
  (h:codeAny (model prog w) (A.under (.builtin "type.__call__" ⟨.ref C::vs,kw⟩)) (.call (.ref f) ⟨.ref (s.heap.objs.size+1)::vs,kw⟩) (PySem.W.InitBack (s.heap.objs.size+1) R)
   { s with heap:=(s.heap.push W.emptyDict).push (W.instObj C s.heap.objs.size) }) :
  codeAny (model prog w) A (.call (.ref C) ⟨vs,kw⟩) R s:=by
 obtain ⟨hh,g,d,t,os⟩:=s;exact W.make_core (W.makes_of X hm) (W.looks_findIn X hi) (fun self=>W.bind_fn X self hf) (.inl rfl) h
end
noncomputable def dA (f:Str) (v:V):List (Str×V)→List (Str×V)
 | []=>[(f,v)]
 | (g,x)::r=>if g=f then (g,v)::r else (g,x)::dA f v r
theorem aB (f g:Str) (v:V):∀ fs:List (Str×V),(dA f v fs).lookup g=if g=f then some v else fs.lookup g
 | []=>by
  show List.lookup g [(f,v)]=_
  by_cases h:g=f
  ·have hb:(g==f)=true:=beq_iff_eq.mpr h;simp only [List.lookup,hb,if_pos h]
  ·have hb:(g==f)=false:=beq_eq_false_iff_ne.mpr h;simp only [List.lookup,hb,if_neg h]
 | (k,x)::r=>by
  have ih:=aB f g v r;rw [show dA f v ((k,x)::r)=(if k=f then (k,v)::r else (k,x)::dA f v r) from rfl];by_cases hk:k=f
  ·rw [if_pos hk];by_cases h:g=k
   ·have hb:(g==k)=true:=beq_iff_eq.mpr h;simp only [List.lookup,hb,if_pos (h.trans hk)]
   ·have hb:(g==k)=false:=beq_eq_false_iff_ne.mpr h;simp only [List.lookup,hb,if_neg (fun e:g=f=>h (e.trans hk.symm))]
  ·rw [if_neg hk];by_cases h:g=k
   ·have hb:(g==k)=true:=beq_iff_eq.mpr h;simp only [List.lookup,hb,if_neg (fun e:g=f=>hk (h.symm.trans e))]
   ·have hb:(g==k)=false:=beq_eq_false_iff_ne.mpr h;simp only [List.lookup,hb];exact ih
theorem iC (f:Str) (v:V):∀ fs:List (Str×V),f∈(dA f v fs).map (·.1)∧∀ g,g∈fs.map (·.1)→g∈(dA f v fs).map (·.1)
 | []=>⟨by simp [dA],fun g h=>by simp at h⟩
 | (k,x)::r=>by
  obtain ⟨i1,i2⟩:=iC f v r;rw [show dA f v ((k,x)::r)=(if k=f then (k,v)::r else (k,x)::dA f v r) from rfl];by_cases hk:k=f
  ·rw [if_pos hk];subst hk;exact ⟨by simp,fun g h=>by simpa using h⟩
  ·rw [if_neg hk];refine ⟨?_,fun g h=>?_⟩
   ·rw [List.map_cons];exact List.mem_cons_of_mem _ i1
   ·rw [List.map_cons] at h ⊢;rcases List.mem_cons.mp h with e | e
    ·exact List.mem_cons.mpr (.inl e)
    ·exact List.mem_cons_of_mem _ (i2 g e)
theorem bu (f:Str) (v:V):∀ fs:List (Str×V),(dA f v fs).length≤fs.length+1
 | []=>by simp [dA]
 | (k,x)::r=>by
  have ih:=bu f v r;rw [show dA f v ((k,x)::r)=(if k=f then (k,v)::r else (k,x)::dA f v r) from rfl];by_cases hk:k=f
  ·rw [if_pos hk,List.length_cons,List.length_cons]; omega
  ·rw [if_neg hk,List.length_cons,List.length_cons]; omega
theorem dW.some_of {v:V} {o:Option Value} (r:dW (some v) o):∃ u,o=some u∧aQ v u:=by
 cases o with
 | none=>exact (show False from r).elim
 | some u=>exact ⟨u,rfl,r⟩
theorem dW.none_of {o:Option Value} (r:dW none o):o=none:=by
 cases o with
 | none=>rfl
 | some u=>exact (show False from r).elim
theorem rY {v:V} {u:Value} (r:aQ v u):W.handedIn u=true:=by
 cases v with
 | non=>cases (show u=Value.none from r); rfl
 | bl b=>cases (show u=Value.bool b from r); rfl
 | int i=>obtain ⟨t,e⟩:=(show ∃ t,u=Value.int i t from r); cases e; rfl
 | str x=>obtain ⟨t,e⟩:=(show ∃ t,u=Value.str x t from r); cases e; rfl
 | byt b=>obtain ⟨t,e⟩:=(show ∃ t,u=Value.bytes b t from r); cases e; rfl
 | flt b=>obtain ⟨t,e⟩:=(show ∃ t,u=Value.float b t from r); cases e; rfl
 | ref a=>cases (show u=Value.ref a from r); rfl
 | ty n=>cases (show u=Value.type n from r); rfl
section
variable {P:Program} {w:World} {H H':Hp} {h h':Heap} {a C dx:Addr} {fs fs':List (Str×V)}
theorem jc (hok:HOk P w H h) (e:H a=some (.ins C dx fs)):∃ mA,pA h a dx C mA∧(∀ f,dW (fs.lookup f) (mA f))∧PySem.Within mA (fs.map (·.1))∧fs.length≤1000∧H dx=some (.own a):=by
 obtain ⟨d,z,ne,ob,mA,n,r,q⟩:=(show bg P w H h a (.ins C dx fs) from hok a _ e)
 exact ⟨mA,⟨ob,n,ne⟩,r,q,z,d⟩
end
structure Cls (K:W.Frag) (C:Addr):Prop where
 pg:W.plainGet K C Str.empty=true
 hd:W.hasDictIn K C=true
 po:W.plainOver K C=true
 sa:W.findIn K (.ref C) "__setattr__"=some (some (.builtin "object.__setattr__"))
theorem Cls.get {K:W.Frag} {C:Addr} (c:Cls K C) (f:Str):W.plainGet K C f=true:=c.pg
noncomputable def cM (K:W.Frag) (C:Addr) (f:Str):Prop:=W.findIn K (.ref C) f=some none
theorem cM.taker {K:W.Frag} {C:Addr} {f:Str} (n:cM K C f):W.takerIn K C f=some none:=by
 unfold W.takerIn;rw [show W.findIn K (.ref C) f=some none from n];rfl
structure Con (K:W.Frag) (C:Addr) (f:Str) (v:V) (u:Value):Prop where
 at_:W.findIn K (.ref C) f=some (some u)
 rel:aQ v u
 get:W.specialIn K u "__get__"=some none
 cp:W.copiedNames.contains f=false
structure lI (K:W.Frag) (C:Addr) (m:Str) (f:Addr):Prop where
 at_:W.findIn K (.ref C) m=some (some (.ref f))
 fn:W.isFn K (.ref f)=true
 kp:W.keepIn K (.ref f)=true
section
variable {X:Cx} {pins:List (Addr×Obj)} {σ:St} {H:Hp} {s:Shared} {a C dx:Addr} {fs:List (Str×V)} {f:Str} {v:V} {A:Around} {E:Value→Shared→Prop}
theorem pJ {b:Bool} {Q:Value→Shared→Prop} (I:Inv X pins σ H s) (e:H a=some (.ins C dx fs)) (c:Cls X.K C) (n:cM X.K C f) (l:fs.lookup f=some v)
  (h:∀ u s',Inv X pins σ H s'→aQ v u→Q u s'):wpAny (model X.prog X.w) A (getAttr (.ref a) f b) Q E s:=by
 obtain ⟨mA,O,r,_,_,_⟩:=jc I.hok e;obtain ⟨u,hu,ru⟩:=dW.some_of (v:=v) (o:=mA f) (by rw [← l]; exact r f);exact wX I.kIn O (c.get f) c.hd n hu (rY ru) (h u _ (I.tok _) ru)
theorem jF {m:Str} {g:Addr} {pl:Sem Bool} {Q:Value×List Value→Shared→Prop} (I:Inv X pins σ H s) (e:H a=some (.ins C dx fs)) (c:Cls X.K C) (k:lI X.K C m g) (l:fs.lookup m=none)
  (h:Q (.ref g,[.ref a]) s):wpAny (model X.prog X.w) A (getMethod (.ref a) m pl) Q E s:=by
 obtain ⟨mA,O,r,_,_,_⟩:=jc I.hok e;have hn:mA m=none:=dW.none_of (by rw [← l]; exact r m);exact ug I.kIn O (c.get m) k.at_ k.fn hn h
theorem ql {y:V} {u:Value} {Q:Unit→Shared→Prop} (I:Inv X pins σ H s) (e:H a=some (.ins C dx fs)) (c:Cls X.K C) (n:cM X.K C f) (hl:fs.length<1000) (ry:aQ y u)
  (h:∀ s',Inv X pins σ (upd H a (.ins C dx (dA f y fs))) s'→Q () s'):wpAny (model X.prog X.w) A (setAttr (.ref a) f u) Q E s:=by
 obtain ⟨mA,O,r,wi,_,ho⟩:=jc I.hok e;have hz:(fs.map (·.1)).length≤sizeLine:=by rw [List.length_map,sizeLine_eq]; omega
 refine yh I.kIn O c.sa c.po n.taker c.hd wi hz fun h' O' sb=>h _ ?_;have hd:∃ o,h'.get? dx=some o:=let ⟨o,_,_,e',_⟩:=O'.ns; ⟨o,e'⟩;refine I.write (x:=a) (e:=dx) (by rw [e]; exact True.intro) (.inr ho) (fun b q hb z=>(sb.2 b hb).trans z) hd ?_;refine ⟨by rw [aj O.ne]; exact ho,?_,O.ne,O'.obj,_,O'.ns,fun g=>?_,fun g hg=>?_⟩
 ·have:=bu f y fs; omega
 ·show dW ((dA f y fs).lookup g) (if g=f then some u else mA g)
  rw [aB];by_cases q:g=f
  ·rw [if_pos q,if_pos q]; exact ry
  ·rw [if_neg q,if_neg q]; exact r g
 ·by_cases q:g=f
  ·rw [q]; exact (iC f y fs).1
  ·refine (iC f y fs).2 g (wi g fun z=>hg ?_)
   show (if g=f then some u else mA g)=none
   rw [if_neg q]; exact z
theorem Inv.made (I:Inv X pins σ H s):Inv X pins σ (upd (upd H s.heap.objs.size (.own (s.heap.objs.size+1))) (s.heap.objs.size+1) (.ins C s.heap.objs.size []))
  { s with heap:=(s.heap.push W.emptyDict).push (W.instObj C s.heap.objs.size) }:=by
 have e1:(s.heap.push W.emptyDict).get? s.heap.objs.size=some W.emptyDict:=Heap.get?_push_size s.heap rfl
 have e2:((s.heap.push W.emptyDict).push (W.instObj C s.heap.objs.size)).get? (s.heap.objs.size+1)=some (W.instObj C s.heap.objs.size):=by
  have:=Heap.get?_push_size (s.heap.push W.emptyDict) (o:=W.instObj C s.heap.objs.size) rfl
  rwa [Heap.size_push] at this
 have e3:(s.heap.push W.emptyDict).Ns s.heap.objs.size (fun _=>none):=⟨W.emptyDict,#[],_,e1,rfl,(fun e he=>absurd he (by simp)),fun _=>rfl⟩
 have I1:=I.laid (a:=s.heap.objs.size) (o:=.own (s.heap.objs.size+1)) (h':=s.heap.push W.emptyDict) (t':=s.toks) (fun b u q=>Heap.get?_push_of_some _ q) (Nat.le_refl _) ⟨_,e1⟩;refine I1.laid (a:=s.heap.objs.size+1) (o:=.ins C s.heap.objs.size []) (t':=s.toks) (fun b u q=>Heap.get?_push_of_some _ q) (Nat.le_of_eq (Heap.size_push _ _)) ?_;have ne:s.heap.objs.size≠s.heap.objs.size+1:=Nat.ne_of_lt (Nat.lt_succ_self _);refine ⟨by rw [aj ne,ag],Nat.zero_le _,ne,e2,fun _=>none,(Heap.Ns1.of_empty e3).at fun o q=>Heap.get?_push_of_some _ q,fun _=>True.intro,fun y hy=>absurd rfl hy⟩
theorem wL {prog:Program} {w:World} {env:Env} {e:Expr} {f:Str} {pos:Pos} {s:Shared} {Q:Value→Shared→Prop} (hb:attributeBase e f env (eval e env)=eval e env)
  (h:wpAny (model prog w) A (eval e env) (fun o s₁=>wpAny (model prog w) A (getAttr o f true) Q E s₁) E s):wpAny (model prog w) A (eval (.Attribute e f pos) env) Q E s :=
 Attribute_any_ h (by rw [arm_eval_Attribute,hb])
end
noncomputable def AW (K:W.Frag) (ta:TE) (f:Str):TE:=fun σ H Q=>ta σ H fun x H1=>∃ a C dx fs v,x=.ref a∧H1 a=some (.ins C dx fs)∧Cls K C∧cM K C f∧fs.lookup f=some v∧Q v H1
noncomputable def BD (K:W.Frag) (ta tv:TE) (f:Str):TS:=fun D σ H=>tv σ H fun y H1=>ta σ H1 fun x H2=>∃ a C dx fs,x=.ref a∧H2 a=some (.ins C dx fs)∧Cls K C∧cM K C f∧fs.length<1000 ∧
 D.nx σ (upd H2 a (.ins C dx (dA f y fs)))
section
variable {X:Cx} {o e value:Expr} {f:Str} {pos pos' tpos:Pos} {ta tv:TE}
theorem Aj (he:PE X e ta) (hb:attributeBase e f X.env (eval e X.env)=eval e X.env):PE X (.Attribute e f pos) (AW X.K ta f):=by
 intro pins s σ H Q I h;refine wL hb (thn (he pins s σ H _ I h) fun u s1 ⟨x,H1,I1,rx,a,C,dx,fs,v,ex,ea,c,n,l,q⟩=>?_);subst ex;obtain rfl:u=Value.ref a:=rx
 exact pJ I1 ea c n l fun u' s2 I2 ru=>⟨v,H1,I2,ru,q⟩
theorem jS (ha:PE X o ta) (hv:PE X value tv) (hs:swapsWith value (some (.Attribute o f pos')) pos.line X.env=pure false):PS X (.Assign [.Attribute o f pos'] value pos) (BD X.K ta tv f):=by
 intro pins s σ H D I h;refine plainObj_wpAny_Assign_Attribute (thn (hv pins s σ H _ I h) fun u s1 ⟨y,H1,I1,ry,q⟩=>thn (ha pins s1 σ H1 _ I1 q) fun ov s2 ⟨x,H2,I2,rx,a,C,dx,fs,ex,ea,c,n,l,q2⟩=>?_) hs;subst ex;obtain rfl:ov=Value.ref a:=rx
 exact ql I2 ea c n l ry fun s3 I3=>⟨σ,_,I3,q2⟩
end
section
variable {X:Cx} {pins:List (Addr×Obj)} {σ:St} {H:Hp} {s:Shared} {A:Around} {E:Value→Shared→Prop} {Q:Value→Shared→Prop} {c:Value} {b:Bool}
inductive gc (K:W.Frag) (H:Hp):V→Value→Prop where
  | non : gc K H .non (.type "NoneType")
  | bl (x : Bool) : gc K H (.bl x) (.type "bool")
  | int (i : Int) : gc K H (.int i) (.type "int")
  | str (x : Str) : gc K H (.str x) (.type "str")
  | flt (x : UInt64) : gc K H (.flt x) (.type "float")
  | lst {a : Addr} {xs : List V} (e : H a = some (.lst xs)) : gc K H (.ref a) (.type "list")
  | frz {a : Addr} {o : Obj} {xs : List V} (e : H a = some (.frz o (.lst xs))) : gc K H (.ref a) (.type "list")
  | tup {a : Addr} {xs : List V} (e : H a = some (.tup xs)) : gc K H (.ref a) (.type "tuple")
  | dK {a : Addr} {kvs : List (Key × V)} (e : H a = some (.dK kvs)) : gc K H (.ref a) (.type "dict")
  | dT {a : Addr} {kvs : List (List Key × V)} (e : H a = some (.dT kvs)) : gc K H (.ref a) (.type "dict")
  | ins {a C dx : Addr} {fs : List (Str × V)} (e : H a = some (.ins C dx fs)) (cl : Cls K C) (ha : W.findIn K (.ref C) "__class__" = some (some (.builtin "object.__class__")))
      (hn:W.specialIn K (.builtin "object.__class__") "__get__"=some (some (.builtin "getset_descriptor.__get__"))) (htk:W.takesIn K (.builtin "object.__class__")=some true)
      (hm:W.mroIn K C (.type "object")=some true):gc K H (.ref a) (.ref C)
theorem se {x:V} {u t:Value} (I:Inv X pins σ H s) (rx:aQ x u) (ty:gc X.K H x t) (e:W.kitOne X.K t c=some b) (h:∀ tk,Q (.bool b) { s with toks:=tk }) :
  wpAny (model X.prog X.w) A (call (.builtin "isinstance") [u,c]) Q E s:=by
 cases ty with
 | non=>cases (show u=Value.none from rx); exact W.kia_one W.kitx_none I.kIn True.intro e (fun z=>nomatch z) h
 | bl y=>cases (show u=Value.bool y from rx); exact W.kia_one W.kitx_bool I.kIn True.intro e (fun z=>nomatch z) h
 | int i=>obtain ⟨t,q⟩:=(show ∃ t,u=Value.int i t from rx); cases q; exact W.kia_one W.kitx_int I.kIn True.intro e (fun z=>nomatch z) h
 | str y=>obtain ⟨t,q⟩:=(show ∃ t,u=Value.str y t from rx); cases q; exact W.kia_one W.kitx_str I.kIn True.intro e (fun z=>nomatch z) h
 | flt y=>obtain ⟨t,q⟩:=(show ∃ t,u=Value.float y t from rx); cases q; exact W.kia_one W.kitx_float I.kIn True.intro e (fun z=>nomatch z) h
 | @lst a xs ea =>
  cases (show u=Value.ref a from rx)
  obtain ⟨_,_,n,_,h1⟩:=(show bg X.prog X.w H s.heap a (.lst xs) from I.hok a _ ea)
  exact W.kia_one W.kitx_list I.kIn ⟨_,h1,rfl⟩ e (fun z=>nomatch z) h
 | @frz a ob xs ea =>
  cases (show u=Value.ref a from rx)
  obtain ⟨_,_,_,n,_,h1⟩:=(show bg X.prog X.w H s.heap a (.frz ob (.lst xs)) from I.hok a _ ea)
  exact W.kia_one W.kitx_list I.kIn ⟨_,h1,rfl⟩ e (fun z=>nomatch z) h
 | @tup a xs ea =>
  cases (show u=Value.ref a from rx)
  obtain ⟨_,_,_,p⟩:=(show bg X.prog X.w H s.heap a (.tup xs) from I.hok a _ ea)
  obtain ⟨o,h1,h2,_⟩:=p;exact W.kia_one W.kitx_tuple I.kIn ⟨o,h1,h2⟩ e (fun z=>nomatch z) h
 | @dK a kvs ea =>
  cases (show u=Value.ref a from rx)
  obtain ⟨_,_,vs,_,p⟩:=(show bg X.prog X.w H s.heap a (.dK kvs) from I.hok a _ ea)
  obtain ⟨o,es,ep,h1,h2,_⟩:=p;exact W.kia_one W.kitx_dict I.kIn ⟨o,h1,h2.1⟩ e (fun z=>nomatch z) h
 | @dT a kvs ea =>
  cases (show u=Value.ref a from rx)
  obtain ⟨_,_,xs,_,o,es,ep,h1,h2,_⟩:=(show bg X.prog X.w H s.heap a (.dT kvs) from I.hok a _ ea)
  exact W.kia_one W.kitx_dict I.kIn ⟨o,h1,h2.1⟩ e (fun z=>nomatch z) h
 | @ins a C dx fs ea cl ha hn htk hm =>
  cases (show u=Value.ref a from rx)
  obtain ⟨mA,O,_⟩:=jc I.hok ea;obtain ⟨od,J,_⟩:=O.look;exact W.kia_one (W.kitx_own (cl.get _) cl.hd ha hn htk hm) I.kIn J e (fun z=>nomatch z) h
end
structure b7 (k:Nat) (A:Around):Prop where
 hd:A.handled=none
 dp:A.depth+3*k+5<recursionLimit
 un:A.units+16*k+200<cLine
theorem b7.mono {j k:Nat} {A:Around} (r:b7 k A) (h:j≤k):b7 j A:=⟨r.hd,by have:=r.dp; omega,by have:=r.un; omega⟩
theorem b7.deeper {k:Nat} {A:Around} (r:b7 (k+1) A) (env:Env):b7 k (A.deeper env) :=
 ⟨r.hd,by have:=r.dp; show A.depth+1+3*k+5<_; omega,by have:=r.un; show A.units+3+16*k+200<_; omega⟩
theorem b7.in1 {k:Nat} {A:Around} (r:b7 (k+1) A):b7 k A.in1 :=
 ⟨r.hd,by have:=r.dp; show A.depth+3*k+5<_; omega,by have:=r.un; show A.units+1+16*k+200<_; omega⟩
theorem pQ {A:Around} {C:Addr} {us:List Value} {kw:List (Str×Value)}:(A.under (.builtin "type.__call__" ⟨.ref C::us,kw⟩)).depth=A.depth+1:=by
 first | rfl | simp [Around.under,Code.weight,Code.isCreation,Code.isGuard,Code.isCaller,Code.frames,Code.isFrame,guardIds]
theorem pR {A:Around} {C:Addr} {us:List Value} {kw:List (Str×Value)}:(A.under (.builtin "type.__call__" ⟨.ref C::us,kw⟩)).units=A.units+1:=by
 first | rfl | simp [Around.under,Code.cUnits,Code.frames,Code.isFrame]
theorem b7.make {k:Nat} {A:Around} (r:b7 (k+1) A) (C:Addr) (us:List Value) (kw:List (Str×Value)):b7 k (A.under (.builtin "type.__call__" ⟨.ref C::us,kw⟩)) :=
 ⟨r.hd,by have:=r.dp; rw [pQ]; omega,by have:=r.un; rw [pR]; omega⟩
theorem b7.depth {k:Nat} {A:Around} (r:b7 k A):A.depth<recursionLimit:=by have:=r.dp; omega
theorem b7.units {k:Nat} {A:Around} (r:b7 k A):A.units+64<cLine:=by have:=r.un; omega
noncomputable def yo:TA:=fun _ H Q=>Q [] H
noncomputable def v7 (ta:TE) (tr:TA):TA:=fun σ H Q=>ta σ H fun x H1=>tr σ H1 fun xs H2=>Q (x::xs) H2
section
variable {X:Cx} {e:Expr} {es:List Expr} {te:TE} {t:TA} {pos:Pos}
theorem ae:PA X [] yo:=fun _ _ _ _ H Q I h=>Calls.spliced_nil ⟨[],H,I,.nil,h⟩
theorem aa (ha:PE X e te) (hr:PA X es t) (hs:starEach (e::es) X.env=(false,eval e X.env)::starEach es X.env:=by rfl):PA X (e::es) (v7 te t):=by
 intro pos pins s σ H Q I h;rw [hs]
 show wpAny _ _ (spliced ((false,eval e X.env)::backTo pos (starEach es X.env))) _ _ s
 refine Calls.spliced_cons (thn (ha pins s σ H _ I h) fun u s1 ⟨x,H1,I1,r1,q1⟩=>?_);exact thn (hr pos pins s1 σ H1 _ I1 q1) fun us s2 ⟨xs,H2,I2,r2,q2⟩=>⟨x::xs,H2,I2,.cons r1 r2,q2⟩
noncomputable def BO (t:TA):TE:=fun σ H Q=>t σ H fun xs H1=>xs.length≤sizeLine∧∀ p,H1 p=none→Q (.ref p) (upd H1 p (.tup xs))
noncomputable def BL (t:TA):TE:=fun σ H Q=>t σ H fun xs H1=>xs.length≤sizeLine∧∀ p,H1 p=none→Q (.ref p) (upd H1 p (.lst xs))
theorem bB {x1} (h:PA X es t):PE X (.Tuple es x1 pos) (BO t):=by
 intro pins s σ H Q I hq;refine wpAny_Tuple_spliced (thn (h pos pins s σ H _ I hq) fun us s1 ⟨xs,H1,I1,r,z,q⟩=>⟨by rw [← r.length]; exact z,?_⟩);have hf:H1 s1.heap.objs.size=none:=I1.hok.fresh (Nat.le_refl _);refine ⟨.ref s1.heap.objs.size,upd H1 s1.heap.objs.size (.tup xs),I1.laid (t':=s1.toks) (fun b u e=>Heap.get?_push_of_some _ e) (Nat.le_refl _) ?_,rfl,q _ hf⟩;exact ⟨z,us,r,⟨_,Heap.get?_push_size _ rfl,rfl,_,rfl⟩⟩
theorem cZ (h:PA X es t):PE X (.List es pos) (BL t):=by
 intro pins s σ H Q I hq;refine wpAny_List_spliced (thn (h pos pins s σ H _ I hq) fun us s1 ⟨xs,H1,I1,r,z,q⟩=>⟨by rw [← r.length]; exact z,?_⟩);have hf:H1 s1.heap.objs.size=none:=I1.hok.fresh (Nat.le_refl _);refine ⟨.ref s1.heap.objs.size,upd H1 s1.heap.objs.size (.lst xs),I1.laid (t':=s1.toks) (fun b u e=>Heap.get?_push_of_some _ e) (Nat.le_refl _) ?_,rfl,q _ hf⟩;exact ⟨z,us,0,r,Heap.get?_push_size _ rfl⟩
end
noncomputable abbrev Sp:=List V→Hp→VK→XK→Prop
noncomputable abbrev CXT:=List Env→Hp→Shared→XK→Value→Shared→Prop
structure pq (P:Program) (w:World) (K:W.Frag) (mg:Str→Option Value) (base:Heap) (A:Around) (outer:List Env) (s:Shared) (H:Hp):Prop where
 frames:A.frames=some outer
 mod:Mod K mg base
 bs:∀ b o,base.get? b=some o→s.heap.get? b=some o∧H b=none
 bsz:base.objs.size≤s.heap.objs.size
 funs:s.heap.FunFrames base outer
 frf:∀ b∈frs outer,H b=none
 hok:HOk P w H s.heap
 bare:AllBare s.gens
noncomputable def CE (outer:List Env) (P:Program) (w:World) (H:Hp) (s:Shared) (Q:VK) (u:Value) (s':Shared):Prop :=
 ∃ v H',s'.os=s.os∧AllBare s'.gens∧Un (frs outer) [] H H' s.heap s'.heap∧HOk P w H' s'.heap∧aQ v u∧Q v H'
noncomputable def CR (CX:CXT) (outer:List Env) (P:Program) (w:World) (H:Hp) (s:Shared) (Q:VK) (E:XK) (r:Result) (s':Shared):Prop :=
 match r with
 | .ok (.ret u)=>CE outer P w H s Q u s'
 | .ok _=>False
 | .error e=>CX outer H s E e s'
structure a7 (P:Program) (w:World) (K:W.Frag) (mg:Str→Option Value) (base:Heap) (CX:CXT) (k:Nat) (f:Addr) (fd:FuncData) (ps:List Str) (sp:Sp):Prop where
 len:∀ vs H Q E,sp vs H Q E→vs.length=ps.length
 run:∀ (A:Around) (outer:List Env) (s:Shared) (H:Hp) (args:Args) (us:List Value) (vs:List V) (Q:VK) (E:XK),b7 k A→pq P w K mg base A outer s H→BindsTo s fd args (ps.zip us)→Vals vs us→sp vs H Q E →
  codeAny (model P w) A (.call (.ref f) args) (CR CX outer P w H s Q E) s
theorem pq.make {P:Program} {w:World} {K:W.Frag} {mg:Str→Option Value} {base:Heap} {A:Around} {outer:List Env} {s:Shared} {H:Hp} (e:pq P w K mg base A outer s H) (C:Addr) (us:List Value) (kw:List (Str×Value)) :
  pq P w K mg base (A.under (.builtin "type.__call__" ⟨.ref C::us,kw⟩)) outer s H:=⟨by first | exact e.frames | (simpa [Around.under,Code.envs,Code.isFrame,pushEnvs] using e.frames),e.mod,e.bs,e.bsz,e.funs,e.frf,e.hok,e.bare⟩
section
variable {X:Cx} {pins:List (Addr×Obj)} {σ:St} {H:Hp} {s s':Shared}
theorem Inv.env0 (I:Inv X pins σ H s):pq X.prog X.w X.K X.mg X.base X.A X.stack s H :=
 ⟨I.ok.frames,I.ok.mod,I.bs,Nat.le_trans I.ok.bsz I.sz,I.stack,I.stkFree,I.hok,I.bare⟩
theorem Inv.after {Q:VK} {u:Value} (I:Inv X pins σ H s) (h:CE X.stack X.prog X.w H s Q u s'):EP X pins σ Q u s':=by
 obtain ⟨v,H',os,bare,un,hok,r,q⟩:=h;obtain ⟨hh,g,d,t,os'⟩:=s';obtain rfl:os'=s.os:=os
 exact ⟨v,H',I.call (h':=hh) (g':=g) (d':=d) (t':=t) (ch:=[]) un hok bare (fun b z=>absurd z (by simp)),r,q⟩
end
noncomputable def v5 (sp:Sp) (dvs:List V) (E:XK) (t:TA):TE:=fun σ H Q=>t σ H fun vs H1=>sp (vs++dvs) H1 Q E
noncomputable def wg (C:Addr) (m:Str) (sp:Sp) (dvs:List V) (E:XK) (ta:TE) (t:TA):TE:=fun σ H Q=>ta σ H fun x H1=>∃ a dx fs,x=.ref a∧H1 a=some (.ins C dx fs)∧fs.lookup m=none ∧
 t σ H1 fun vs H2=>sp (x::(vs++dvs)) H2 Q E
noncomputable def zd (C:Addr) (sp:Sp) (dvs:List V) (E:XK) (t:TA):TE:=fun σ H Q=>t σ H fun vs H1=>∀ x dx,H1 x=none→H1 dx=none→dx≠x →
 sp (.ref x::(vs++dvs)) (upd (upd H1 dx (.own x)) x (.ins C dx [])) (fun v H2=>v=.non∧Q (.ref x) H2) E
noncomputable def aL (K:W.Frag) (fd:FuncData) (ps:List Str) (ds:List Value):Prop :=
 ∀ (s:Shared) (us:List Value),K.In s.heap→(us++ds).length=ps.length→BindsTo s fd ⟨us,[]⟩ (ps.zip (us++ds))
theorem aL.all {K:W.Frag} {fd:FuncData} {ps:List Str} (h:∀ us:List Value,us.length=ps.length→bindArgs fd ⟨us,[]⟩=pure (ps.zip us)):aL K fd ps []:=fun s us _ hl=>by
 rw [List.append_nil] at hl ⊢;exact .of_eq (h us hl)
noncomputable def eS (CX:CXT) (X:Cx) (E:XK):Prop:=∀ (pins:List (Addr×Obj)) (σ:St) (H:Hp) (s:Shared) (e:Value) (s':Shared),Inv X pins σ H s→CX X.stack H s E e s'→X.xe e s'
section
variable {X:Cx} {CX:CXT} {k:Nat} {f C:Addr} {fd:FuncData} {ps:List Str} {sp:Sp} {dvs:List V} {ds:List Value} {E:XK} {x m:Str} {p pos apos:Pos} {e o:Expr} {es:List Expr} {ta:TE} {t:TA}
theorem my {pins:List (Addr×Obj)} {σ:St} {H:Hp} {s:Shared} {Q:VK} {us:List Value} {vs:List V} (F:a7 X.prog X.w X.K X.mg X.base CX k f fd ps sp) (hr:b7 k X.A) (hb:aL X.K fd ps ds) (hd:Vals dvs ds) (hx:eS CX X E)
  (I:Inv X pins σ H s) (r:Vals vs us) (h:sp (vs++dvs) H Q E):wpAny (model X.prog X.w) X.A (call (.ref f) us) (EP X pins σ Q) X.xe s:=by
 have r2:Vals (vs++dvs) (us++ds):=r.append hd;have hl:(us++ds).length=ps.length:=by rw [← r2.length]; exact F.len _ _ _ _ h
 refine wpAny_call (codeAny_mono (F.run X.A X.stack s H ⟨us,[]⟩ (us++ds) (vs++dvs) Q E hr I.env0 (hb s us I.kIn hl) r2 h) fun r s' hq=>?_)
 cases r with
 | error e=>exact hx pins σ H s e s' I hq
 | ok fl =>
  cases fl with
  | ret u => exact I.after hq
  | next => exact False.elim hq
  | brk => exact False.elim hq
  | cont => exact False.elim hq
theorem aq (F:a7 X.prog X.w X.K X.mg X.base CX k f fd ps sp) (hr:b7 k X.A) (hg:Gl X x) (hm:X.mg x=some (.ref f)) (hk:W.keepIn X.K (.ref f)=true) (hb:aL X.K fd ps ds) (hd:Vals dvs ds) (hx:eS CX X E)
  (ha:PA X (e::es) t) (hdb:(x==("__debug__":Str))=false:=by decide) (he:starEach (e::es) X.env=(false,eval e X.env)::starEach es X.env:=by rfl) (hpl:(backTo pos (starEach es X.env)).any (·.1)=false:=by rfl) :
  PE X (.Call (.Name x p) (e::es) [] pos) (v5 sp dvs E t):=by
 intro pins s σ H Q I h;refine wpAny_Call_Name_kw (gT I hg hm ?_ hdb);refine W.callWith_K (h₀:=X.base) I.ok.mod.kin hk (thn (ha pos pins s σ H _ I h) fun us s1 ⟨vs,H1,I1,r,q⟩=>⟨I1.kIn,?_⟩) he hpl;exact my F hr hb hd hx I1 r q
theorem cH {pl:Sem Bool} (he:PE X o ta) (c:Cls X.K C) (hm:lI X.K C m f) (F:a7 X.prog X.w X.K X.mg X.base CX k f fd ps sp) (hr:b7 k X.A) (hb:aL X.K fd ps ds) (hd:Vals dvs ds) (hx:eS CX X E) (ha:PA X (e::es) t)
  (hst:starEach (e::es) X.env=(false,eval e X.env)::starEach es X.env:=by rfl) (hpl:(backTo pos (starEach es X.env)).any (·.1)=false:=by rfl)
  (ht:eval (.Call (.Attribute o m apos) (e::es) [] pos) X.env=(do
   let ov ← eval o X.env
   standAt apos.atName
   let (f,first) ← holding [ov] (getMethod ov m pl)
   callWith pos f first (backTo pos (starEach (e::es) X.env)) (backToKw pos (keywordEach [] X.env))):=by rfl) :
  PE X (.Call (.Attribute o m apos) (e::es) [] pos) (wg C m sp dvs E ta t):=by
 intro pins s σ H Q I h;refine W.methodCall_KW (pl:=pl) (thn (he pins s σ H _ I h) fun u s1 ⟨x,H1,I1,rx,a,dx,fs,ex,ea,l,q⟩=>?_) ht;subst ex;obtain rfl:u=Value.ref a:=rx
 refine jF I1 ea c hm l ?_;refine W.callWith_K (first:=[.ref a]) (h₀:=X.base) I.ok.mod.kin hm.kp (thn (ha pos pins s1 σ H1 _ I1 q) fun us s2 ⟨vs,H2,I2,r,q2⟩=>⟨I2.kIn,?_⟩) hst hpl;exact my (us:=.ref a::us) (vs:=.ref a::vs) F hr hb hd hx I2 (.cons rfl r) q2
theorem bz {pl:Sem Bool} (he:PE X o ta) (c:Cls X.K C) (hm:lI X.K C m f) (F:a7 X.prog X.w X.K X.mg X.base CX k f fd ps sp) (hr:b7 k X.A) (hb:aL X.K fd ps ds) (hd:Vals dvs ds) (hx:eS CX X E)
  (ht:eval (.Call (.Attribute o m apos) [] [] pos) X.env=(do
   let ov ← eval o X.env
   standAt apos.atName
   let (f,first) ← holding [ov] (getMethod ov m pl)
   callWith pos f first (backTo pos (starEach [] X.env)) (backToKw pos (keywordEach [] X.env))):=by rfl) :
  PE X (.Call (.Attribute o m apos) [] [] pos) (wg C m sp dvs E ta yo):=by
 intro pins s σ H Q I h;refine W.methodCall_KW (pl:=pl) (thn (he pins s σ H _ I h) fun u s1 ⟨x,H1,I1,rx,a,dx,fs,ex,ea,l,q⟩=>?_) ht;subst ex;obtain rfl:u=Value.ref a:=rx
 refine jF I1 ea c hm l ?_;exact W.callWith_K0 (first:=[.ref a]) I1.kIn hm.kp (my (us:=[.ref a]) (vs:=[.ref a]) F hr hb hd hx I1 (.cons rfl .nil) q)
structure Mk (K:W.Frag) (C f:Addr):Prop where
 makes:W.makesIn K C=true
 init:W.findIn K (.ref C) "__init__"=some (some (.ref f))
 fn:W.isFn K (.ref f)=true
 kp:W.keepIn K (.ref C)=true
theorem vM {pins:List (Addr×Obj)} {σ:St} {H:Hp} {s:Shared} {Q:VK} {us:List Value} {vs:List V} (M:Mk X.K C f) (F:a7 X.prog X.w X.K X.mg X.base CX k f fd ps sp) (hr:b7 (k+1) X.A) (hb:aL X.K fd ps ds) (hd:Vals dvs ds)
  (hx:eS CX X E) (I:Inv X pins σ H s) (r:Vals vs us)
  (h:∀ x dx,H x=none→H dx=none→dx≠x→sp (.ref x::(vs++dvs)) (upd (upd H dx (.own x)) x (.ins C dx [])) (fun v H2=>v=.non∧Q (.ref x) H2) E) :
  wpAny (model X.prog X.w) X.A (call (.ref C) us) (EP X pins σ Q) X.xe s:=by
 have hq:=h (s.heap.objs.size+1) s.heap.objs.size (I.hok.fresh (Nat.le_succ _)) (I.hok.fresh (Nat.le_refl _)) (Nat.ne_of_lt (Nat.lt_succ_self _));have I2:=Inv.made (C:=C) I;have r2:Vals (V.ref (s.heap.objs.size+1)::(vs++dvs)) (Value.ref (s.heap.objs.size+1)::(us++ds)):=.cons rfl (r.append hd)
 have hl:(Value.ref (s.heap.objs.size+1)::us++ds).length=ps.length:=by
  have e:=r2.length;rw [F.len _ _ _ _ hq] at e;exact e.symm
 refine wpAny_call (uA (f:=f) I.kIn M.makes M.init (beq_iff_eq.mp M.fn) (codeAny_mono (F.run _ X.stack _ _ ⟨Value.ref (s.heap.objs.size+1)::us,[]⟩ (Value.ref (s.heap.objs.size+1)::(us++ds)) _ _ E (hr.make C us [])
  (I2.env0.make C us []) (hb _ (Value.ref (s.heap.objs.size+1)::us) I2.kIn hl) r2 hq) fun r s' hq'=>?_))
 cases r with
 | error e=>exact hx pins σ _ _ e s' I2 hq'
 | ok fl =>
  cases fl with
  | ret u =>
   obtain ⟨v,H',I3,rv,ev,q3⟩:=I2.after hq';subst ev;exact ⟨rv,⟨V.ref (s.heap.objs.size+1),H',I3,rfl,q3⟩⟩
  | next => exact False.elim hq'
  | brk => exact False.elim hq'
  | cont => exact False.elim hq'
theorem xt (M:Mk X.K C f) (F:a7 X.prog X.w X.K X.mg X.base CX k f fd ps sp) (hr:b7 (k+1) X.A) (hg:Gl X x) (hm:X.mg x=some (.ref C)) (hb:aL X.K fd ps ds) (hd:Vals dvs ds) (hx:eS CX X E)
  (ha:PA X (e::es) t) (hdb:(x==("__debug__":Str))=false:=by decide) (he:starEach (e::es) X.env=(false,eval e X.env)::starEach es X.env:=by rfl) (hpl:(backTo pos (starEach es X.env)).any (·.1)=false:=by rfl) :
  PE X (.Call (.Name x p) (e::es) [] pos) (zd C sp dvs E t):=by
 intro pins s σ H Q I h;refine wpAny_Call_Name_kw (gT I hg hm ?_ hdb);refine W.callWith_K (h₀:=X.base) I.ok.mod.kin M.kp (thn (ha pos pins s σ H _ I h) fun us s1 ⟨vs,H1,I1,r,q⟩=>⟨I1.kIn,?_⟩) he hpl;exact vM M F hr hb hd hx I1 r q
end
structure aw (N P:List Str) (sc:Scope):Prop where
 kind:sc.kind=.function
 co:sc.isCoroutine=false
 gen:sc.isGenerator=false
 nd:N.Nodup
 pre:N.take P.length=P
 par:∀ x∈P,sc.names.lookup x=some .local∨sc.names.lookup x=some .cell
 nofree:∀ y∈sc.names,y.2≠.free
theorem kH {kindOf:Str→Option NameKind} {x:Str}:∀ {binds:List (Str×Value)} {m:Str→Option Value},(∀ v,(x,v)∉binds)→bindL kindOf binds m x=m x
 | [],_,_=>rfl
 | (n,v)::r,m,h=>by
  unfold bindL;rw [kH fun w hw=>h w (List.mem_cons_of_mem _ hw)]
  split
  ·have:x≠n:=by rintro rfl; exact h v List.mem_cons_self
   simp [this]
  ·rfl
theorem kF {kindOf:Str→Option NameKind} {x:Str}:∀ {binds:List (Str×Value)} {m:Str→Option Value},(∀ v,(x,v)∉binds)→bindC kindOf binds m x=m x
 | [],_,_=>rfl
 | (n,v)::r,m,h=>by
  unfold bindC;rw [kF fun w hw=>h w (List.mem_cons_of_mem _ hw)]
  split
  ·rfl
  ·have:x≠n:=by rintro rfl; exact h v List.mem_cons_self
   simp [this]
theorem kG {kindOf:Str→Option NameKind} {x:Str} {v:Value}:∀ {P:List Str} {vs:List Value} {i:Nat} {m:Str→Option Value},P.Nodup→P[i]?=some x→vs[i]?=some v→kindOf x=some .local →
  bindL kindOf (P.zip vs) m x=some v
 | [],_,_,_,_,h,_,_=>by simp at h
 | _::_,[],_,_,_,_,h,_=>by simp at h
 | p::P,w::vs,0,m,nd,h1,h2,hk=>by
  simp at h1 h2; subst h1; subst h2
  show bindL kindOf ((p,w)::P.zip vs) m p=_
  unfold bindL;rw [kH fun v hv=>(List.nodup_cons.mp nd).1 (List.of_mem_zip hv).1,if_pos hk];simp
 | p::P,w::vs,i+1,m,nd,h1,h2,hk=>by
  show bindL kindOf ((p,w)::P.zip vs) m x=_
  unfold bindL;exact kG (i:=i) (List.nodup_cons.mp nd).2 (by simpa using h1) (by simpa using h2) hk
theorem kE {kindOf:Str→Option NameKind} {x:Str} {v:Value}:∀ {P:List Str} {vs:List Value} {i:Nat} {m:Str→Option Value},P.Nodup→P[i]?=some x→vs[i]?=some v→kindOf x≠some .local →
  bindC kindOf (P.zip vs) m x=some v
 | [],_,_,_,_,h,_,_=>by simp at h
 | _::_,[],_,_,_,_,h,_=>by simp at h
 | p::P,w::vs,0,m,nd,h1,h2,hk=>by
  simp at h1 h2; subst h1; subst h2
  show bindC kindOf ((p,w)::P.zip vs) m p=_
  unfold bindC;rw [kF fun v hv=>(List.nodup_cons.mp nd).1 (List.of_mem_zip hv).1,if_neg hk];simp
 | p::P,w::vs,i+1,m,nd,h1,h2,hk=>by
  show bindC kindOf ((p,w)::P.zip vs) m x=_
  unfold bindC;exact kE (i:=i) (List.nodup_cons.mp nd).2 (by simpa using h1) (by simpa using h2) hk
noncomputable def start (N:List Str) (vs:List V):St:=vs.map some++List.replicate (N.length - vs.length) none
noncomputable def eG (CX:CXT) (P:Program) (w:World) (K:W.Frag) (mg:Str→Option Value) (base:Heap) (N:List Str) (qual:Str) (scope:Scope) (f:Addr) (cd:Value) (A:Around) (outer:List Env) (s:Shared) (H:Hp) (E:XK):Cx where
 prog:=P
 w:=w
 K:=K
 mg:=mg
 base:=base
 A:=A.deeper (envOfC qual scope s.heap.objs.size f cd)
 N:=N
 s₀:=s
 H₀:=H
 env:=envOfC qual scope s.heap.objs.size f cd
 outer:=outer
 stack:=envOfC qual scope s.heap.objs.size f cd::outer
 ex:=[]
 calm:=true
 fn:=fun _=>true
 pn:=[]
 xe:=fun e s'=>wpAny (model P w) (A.deeper (envOfC qual scope s.heap.objs.size f cd)) (leaving (envOfC qual scope s.heap.objs.size f cd) e) (fun _ s''=>CX outer H s E e s'') (fun e' s''=>CX outer H s E e' s'') s'
theorem nv {sc:Scope} {n:Nat} {x:Str} (h:sc.names.lookup x=some .cell):∃ c,(cellsFrom n sc.names []).lookup x=some c:=by
 have q:=W.cellsFrom_some sc.names n [] (.inl h);exact Option.isSome_iff_exists.mp q
theorem r9 {CX:CXT} {P:Program} {w:World} {K:W.Frag} {mg:Str→Option Value} {base:Heap} {N ps:List Str} {qual:Str} {scope:Scope} {f:Addr} {cd:Value} {A:Around} {outer:List Env} {s s1:Shared} {H:Hp} {E:XK} {us:List Value} {vs:List V}
    (S:aw N ps scope) (hd:A.handled=none) (e0:pq P w K mg base A outer s H) (hl:vs.length=ps.length) (r:Vals vs us)
    (x:InCallC s s.heap.objs.size (bindL (envOfC qual scope s.heap.objs.size f cd).kindOf (ps.zip us) fun _=>none) (cellsFrom (s.heap.objs.size+1) scope.names []) (bindC (envOfC qual scope s.heap.objs.size f cd).kindOf (ps.zip us) fun _=>none) s1) :
    Inv (eG CX P w K mg base N qual scope f cd A outer s H E) [] (start N vs) H s1:=by
  have hpl:ps.length≤N.length:=by have:=congrArg List.length S.pre; rw [List.length_take] at this; omega
  obtain ⟨h1,tk,rfl,hk⟩:=x.done;have noA:∀ b:Addr,b∉(eG CX P w K mg base N qual scope f cd A outer s H E).ex:=fun b z=>absurd (show b∈([]:List Addr) from z) (by simp);refine ⟨⟨e0.mod,S.kind,rfl,rfl,Nat.le_refl _,fun y z c h1 h2=>?_,fun y hy=>?_,fun y c _ h=>?_,fun _=>hd,Around.frames_deeper e0.frames,.inr ⟨rfl,rfl⟩,fun b z=>absurd z (noA b),e0.bs,e0.bsz,fun b _ _=>noA b,fun b z=>absurd z (noA b),e0.funs,e0.frf⟩,
    rfl,e0.bare,Un.kept hk,⟨_,x.toInCall.ns,fun i y v h1 h2 h3=>?_⟩,fun y c h=>⟨_,x.cell y c h⟩,e0.hok.fresh (Nat.le_refl _),fun y c h=>?_,fun p hp=>absurd (show p∈([]:List (Addr×Obj)) from hp) (by simp),e0.hok.kept hk,?_⟩
  · exact name_of_addr x.apart (PySem.mem_of_lookup h1) (PySem.mem_of_lookup h2)
  · have hy:scope.names.lookup y=some .cell∨scope.names.lookup y=some .free:=hy
    rcases hy with hy | hy
    · exact nv hy
    · exact absurd rfl (S.nofree _ (PySem.mem_of_lookup hy))
  · exact Nat.le_of_lt (x.above y c (PySem.mem_of_lookup h))
  · have hi:i<vs.length:=by
      unfold start at h2;by_cases hi:i<vs.length
      · exact hi
      · rw [List.getElem?_append_right (by simpa using hi)] at h2
        rw [List.getElem?_replicate] at h2
        split at h2<;>cases h2
    have ha:vs[i]?=some v:=by
      unfold start at h2;rw [List.getElem?_append_left (by simpa using hi),List.getElem?_map] at h2
      cases e:vs[i]? with
      | none=>rw [e] at h2; cases h2
      | some a=>rw [e] at h2; cases h2; rfl
    obtain ⟨u,hu,rv⟩:=r.get ha
    have hp:ps[i]?=some y:=by
      rw [← S.pre,List.getElem?_take_of_lt (by omega)]; exact h1
    have ndP:ps.Nodup:=by rw [← S.pre]; exact S.nd.sublist (List.take_sublist _ _)
    refine ⟨u,rv,?_⟩;rcases S.par y (List.mem_of_getElem? hp) with k | k
    · exact .inl ⟨k,kG ndP hp hu k⟩
    · obtain ⟨c,e⟩:=nv (n:=s.heap.objs.size+1) k
      refine .inr ⟨.inl k,c,e,?_⟩;have q:=x.cell y c e;rw [kE ndP hp hu (by show scope.names.lookup y≠_; rw [k]; decide)] at q;exact q
  · exact e0.hok.fresh (Nat.le_of_lt (x.above y c (PySem.mem_of_lookup h)))
  · unfold start
    show _=N.length
    rw [List.length_append,List.length_map,List.length_replicate];omega
theorem yI {CX:CXT} {P:Program} {w:World} {K:W.Frag} {mg:Str→Option Value} {base:Heap} {k:Nat} {f:Addr} {name qual:Str} {params:Arguments} {body:List Stmt} {scope:Scope} {dV kV doc pm cdv ct oc:Value} {an od:Option Addr}
  {osl:Array (Option Value)} {N ps:List Str} {sp:Sp} (lk:K.lookup f=some ⟨oc,od,.func (W.fnOf name qual params body scope dV kV doc pm an cdv ct),osl⟩) (hcd:W.codeIn K cdv qual=true) (S:aw N ps scope)
  (len:∀ vs H Q E,sp vs H Q E→vs.length=ps.length)
  (hbody:∀ (A:Around) (outer:List Env) (s:Shared) (H:Hp) (vs:List V) (Q:VK) (E:XK),b7 k (A.deeper (envOfC qual scope s.heap.objs.size f cdv))→sp vs H Q E →
   ∃ t,PSs (eG CX P w K mg base N qual scope f cdv A outer s H E) body t∧t { nx:=fun _ H'=>Q .non H',rt:=Q } (start N vs) H) :
  a7 P w K mg base CX (k+1) f (W.fnOf name qual params body scope dV kV doc pm an cdv ct) ps sp:=by
 refine ⟨len,fun A outer s H args us vs Q E hr e0 hb r hsp=>?_⟩;have hl:=len _ _ _ _ hsp;have KX:K.In s.heap:=e0.mod.kin.keeps fun b o e=>(e0.bs b o e).1;have lim:s.heap.NoLimit:=e0.mod.nolimit.keeps fun b o e=>(e0.bs b o e).1;have hkind:∀ y∈ps.zip us,scope.names.lookup y.1=some .local∨(scope.names.lookup y.1=some .cell∧((cellsFrom (s.heap.objs.size+1) scope.names []).lookup y.1).isSome=true):=fun ⟨n,v⟩ hy=>by
  rcases S.par n (List.of_mem_zip hy).1 with q | q
  ·exact .inl q
  ·exact .inr ⟨q,W.cellsFrom_some _ _ _ (.inl q)⟩
 refine codeAny_call_function hr.depth (KX _ _ lk) rfl S.co S.gen rfl (W.codeRec_of KX hcd) (hb _ _ _ _ ?_);refine wpAny_newFunctionEnv_cells S.kind hkind fun env he s1 x=>?_;subst he;refine ⟨lim.keeps x.toInCall.keep,codeAny_func ?_⟩;obtain ⟨t,ht,hq⟩:=hbody A outer s H vs Q E (hr.deeper _) hsp;have I:Inv (eG CX P w K mg base N qual scope f cdv A outer s H E) [] (start N vs) H s1:=r9 S hr.hd e0 hl r x;refine wpAny_mono (ht [] s1 (start N vs) H _ I hq) (fun fl s' hs=>?_) fun e s' hs=>hs
 have fin:∀ {σ':St} {H':Hp} {v:V} {u:Value},Inv (eG CX P w K mg base N qual scope f cdv A outer s H E) [] σ' H' s'→aQ v u→Q v H'→CE outer P w H s Q u s' :=
  fun {σ' H' v u} J rv q=>⟨v,H',J.os,J.bare,J.base,J.hok,rv,q⟩
 cases fl with
 | ret u =>
  obtain ⟨v,σ',H',J,rv,q⟩:=hs;exact fin J rv q
 | next =>
  obtain ⟨σ',H',J,q⟩:=hs;exact fin (v:=V.non) (u:=Value.none) J rfl q
 | brk =>
  obtain ⟨_,_,_,q⟩:=hs;exact False.elim q
 | cont =>
  obtain ⟨_,_,_,q⟩:=hs;exact False.elim q
section
variable {X:Cx} {x:Str} {p pos:Pos} {e:Expr} {es:List Expr} {t:TA} {id T:String} {r:List V→Hp→VK→Prop}
noncomputable def tCB (r:List V→Hp→VK→Prop) (t:TA):TE:=fun σ H Q=>t σ H fun vs H1=>r vs H1 Q
theorem ao (hc:bI X (.builtin id) r) (hg:Gl X x) (hm:X.mg x=none) (hv:bootBuiltins x=some (.builtin id)) (ha:PA X (e::es) t) (hn:x≠"__name__":=by decide) (hdb:(x==("__debug__":Str))=false:=by decide)
  (he:starEach (e::es) X.env=(false,eval e X.env)::starEach es X.env:=by rfl) (hpl:(backTo pos (starEach es X.env)).any (·.1)=false:=by rfl):PE X (.Call (.Name x p) (e::es) [] pos) (tCB r t):=by
 intro pins s σ H Q I h;refine wpAny_Call_Name_kw (d9 I hg hm hv ?_ hn hdb);exact PyProof.Rows.callWith_builtin1 (thn (ha pos pins s σ H _ I h) fun us s1 ⟨vs,H1,I1,r1,q1⟩=>hc pins s1 σ H1 vs us Q I1 r1 q1) he hpl
theorem eM (hc:bI X (.type T) r) (hg:Gl X x) (hm:X.mg x=none) (hv:bootBuiltins x=some (.type T)) (ha:PA X (e::es) t) (hn:x≠"__name__":=by decide) (hdb:(x==("__debug__":Str))=false:=by decide)
  (he:starEach (e::es) X.env=(false,eval e X.env)::starEach es X.env:=by rfl) (hpl:(backTo pos (starEach es X.env)).any (·.1)=false:=by rfl):PE X (.Call (.Name x p) (e::es) [] pos) (tCB r t):=by
 intro pins s σ H Q I h;refine wpAny_Call_Name_kw (d9 I hg hm hv ?_ hn hdb);exact PyProof.Rows.callWith_type1 (thn (ha pos pins s σ H _ I h) fun us s1 ⟨vs,H1,I1,r1,q1⟩=>hc pins s1 σ H1 vs us Q I1 r1 q1) he hpl
end
end L2
namespace HT
open PySem PyProof.Rows
section
open PySem.SeqAt
open PySem.AutoSeq1 (wpAny_loadPart')
open PySem.MeetsSeq PySem.MeetsSeq2 PySem.MeetsSeq3
end
section
variable {prog:Program} {w:World} {A:Around} {E:Value→Shared→Prop} {s:Shared}
noncomputable def sIx (n d:Nat):Option Int→Nat
 | none=>d
 | some v=>if v<0 then (v+(n:Int)).toNat else min v.toNat n
theorem oB (n d:Nat):sIx n d none=d:=rfl
theorem ro (n d k:Nat):sIx n d (some (k:Int))=min k n:=by
 show (if (k:Int)<0 then ((k:Int)+(n:Int)).toNat else min (k:Int).toNat n)=min k n
 rw [if_neg (by omega),Int.toNat_natCast]
theorem AU (n d:Nat) (hd:d≤n) (o:Option Int):sIx n d o≤n:=by
 cases o with
 | none=>exact hd
 | some v =>
  show (if v<0 then (v+(n:Int)).toNat else min v.toNat n)≤n
  by_cases hv:v<0
  ·rw [if_pos hv]; omega
  ·rw [if_neg hv]; exact Nat.min_le_right _ _
theorem qM (v:Int) (n d:Nat):(if v<0 then max (v+(n:Int)) 0 else min v (n:Int))=((sIx n d (some v):Nat):Int):=by
 show (if v<0 then max (v+(n:Int)) 0 else min v (n:Int))=(((if v<0 then (v+(n:Int)).toNat else min v.toNat n):Nat):Int)
 by_cases hv:v<0
 ·simp only [if_pos hv]; omega
 ·simp only [if_neg hv]; omega
theorem pC (lo hi:Option Int) (n:Nat):Builtin.Slice.sliceAdjust lo hi 1 (n:Int)=(((sIx n 0 lo:Nat):Int),((sIx n n hi:Nat):Int)):=by
 have h1:¬ ((1:Int)<0):=by omega
 unfold Builtin.Slice.sliceAdjust;simp only [h1,if_false];refine Prod.ext ?_ ?_
 ·cases lo with
  | none => rfl
  | some v => exact qM v n 0
 ·cases hi with
  | none => rfl
  | some v => exact qM v n n
theorem pW (i j:Nat):Builtin.Slice.slicePlaces (i:Int) (j:Int) 1=j - i:=by
 unfold Builtin.Slice.slicePlaces;have h1:(1:Int) > 0:=by omega
 simp only [h1,if_true,Int.ediv_one]
 split<;>omega
theorem j2 {v:Value} {o:Option Int} {Q:Option Int→Shared→Prop} (p:IsPart v o) (h:Q o s):wpAny (model prog w) A (Builtin.Slice.slicePartIndex v) Q E s:=by
 cases p with
 | none=>exact slicePart_none h
 | int i t=>exact slicePart_int h
theorem eQ {sl:Addr} {vl vu:Value} {lo hi:Option Int} {n:Nat} {Q:Int×Int×Nat→Shared→Prop} (hs:s.heap.IsSliceOf sl vl vu .none) (pl:IsPart vl lo) (pu:IsPart vu hi)
  (h:Q (((sIx n 0 lo:Nat):Int),1,sIx n n hi - sIx n 0 lo) s):wpAny (model prog w) A (Builtin.Slice.sliceApplied (.ref sl) (pure (n:Int))) Q E s:=by
 obtain ⟨os,hos,hcs,hds⟩:=id hs;unfold Builtin.Slice.sliceApplied Builtin.Slice.sliceFields;refine wpAny_bind (wpAny_bind (wpAny_field hos hds (x:=vl) rfl (wpAny_bind (wpAny_field hos hds (x:=vu) rfl (wpAny_bind (wpAny_field hos hds (x:=.none) rfl (wpAny_pure ?_)))))));refine wpAny_bind (slicePart_none ?_)
 show wpAny _ _ (if ((1:Int)==0)=true then _ else _) _ _ s
 rw [if_neg (by decide)];refine wpAny_bind (j2 pl (wpAny_bind (j2 pu (wpAny_bind (wpAny_pure ?_)))))
 show wpAny _ _ (match Builtin.Slice.sliceAdjust lo hi 1 (n:Int) with | (lo,hi)=>pure (lo,(1:Int),Builtin.Slice.slicePlaces lo hi 1)) _ _ s
 rw [pC lo hi n]
 show wpAny _ _ (pure (((sIx n 0 lo:Nat):Int),(1:Int),Builtin.Slice.slicePlaces ((sIx n 0 lo:Nat):Int) ((sIx n n hi:Nat):Int) 1)) _ _ s
 rw [pW];exact wpAny_pure h
theorem uZ (xs:Array Value) (i k:Nat):((List.range k).filterMap fun (m:Nat)=>xs[((i:Int)+(m:Int)*1).toNat]?).toArray=((xs.toList.drop i).take k).toArray:=by
 have e:(fun (m:Nat)=>xs[((i:Int)+(m:Int)*1).toNat]?)=fun m=>xs[i+m]?:=by
  funext m
  have:((i:Int)+(m:Int)*1).toNat=i+m:=by omega
  rw [this]
 rw [e];have:=pick_run xs i k
 rw [List.filterMap_map] at this;have e2:((fun x=>xs[x]?)∘fun x=>i+x)=fun m=>xs[i+m]?:=rfl;rw [e2] at this;rw [this]
theorem gQ {t sl:Addr} {items:Array Value} {vl vu:Value} {lo hi:Option Int} {Q:Value→Shared→Prop} (ht:IsTup s.heap t items) (hs:s.heap.IsSliceOf sl vl vu .none) (pl:IsPart vl lo) (pu:IsPart vu hi)
  (hw:¬ (sIx items.size 0 lo=0∧sIx items.size items.size hi=items.size))
  (h:Q (.ref s.heap.objs.size) { s with heap:=s.heap.push { cls:=.type "tuple",data:=.seq ((items.toList.drop (sIx items.size 0 lo)).take (sIx items.size items.size hi - sIx items.size 0 lo)).toArray } })
  (hsz:items.size≤sizeLine):wpAny (model prog w) A (getItem (.ref t) (.ref sl)) Q E s:=by
 have htake:sizeOk (.seq ((items.toList.drop (sIx items.size 0 lo)).take (sIx items.size items.size hi - sIx items.size 0 lo)).toArray):=by
  show ((items.toList.drop (sIx items.size 0 lo)).take (sIx items.size items.size hi - sIx items.size 0 lo)).toArray.size≤sizeLine
  rw [List.size_toArray,List.length_take,List.length_drop,Array.length_toList];omega
 have hj:sIx items.size items.size hi≤items.size:=AU _ _ (Nat.le_refl _) hi;obtain ⟨os,hos,hcs,hds⟩:=id hs;have hTs:s.TypeIs (.ref sl) "slice":=⟨os,hos,hcs⟩
 unfold getItem
 try with_reducible refine wpAny_holding ?_
 first | refine wpAny_bind (wpAny_pure ?_) | skip
 refine wpAny_bind (wpAny_sequenceKey ht.typeIs (by decide) ?_);refine wpAny_bind (wpAny_callSpecial?_slot (name:=Str.ofString "__getitem__") ht.typeIs PyProof.Rows.slot_tuple_getitem
  (wpAny_call_entry PyProof.Rows.slot_tuple_getitem ht.typeIs entry_tuple_getitem ?_ (args_tuple_getitem _ _)))
 show wpAny _ _ (Builtin.Tuple.tupleItemsOf (.ref t) >>= _) _ _ s
 refine wpAny_bind (tupleItemsOf_ ht ?_);refine wpAny_bind (wpAny_typeOf hTs ?_);rw [if_pos (by decide)];refine wpAny_bind (eQ hs pl pu ?_)
 have hno:¬ ((((sIx items.size 0 lo:Nat):Int)==0&&(1:Int)==1&&(sIx items.size items.size hi - sIx items.size 0 lo)==items.size)=true):=by
  intro q;rw [Bool.and_eq_true,Bool.and_eq_true] at q;have q1:((sIx items.size 0 lo:Nat):Int)=0:=eq_of_beq q.1.1;have q2:sIx items.size items.size hi - sIx items.size 0 lo=items.size:=eq_of_beq q.2;exact hw ⟨by omega,by omega⟩
 show wpAny _ _ (if (((sIx items.size 0 lo:Nat):Int)==0&&(1:Int)==1&&(sIx items.size items.size hi - sIx items.size 0 lo)==items.size)=true then _ else _) _ _ s
 rw [if_neg hno,uZ]
 first
  | exact wpAny_bind (m := Builtin.Tuple.tupleExact _) (wpAny_newObj_type (wpAny_pure ⟨_, rfl, wpAny_pure h⟩) htake)
  | exact wpAny_bind (m := Builtin.Tuple.tupleExact _) (wpAny_newObj_type (wpAny_bind (wpAny_pure (wpAny_pure ⟨_, rfl, wpAny_pure h⟩))) htake)
  | exact wpAny_bind (wpAny_bind (m := Builtin.Tuple.tupleExact _) (wpAny_newObj_type (wpAny_pure (wpAny_pure ⟨_, rfl, wpAny_pure h⟩)) htake))
  | exact wpAny_bind (wpAny_bind (m := Builtin.Tuple.tupleExact _) (wpAny_newObj_type (wpAny_pure ⟨_, rfl, wpAny_pure h⟩) htake))
end
end HT
namespace L2
open PySem PySem.Spec PyProof.Rows
noncomputable abbrev TO:=St→Hp→(Option Int→Hp→Prop)→Prop
noncomputable def PO (X:Cx) (e:Option Expr) (t:TO):Prop :=
 ∀ (pins:List (Addr×Obj)) (s:Shared) (σ:St) (H:Hp) (Q:Option Int→Hp→Prop),Inv X pins σ H s→t σ H Q →
  wpAny (model X.prog X.w) X.A (evalPart e X.env) (fun u s'=>∃ o H',Inv X pins σ H' s'∧IsPart u o∧Q o H') X.xe s
noncomputable def rC:TO:=fun _ H Q=>Q none H
noncomputable def zg (t:TE):TO:=fun σ H Q=>t σ H fun x H1=>∃ i,x=.int i∧Q (some i) H1
theorem pM {ns:List Int}:∀ {us:List Value},Vals (ns.map V.int) us→IntsAre us ns:=by
 induction ns with
 | nil=>intro us r; rw [List.map_nil] at r; cases r; exact .nil
 | cons n ns ih =>
  intro us r;rw [List.map_cons] at r
  cases r with
  | cons r1 r2 =>
   obtain ⟨t,e⟩:=r1;subst e;exact .cons n t (ih r2)
section
variable {X:Cx} {e:Expr} {te:TE} {lo hi:Option Expr} {tl th:TO} {pos p2:Pos}
theorem jf:PO X none rC:=by
 intro pins s σ H Q I h;rw [evalPart_none];exact wpAny_pure ⟨none,H,I,.none,h⟩
theorem jg (h:PE X e te):PO X (some e) (zg te):=by
 intro pins s σ H Q I hw;rw [evalPart_some];refine thn (h pins s σ H _ I hw) fun u s1 ⟨x,H1,I1,r1,q1⟩=>?_;obtain ⟨i,rfl,q⟩:=q1;obtain ⟨t,rfl⟩:=r1;exact ⟨some i,H1,I1,.int i t,q⟩
noncomputable def SlR (X:Cx) (r:V→Option Int→Option Int→Hp→VK→Prop):Prop :=
 ∀ (pins:List (Addr×Obj)) (s:Shared) (σ:St) (H:Hp) (x:V) (v vl vu:Value) (lo hi:Option Int) (sl:Addr) (Q:VK),Inv X pins σ H s→aQ x v→s.heap.IsSliceOf sl vl vu .none→IsPart vl lo→IsPart vu hi→r x lo hi H Q →
  ∃ T id,typeLookup (.type T) "__getitem__"=pure (some (.builtin id))∧s.TypeIs v T∧wpAny (model X.prog X.w) X.A (getItem v (.ref sl)) (EP X pins σ Q) X.xe s
noncomputable def tSl (r:V→Option Int→Option Int→Hp→VK→Prop) (te:TE) (tl th:TO):TE:=fun σ H Q=>te σ H fun x H1=>tl σ H1 fun l H2=>th σ H2 fun u H3=>r x l u H3 Q
theorem gX {r:V→Option Int→Option Int→Hp→VK→Prop} (hr:SlR X r) (he:PE X e te) (hl:PO X lo tl) (hu:PO X hi th):PE X (.Subscript e (.Slice lo hi none p2) pos) (tSl r te tl th):=by
 intro pins s σ H Q I h;refine Subscript_ (thn (he pins s σ H _ I h) fun v s1 ⟨x,H1,I1,r1,q1⟩=>?_);refine wpAny_Slice (thn (hl pins s1 σ H1 _ I1 q1) fun vl s2 ⟨l,H2,I2,pl,q2⟩=>thn (hu pins s2 σ H2 _ I2 q2) fun vu s3 ⟨u,H3,I3,pu,q3⟩=>?_);rw [evalPart_none];refine wpAny_pure ?_;have I4:Inv X pins σ H3 { s3 with heap:=s3.heap.push { cls:=.type "slice",data:=.fields #[vl,vu,.none] } }:=I3.kept (t':=s3.toks) fun b ob q=>Heap.get?_push_of_some _ q;obtain ⟨T,id,hT,ht,hg⟩:=hr pins { s3 with heap:=s3.heap.push { cls:=.type "slice",data:=.fields #[vl,vu,.none] } } σ H3 x v vl vu l u s3.heap.objs.size Q I4 r1 (Heap.IsSliceOf.new ..) pl pu q3
 show wpAny (model X.prog X.w) X.A (subscriptTail e (.Slice lo hi none p2) v (.ref s3.heap.objs.size)) (EP X pins σ Q) X.xe { s3 with heap:=s3.heap.push { cls:=.type "slice",data:=.fields #[vl,vu,.none] } }
 exact tail_any (ops:=[.ref s3.heap.objs.size,v]) ht hT hg (by with_unfolding_all rfl)
noncomputable def gd (xs:List V) (lo hi:Option Int):List V:=(xs.drop (HT.sIx xs.length 0 lo)).take (HT.sIx xs.length xs.length hi - HT.sIx xs.length 0 lo)
theorem iO (xs:List V) (lo hi:Option Int):(gd xs lo hi).length≤xs.length:=by
 unfold gd;rw [List.length_take,List.length_drop];omega
noncomputable def Ca (K:W.Frag):V→Option Int→Option Int→Hp→VK→Prop:=fun x lo hi H Q=>∃ a xs,x=.ref a∧SqT K H a xs ∧
 ¬ (HT.sIx xs.length 0 lo=0∧HT.sIx xs.length xs.length hi=xs.length)∧∀ p,H p=none→Q (.ref p) (upd H p (.tup (gd xs lo hi)))
theorem AV:SlR X (Ca X.K):=by
 intro pins s σ H x v vl vu lo hi sl Q I rx hs pl pu h;obtain ⟨a,xs,rfl,hx,hw,q⟩:=h
 cases rx;obtain ⟨its,r,ht,hz⟩:=I.tuple hx;have hlen:its.toArray.size=xs.length:=by rw [List.size_toArray]; exact r.length.symm
 refine ⟨"tuple",_,PyProof.Rows.slot_tuple_getitem.lookup,ht.typeIs,?_⟩;refine HT.gQ ht hs pl pu (by rw [hlen]; exact hw) ?_ (by rw [hlen]; exact hz);rw [hlen];refine ⟨.ref s.heap.objs.size,_,I.laid (t':=s.toks) (o:=.tup (gd xs lo hi)) (fun b ob q=>Heap.get?_push_of_some _ q) (Nat.le_refl _) ?_,rfl,q _ (I.hok.fresh (Nat.le_refl _))⟩;exact ⟨Nat.le_trans (iO xs lo hi) hz,_,(r.drop (HT.sIx xs.length 0 lo)).take (HT.sIx xs.length xs.length hi - HT.sIx xs.length 0 lo),IsTup.new _ _⟩
end
noncomputable def ixN (n:Nat) (i:Int):Option Nat:=if 0≤i then (if i<n then some i.toNat else none) else if -(n:Int)≤i then some (i+n).toNat else none
noncomputable def atI {α:Type} (xs:List α) (i:Int):Option α:=(ixN xs.length i).bind fun j=>xs[j]?
theorem w9 {n:Nat} {i:Int} {j:Nat} (h:ixN n i=some j):seqIndex? i n=some j∧j<n∧-(n:Int)≤i∧i<n:=by
 unfold ixN at h;by_cases h0:0≤i
 ·rw [if_pos h0] at h;by_cases h1:i<n
  ·rw [if_pos h1] at h;have e:i.toNat=j:=Option.some.inj h;exact ⟨by rw [seqIndex_of h0 h1,e],by omega,by omega,h1⟩
  ·rw [if_neg h1] at h; cases h
 ·rw [if_neg h0] at h;by_cases h1:-(n:Int)≤i
  ·rw [if_pos h1] at h;have e:(i+n).toNat=j:=Option.some.inj h;exact ⟨by rw [seqIndex_neg (by omega) h1,e],by omega,h1,by omega⟩
  ·rw [if_neg h1] at h; cases h
theorem lK {α:Type} {xs:List α} {i:Int} {v:α} (h:atI xs i=some v):∃ j,seqIndex? i xs.length=some j∧xs[j]?=some v∧j<xs.length∧-(xs.length:Int)≤i∧i<xs.length:=by
 unfold atI at h
 cases e:ixN xs.length i with
 | none=>rw [e] at h; cases h
 | some j =>
  rw [e] at h;obtain ⟨h1,h2,h3,h4⟩:=w9 e;exact ⟨j,h1,h,h2,h3,h4⟩
theorem dj {α:Type} {xs:List α} {j:Nat} {v:α} (h:xs[j]?=some v):atI xs (j:Int)=some v:=by
 have hj:j<xs.length:=(List.getElem?_eq_some_iff.mp h).1
 have e:ixN xs.length (j:Int)=some j:=by
  unfold ixN;rw [if_pos (by omega),if_pos (by omega)]; simp
 unfold atI; rw [e]; exact h
theorem tO {α:Type} (xs:List α) (v:α):atI (xs++[v]) (-1)=some v:=by
 have hl:(xs++[v]).length=xs.length+1:=by simp
 have e:ixN (xs++[v]).length (-1)=some xs.length:=by
  unfold ixN;rw [hl,if_neg (by decide),if_pos (by omega)]
  congr 1
  omega
 unfold atI;rw [e]
 show (xs++[v])[xs.length]?=some v
 simp
noncomputable def qE (b:Expr):Prop:=∀ o i,subscripted b false o i=operate [o,i] (getItem o i)
noncomputable def IxR (X:Cx) (r:R2):Prop :=
 ∀ (value slice:Expr) (pins:List (Addr×Obj)) (s:Shared) (σ:St) (H:Hp) (x y:V) (v u:Value) (Q:VK),Inv X pins σ H s→aQ x v→aQ y u→r x y H Q →
  subscripted slice false v u=operate [v,u] (getItem v u)→wpAny (model X.prog X.w) X.A (subscriptTail value slice v u) (EP X pins σ Q) X.xe s
noncomputable def MtR (X:Cx) (id:String) (r:V→List V→Hp→VK→Prop):Prop :=
 ∀ (pins:List (Addr×Obj)) (s:Shared) (σ:St) (H:Hp) (x:V) (xs:List V) (v:Value) (us:List Value) (Q:VK),Inv X pins σ H s→aQ x v→Vals xs us→r x xs H Q →
  wpAny (model X.prog X.w) X.A (call (.builtin id) (v::us)) (EP X pins σ Q) X.xe s
section
variable {X:Cx} {a b:Expr} {ta tb:TE} {pos:Pos}
theorem IxR.or {r r':R2} (h:IxR X r) (h':IxR X r'):IxR X (fun x y H Q=>r x y H Q∨r' x y H Q):=by
 intro value slice pins s σ H x y v u Q I rx ry q hs;rcases q with q | q
 ·exact h value slice pins s σ H x y v u Q I rx ry q hs
 ·exact h' value slice pins s σ H x y v u Q I rx ry q hs
theorem Bl {r:R2} (hr:IxR X r) (ha:PE X a ta) (hb:PE X b tb) (hs:qE b):PE X (.Subscript a b pos) (tOp r ta tb):=by
 intro pins s σ H Q I h;exact Subscript_ (zq ha hb I h fun v u s2 x y H2 I2 rx ry q=>hr a b pins s2 σ H2 x y v u Q I2 rx ry q (hs _ _))
noncomputable def xB (K:W.Frag):R2:=fun x y H Q=>∃ p xs i v,x=.ref p∧y=.int i∧SqL K H p xs∧atI xs i=some v∧Q v H
noncomputable def xC (K:W.Frag):R2:=fun x y H Q=>∃ p xs i v,x=.ref p∧y=.int i∧SqT K H p xs∧atI xs i=some v∧Q v H
noncomputable def Bp:R2:=fun x y H Q=>∃ z i c,x=.str z∧y=.int i∧z.length≤sizeLine∧atI z.cps.toList i=some c∧Q (.str ⟨#[c]⟩) H
theorem qV:IxR X (xB X.K):=by
  intro value slice pins s σ H x y v u Q I rx ry h hs;obtain ⟨p,xs,i,z,rfl,rfl,hq,he,q⟩:=h
  cases rx;obtain ⟨t,rfl⟩:=ry;obtain ⟨its,r,pl,hz⟩:=I.list hq;obtain ⟨j,h1,h2,h3,h4,h5⟩:=lK he;obtain ⟨w,ew,rw'⟩:=r.get h2;have hl:=r.length;have hn:=me;have fin:EP X pins σ Q w s:=⟨z,H,I,rw',q⟩
  by_cases h0:0≤i
  · have hj:i.toNat=j:=by
      rw [seqIndex_of h0 h5] at h1;exact Option.some.inj h1
    exact item_listR pl.isList h0 (by omega) (by rw [hj]; simpa using ew) fin hs
  · have hj:(i+(its.toArray.size:Int)).toNat=j:=by
      rw [seqIndex_neg (by omega) h4] at h1;rw [List.size_toArray,← hl];exact Option.some.inj h1
    exact subscriptTail_builtinR (x:=w) pl.isList.typeIs slot_list_getitem.lookup
      (wpAny_getItem_list_neg (Q:=fun r s'=>r=w∧EP X pins σ Q r s') pl.isList (by omega) (by rw [List.size_toArray]<;>omega) (by omega) (by rw [hj]; simpa using ew) ⟨rfl,fin⟩) hs
theorem uq:IxR X (xC X.K):=by
 intro value slice pins s σ H x y v u Q I rx ry h hs;obtain ⟨p,xs,i,z,rfl,rfl,hq,he,q⟩:=h
 cases rx;obtain ⟨t,rfl⟩:=ry;obtain ⟨its,r,pl,hz⟩:=I.tuple hq;obtain ⟨j,h1,h2,h3,h4,h5⟩:=lK he;obtain ⟨w,ew,rw'⟩:=r.get h2;have hl:=r.length;have hn:=me;have fin:EP X pins σ Q w s:=⟨z,H,I,rw',q⟩
 exact subscriptTail_builtinR (x:=w) pl.typeIs slot_tuple_getitem.lookup
  (getItem_tuple (j:=j) (Q:=fun r s'=>r=w∧EP X pins σ Q r s') pl (by omega) (by omega) (by rw [List.size_toArray,← hl]; exact h1) (by simpa using ew) ⟨rfl,fin⟩) hs
theorem zP:IxR X Bp:=by
 intro value slice pins s σ H x y v u Q I rx ry h hs;obtain ⟨z,i,c,rfl,rfl,hz,he,q⟩:=h;obtain ⟨t,rfl⟩:=rx;obtain ⟨t',rfl⟩:=ry;obtain ⟨j,h1,h2,h3,h4,h5⟩:=lK he;have hl:z.cps.toList.length=z.length:=by simp [Str.length]
 rw [hl] at h1 h4 h5;have hn:=me;exact tail_any (typeIs_str s z t) slot_str_getitem.lookup (getItem_str (c:=c) (by
  have e1:decide (i < -(2 ^ 63:Int))=false:=decide_eq_false (by omega);have e2:decide (i≥2 ^ 63)=false:=decide_eq_false (by omega);rw [e1,e2,Bool.or_false]) (by rw [h1]; simpa using h2) ⟨.str ⟨#[c]⟩,H,I.tok _,⟨_,rfl⟩,q⟩) hs
noncomputable def rIx (K:W.Frag):R2:=fun x y H Q=>xB K x y H Q∨xC K x y H Q∨Bp x y H Q
theorem zO:IxR X (rIx X.K):=qV.or (uq.or zP)
theorem mO (lo hi:Option Int) (n:Nat):(sliceBounds lo hi none n).1=((HT.sIx n 0 lo:Nat):Int)∧(sliceBounds lo hi none n).2.1=((HT.sIx n n hi:Nat):Int)∧(sliceBounds lo hi none n).2.2=1:=by
 refine ⟨?_,?_,rfl⟩
 ·cases lo with
  | none => simp [sliceBounds, HT.sIx]
  | some i =>
   simp only [sliceBounds,HT.sIx,Option.getD_none,show (1:Int) > 0 by decide,if_true];by_cases h:i<0
   ·simp only [h,if_true]<;>omega
   ·simp only [h,if_false]<;>omega
 ·cases hi with
  | none => simp [sliceBounds, HT.sIx]
  | some i =>
   simp only [sliceBounds,HT.sIx,Option.getD_none,show (1:Int) > 0 by decide,if_true];by_cases h:i<0
   ·simp only [h,if_true]<;>omega
   ·simp only [h,if_false]<;>omega
theorem ku (its:List Value) (lo hi:Option Int):slicePick its.toArray lo hi none=((its.drop (HT.sIx its.length 0 lo)).take (HT.sIx its.length its.length hi - HT.sIx its.length 0 lo)).toArray:=by
 obtain ⟨h1,h2,h3⟩:=mO lo hi its.toArray.size;unfold slicePick;rw [h1,h2,h3];simp only [sliceRange_one,pick_run,List.size_toArray]<;>rfl
noncomputable def As (K:W.Frag):V→Option Int→Option Int→Hp→VK→Prop:=fun x lo hi H Q=>∃ a xs,x=.ref a∧SqL K H a xs∧∀ p,H p=none→Q (.ref p) (upd H p (.lst (gd xs lo hi)))
theorem yi:SlR X (As X.K):=by
 intro pins s σ H x v vl vu lo hi sl Q I rx hs pl pu h;obtain ⟨a,xs,rfl,hx,q⟩:=h
 cases rx;obtain ⟨its,r,ht,hz⟩:=I.list hx;have hlen:=r.length;refine ⟨"list",_,slot_list_getitem.lookup,ht.isList.typeIs,?_⟩;refine wpAny_getItem_list_slice ht.isList hs pl pu .none (by simp) ?_ (by rw [List.size_toArray]<;>omega);rw [ku,← hlen];refine ⟨.ref s.heap.objs.size,_,I.laid (t':=s.toks) (o:=.lst (gd xs lo hi)) (fun b ob q=>Heap.get?_push_of_some _ q) (Nat.le_refl _) ?_,rfl,q _ (I.hok.fresh (Nat.le_refl _))⟩;exact ⟨Nat.le_trans (iO xs lo hi) hz,_,0,(r.drop (HT.sIx xs.length 0 lo)).take (HT.sIx xs.length xs.length hi - HT.sIx xs.length 0 lo),Heap.get?_push_size _ rfl⟩
theorem lQ:bI X (.builtin "len") (fun xs H Q=>∃ p ys,xs=[.ref p]∧(SqL X.K H p ys∨SqT X.K H p ys)∧Q (.int ys.length) H):=by
 intro pins s σ H xs us Q I r h;obtain ⟨p,ys,rfl,hq,q⟩:=h;obtain ⟨u,rfl,rx⟩:=lD r
 cases rx;have hn:=me;rcases hq with hq | hq
 ·obtain ⟨its,r',pl,hz⟩:=I.list hq;have hlen:=r'.length;exact Calls.call_len_list pl.isList (by simp only [List.size_toArray]<;>omega) ⟨.int ys.length,H,I.tok _,⟨s.toks+1,by rw [List.size_toArray,hlen]⟩,q⟩
 ·obtain ⟨its,r',pl,hz⟩:=I.tuple hq;have hlen:=r'.length;exact len_tuple pl (by simp only [List.size_toArray]<;>omega) ⟨.int ys.length,H,I.tok _,⟨s.toks+1,by rw [List.size_toArray,hlen]⟩,q⟩
theorem lR:bI X (.type "list") (fun xs H Q=>∃ p ys,xs=[.ref p]∧(SqL X.K H p ys∨SqT X.K H p ys)∧∀ l,H l=none→Q (.ref l) (upd H l (.lst ys))):=by
  intro pins s σ H xs us Q I r h;obtain ⟨p,ys,rfl,hq,q⟩:=h;obtain ⟨u,rfl,rx⟩:=lD r
  cases rx;have fin:∀ (its:List Value),Vals ys its→ys.length≤sizeLine→∀ (h':Heap) (c':Nat),(∀ b o',s.heap.get? b=some o'→h'.get? b=some o') →
      h'.get? s.heap.objs.size=some { cls:=.type "list",dict:=none,data:=.seq its.toArray c',slots:=#[] }→EP X pins σ Q (.ref s.heap.objs.size) { s with heap:=h' }:=fun its r' hz h' c' kp e =>
    ⟨.ref s.heap.objs.size,_,I.laid (t':=s.toks) kp (Nat.le_refl _) (show bg X.prog X.w _ h' _ (.lst ys) from ⟨hz,its,c',r',e⟩),rfl,q _ (I.hok.fresh (Nat.le_refl _))⟩
  rcases hq with hq | hq
  · obtain ⟨its,r',pl,hz⟩:=I.list hq
    have hlen:=r'.length;obtain ⟨o,ho,hc,n,hd⟩:=pl.isList;exact call_list_seq p (.inl rfl) ho hc hd (fun h' c' kp e=>fin its r' hz h' c' kp e) (by simp only [List.size_toArray]<;>omega)
  · obtain ⟨its,r',pl,hz⟩:=I.tuple hq
    have hlen:=r'.length;obtain ⟨o,ho,hc,n,hd⟩:=pl;exact call_list_seq p (.inr rfl) ho hc hd (fun h' c' kp e=>fin its r' hz h' c' kp e) (by simp only [List.size_toArray]<;>omega)
theorem kg:bI X (.type "tuple") (fun xs H Q=>∃ p ys,xs=[.ref p]∧((SqL X.K H p ys∧∀ l,H l=none→Q (.ref l) (upd H l (.tup ys)))∨(SqT X.K H p ys∧Q (.ref p) H))):=by
 intro pins s σ H xs us Q I r h;obtain ⟨p,ys,rfl,h⟩:=h;obtain ⟨u,rfl,rx⟩:=lD r
 cases rx;rcases h with ⟨hq,q⟩ | ⟨hq,q⟩
 ·obtain ⟨its,r',pl,hz⟩:=I.list hq;have hlen:=r'.length;refine call_tuple_list pl.isList (fun h' kp=>?_) (by simp only [List.size_toArray]<;>omega);have I1:Inv X pins σ H { s with heap:=h' }:=I.kept (t':=s.toks) kp
  have I2:Inv X pins σ (upd H h'.objs.size (.tup ys)) { s with heap:=h'.push { cls:=.type "tuple",data:=.seq its.toArray } } :=
   I1.laid (t':=s.toks) (fun b o e=>Heap.get?_push_of_some _ e) (Nat.le_refl _) (show bg X.prog X.w _ _ _ (.tup ys) from ⟨hz,its,r',IsTup.new _ _⟩)
  exact ⟨.ref h'.objs.size,_,I2,rfl,q _ (I1.hok.fresh (Nat.le_refl _))⟩
 ·obtain ⟨its,r',pl,hz⟩:=I.tuple hq;exact call_tuple_same pl ⟨.ref p,H,I,rfl,q⟩
noncomputable def tyV (K:W.Frag) (T:String) (x:V) (H:Hp):Prop:=match x with
  | .str _ => T = "str"
  | .int _ => T = "int"
  | .ref p => (T = "list" ∧ ∃ xs, SqL K H p xs) ∨ (T = "tuple" ∧ ∃ o, K.lookup p = some o ∧ o.cls = .type "tuple" ∧ o.dict = none) ∨
      (T="dict"∧((∃ kvs,H p=some (.dK kvs))∨∃ kvs,H p=some (.dT kvs)))∨(T="set"∧∃ S n,H p=some (.set S n))
  | _ => False
theorem AZ {pins:List (Addr×Obj)} {σ:St} {H:Hp} {s:Shared} {T:String} {x:V} {v:Value} (I:Inv X pins σ H s) (r:aQ x v) (ty:tyV X.K T x H) :
    s.TypeIs v T∧∀ a,v=.ref a→∃ ob,s.heap.get? a=some ob∧ob.dict=none:=by
  cases x with
  | str z =>
    obtain ⟨t,rfl⟩:=r
    cases (show T="str" from ty)
    exact ⟨typeIs_str s z t,fun _ e=>nomatch e⟩
  | int i =>
    obtain ⟨t,rfl⟩:=r
    cases (show T="int" from ty)
    exact ⟨typeIs_int s i t,fun _ e=>nomatch e⟩
  | ref p =>
    cases r;rcases ty with ⟨rfl,xs,hq⟩ | ⟨rfl,o,hk,hc,hd⟩ | ⟨rfl,hk⟩ | ⟨rfl,S,n,hk⟩
    · obtain ⟨its,_,pl,_⟩:=I.list hq
      refine ⟨pl.isList.typeIs,fun a e=>?_⟩
      cases e;obtain ⟨o,n,e,c,hd,_⟩:=pl;exact ⟨o,e,hd⟩
    · refine ⟨⟨o,I.kIn p o hk,hc⟩,fun a e=>?_⟩
      cases e;exact ⟨o,I.kIn _ o hk,hd⟩
    · have z:∃ o,s.heap.get? p=some o∧o.ExactDict:=by
        rcases hk with ⟨kvs,hk⟩ | ⟨kvs,hk⟩
        · obtain ⟨_,_,_,_,o,_,_,e,ex,_⟩:=I.hok p _ hk
          exact ⟨o,e,ex⟩
        · obtain ⟨_,_,_,_,o,_,_,e,ex,_⟩:=I.hok p _ hk
          exact ⟨o,e,ex⟩
      obtain ⟨o,e,ex⟩:=z;refine ⟨⟨o,e,ex.1⟩,fun a e2=>?_⟩
      cases e2;exact ⟨o,e,ex.2.1⟩
    · obtain ⟨o,_,_,_,e,ex,_⟩:=I.hok p _ hk
      refine ⟨⟨o,e,ex.1⟩,fun a e2=>?_⟩
      cases e2;exact ⟨o,e,ex.2.1⟩
  | _ => exact False.elim ty
noncomputable def tBM (K:W.Frag) (T:String) (r:V→List V→Hp→VK→Prop) (to:TE) (t:TA):TE:=fun σ H Q=>to σ H fun x H1=>tyV K T x H1∧t σ H1 fun xs H2=>r x xs H2 Q
variable {o e:Expr} {es:List Expr} {to:TE} {t:TA} {name:Str} {apos cpos:Pos} {T id:String} {r:V→List V→Hp→VK→Prop}
theorem cT (pa:PlainAttrs T) (slot:Slot T name id) (hty:typeOf (.builtin id)=pure (.type "method_descriptor")) (hm:MtR X id r) (ho:PE X o to) (ha:PA X (e::es) t)
  (hbase:attributeBase o name X.env (eval o X.env)=eval o X.env:=by rfl)
  (hfew:((backTo cpos (starEach (e::es) X.env)).all (fun x=>!x.1)&&(backToKw cpos (keywordEach [] X.env)).all (fun x=>x.1.isSome)
   && decide ((e::es).length+([]:List Keyword).length+(if ([]:List Keyword).isEmpty then 0 else 1)<30))=true:=by rfl)
  (hline:(apos.endLine==cpos.line)=true:=by rfl) (hs:starEach (e::es) X.env=(false,eval e X.env)::starEach es X.env:=by rfl) (hplain:(backTo cpos (starEach es X.env)).any (·.1)=false:=by rfl) :
  PE X (.Call (.Attribute o name apos) (e::es) [] cpos) (tBM X.K T r to t):=by
 intro pins s σ H Q I h;refine wpAny_Call_method_late hbase hfew hline rfl (thn (ho pins s σ H _ I h) fun v s1 ⟨x,H1,I1,r1,ty,q1⟩=>?_);obtain ⟨h1,h2⟩:=AZ I1 r1 ty;refine ⟨T,id,pa,slot,hty,h1,h2,?_⟩;have hA:=ha cpos pins s1 σ H1 _ I1 q1;rw [hs] at hA ⊢;refine Calls.callWith_builtin (by show (false||(backTo cpos (starEach es X.env)).any (·.1))=false; rw [hplain]<;>rfl) (Calls.evalArgs_plain ?_);exact thn hA fun us s2 ⟨vs,H2,I2,r2,q2⟩=>hm pins s2 σ H2 x vs v us Q I2 r1 r2 q2
/- xs.append(e),list.index on a module's tuple .. are MtR facts of 06m -/
end
noncomputable def MtM (X:Cx) (id:String) (r:V→List V→Hp→VK→Prop):Prop :=
 ∀ (pins:List (Addr×Obj)) (s:Shared) (σ:St) (H:Hp) (x:V) (xs:List V) (v:Value) (us:List Value) (Q:VK),Inv X pins σ H s→aQ x v→Vals xs us→r x xs H Q →
  wpAny (model X.prog X.w) X.A (call (.builtin id) (v::us)) (EP X pins σ Q) X.xe s
theorem Vals.one:∀ {x:V} {us:List Value},Vals [x] us→∃ u,us=[u]∧aQ x u
 | _,_,.cons r .nil=>⟨_,rfl,r⟩
theorem Vals.two:∀ {x y:V} {us:List Value},Vals [x,y] us→∃ u v,us=[u,v]∧aQ x u∧aQ y v
 | _,_,_,.cons r (.cons q .nil)=>⟨_,_,rfl,r,q⟩
section
variable {X:Cx} {pins:List (Addr×Obj)} {σ:St} {H:Hp} {s:Shared} {l b:Addr} {xs ys zs:List V}
theorem Inv.lset {its its':List Value} {n:Nat} {f:Array Value→Array Value} {t':Nat} (I:Inv X pins σ H s) (hH:H l=some (.lst xs))
  (e:s.heap.get? l=some { cls:=.type "list",data:=.seq its.toArray n }) (hf:f its.toArray=its'.toArray) (hv:Vals ys its') (hz:ys.length≤sizeLine) :
  Inv X pins σ (upd H l (.lst ys)) { s with heap:=s.heap.update l (Obj.mapSeq f),toks:=t' }:=by
 have q:=PySem.IsL.update e f;rw [hf] at q;refine I.write (x:=l) (e:=l) (by rw [hH]; exact trivial) (.inl rfl) (fun b' u hb hu=>(Heap.get?_update_other s.heap (Obj.mapSeq f) (Ne.symm hb)).trans hu) ⟨_,q⟩ ?_;exact ⟨hz,its',_,hv,q⟩
theorem Inv.lstM (I:Inv X pins σ H s) (hH:H l=some (.lst xs)):xs.length≤sizeLine∧∃ (its:List Value) (n:Nat),Vals xs its∧xs.length=its.length∧s.heap.get? l=some { cls:=.type "list",data:=.seq its.toArray n }:=by
 obtain ⟨z,its,n,r,e⟩:=I.hok l _ hH;exact ⟨z,its,n,r,r.length,e⟩
end
section
variable {X:Cx}
noncomputable def rm:V→List V→Hp→VK→Prop:=fun x vs H Q=>∃ l xs y,x=.ref l∧vs=[y]∧H l=some (.lst xs)∧xs.length<sizeLine∧Q .non (upd H l (.lst (xs++[y])))
theorem aV:MtM X "list.append" rm:=by
 intro pins s σ H x vs v us Q I rx rv h;obtain ⟨l,xs,y,rfl,rfl,hH,hz,q⟩:=h
 cases rx;obtain ⟨u,rfl,ru⟩:=rv.one;obtain ⟨z,its,n,r,hl,e⟩:=I.lstM hH;refine call_meets F.slot_list_append ⟨_,e,rfl⟩ F.entry_list_append (F.args_list_append_2 _ _) (PySem.list_append l its.toArray n u (by rw [List.size_toArray]; omega)) ⟨e,?_⟩;refine ⟨.non,_,I.lset (its':=its++[u]) hH e (by simp) (r.append (.cons ru .nil)) ?_,rfl,q⟩;rw [List.length_append,List.length_singleton];omega
end
section
variable {prog:Program} {w:World} {A:Around} {E:Value→Shared→Prop} {s:Shared}
set_option maxRecDepth 100000 in
end
end L2
namespace Att
open PySem PySem.W PySem.Calls PyProof.Rows
theorem iX {P:Params} {h:Heap}:∀ (ns:List Int) (vs:List Value),WellAll P h vs (ns.map WData.int)→IntsAre vs ns:=by
 intro ns
 induction ns with
 | nil =>
  intro vs w;rw [List.map_nil] at w
  cases w;exact .nil
 | cons n ns ih =>
  intro vs w;rw [List.map_cons] at w
  cases w with
  | cons a b =>
   cases a;exact .cons _ _ (ih _ b)
theorem sW {l:OpenLaw} {n:Nat} (hn:l.most=some n) {P:Params} {h:Heap} {args:List WData} {vals:List Value}
  (hpre:l.row.toRowW.claim.pre args=true) (hwl:WellAll P h vals args) :
  ∃ a vs ns,vals=[Value.ref a]∧args=[WData.list (ns.map WData.int)]∧h.get? a=some { cls:=.type "list",data:=.seq vs.toArray }∧IntsAre vs ns∧ns.length≤n:=by
 have hsh:WShape.hasAll [] args [.list .int]=true:=(pre_splitW hpre).1;have hc:l.pre.holds [] { args:=args }=true:=(pre_splitW hpre).2;obtain ⟨d,r,rfl,h1,h2⟩:=hasAllW_cons hsh;obtain rfl:=hasAllW_nil h2
 obtain ⟨xs,rfl,h3⟩:=hasW_list h1;obtain ⟨ns,rfl⟩:=items_int h3
 have hlen:ns.length≤n:=by
  unfold OpenLaw.pre at hc
  have h4:(WTm.not (.lt (.lit (.int (n:Int))) (.len (.arg 0)))).holds [] { args:=[.list (ns.map .int)] }=true:=by
   have h4:=(holds_andW hc).1;rw [hn] at h4;exact h4
  have h5:=condW_of h4 (w_not (w_lt w_lit (w_len_list (w_arg rfl))));rw [List.length_map] at h5;refine Nat.le_of_not_lt fun q=>?_;have q':(n:Int)<((ns.length:Nat):Int):=by omega
  first
   | (rw [decide_eq_true q'] at h5; exact absurd h5 (by decide))
   | (simp at h5; omega)
 cases hwl with
 | cons w1 w2 =>
  cases w2
  cases w1 with
  | list ho hall => exact ⟨_, _, ns, rfl, rfl, ho, iX ns _ hall, hlen⟩
theorem sM (l:OpenLaw) (args:List WData):l.row.toRowW.claim.post args (.bool true) args=true :=
 postW_of (r:=l.row.toRowW) (X:=(true==true))
  (show WShape.has [] (.bool true) .bool=true by first | rfl | decide | simp [WShape.has,WShape.arms,WShape.armsAll])
  (show (WTm.eq .res (.lit (.bool true))).value [] { args:=args,res:=some (.bool true),after:=args }=some (.bool (true==true)) from w_eq_bool (w_res rfl) w_lit) rfl
theorem nh {l:OpenLaw} {n:Nat} {q:Program} {loose:List Str} {XP:(Str→Option Value)→Heap→Prop} {YP:World→Heap→Prop} {d:DefRec}
  (hn:l.most=some n) (hdf:d.params.defaults=[])
  (call:∀ (w:World) (s₀ s₁:Shared) (mg mb:Str→Option Value) (fa:Addr) (o:Obj) (pm cd doc:Value) (a:Addr) (vs:List Value) (ns:List Int),
   Ground q loose [] XP w s₀ mg mb s₁.heap→YP w s₁.heap →
   s₁.heap.get? fa=some o→o.data=.func (docDef d.name d.params d.body d.scope pm cd doc)→s₁.heap.CodeRec cd d.name→mg d.name=some (.ref fa) →
   s₁.heap.get? a=some { cls:=.type "list",data:=.seq vs.toArray }→IntsAre vs ns→ns.length≤n→s₁.gens=#[] →
   codeAny (model l.prog w) callerA (.call (.ref fa) ⟨[.ref a],[]⟩) (fun r s'=>r=.ok (.ret (.bool true))∧OldK s₁.heap s'.heap∧s'.os=s₁.os∧AllBare s'.gens) s₁) :
  WalkO q loose XP YP l.row.toRowW d [] (fun f vs=>PySem.call f vs):=by
 intro w s₀ s₁ mg mb G Y fa o pm cd doc dV kV ho hd hcd hD hmg hg args vals as hpre hlay hrd hwl hlo;obtain rfl:dV=.none:=Dflts.none hD hdf
 obtain rfl:kV=.none:=Dflts.noKw hD
 obtain ⟨a,vs,ns,rfl,rfl,hobj,hints,hlen⟩:=sW hn hpre hwl;refine enter_call (codeAny_mono (call w s₀ s₁ mg mb fa o pm cd doc a vs ns G Y ho (fd_plain hd) hcd hmg hobj hints hlen hg) fun r s' hq=>?_);obtain ⟨rfl,h2,h3,h4⟩:=hq;exact ⟨.inl ⟨.bool true,.bool true,[],rfl,fun _=>rfl,.bool true,sM l _,fun _=>⟨List.Pairwise.nil,fun _ hm=>(nomatch hm)⟩⟩,h2,h3,h4⟩
section
variable {prog:Program} {w:World} {A:Around} {E:Value→Shared→Prop} {s:Shared} {K:Frag}
noncomputable def B3 (h:Heap) (L d:Addr):List (Addr×Obj):=(List.range h.objs.size).filterMap fun a=>if a=L∨a=d then none else (h.get? a).map fun o=>(a,o)
end
end Att
namespace L2
open PySem PySem.Spec PyProof.Rows
theorem lF:∀ {vs:List Value} {ns:List Int},IntsAre vs ns→Vals (ns.map V.int) vs
 | _,_,.nil=>.nil
 | _,_,.cons n t h=>.cons ⟨t,rfl⟩ (lF h)
noncomputable def wH (H:Hp):Prop:=∀ b,H b=none∨∃ o xs,H b=some (.frz o (.lst xs))
theorem uy {P:Program} {w:World} {K:W.Frag} {mg mb:Str→Option Value} {CX:CXT} {k:Nat} {fa a:Addr} {fd:FuncData} {x:Str} {sp:Sp} {s₁:Shared} {vs:List Value} {ns:List Int}
    (KX:K.In s₁.heap) (hns:s₁.heap.Ns mainGlobals mg) (hb:s₁.heap.Ns builtinsNs mb) (hbb:∀ x:Str,x≠"__name__"→mb x=bootBuiltins x) (hlim:s₁.heap.NoLimit) (hg:s₁.gens=#[])
    (ha:s₁.heap.get? a=some { cls:=.type "list",data:=.seq vs.toArray }) (hi:IntsAre vs ns) (hl:ns.length≤sizeLine) (hr:b7 k callerA)
    (F:∀ base:Heap,K.In base→base.Ns mainGlobals mg→a7 P w K mg base CX k fa fd [x] sp) (hbind:∀ (s:Shared) (u:Value),BindsTo s fd ⟨[u],[]⟩ [(x,u)])
    (hsp:∀ H:Hp,wH H→SqL K H a (ns.map V.int)→sp [.ref a] H (fun v _=>v=.bl true) fun _ _ _=>False)
    (hCX:∀ H e s',CX [] H s₁ (fun _ _ _=>False) e s'→False) :
    codeAny (model P w) callerA (.call (.ref fa) ⟨[.ref a],[]⟩) (fun r s'=>r=.ok (.ret (.bool true))∧OldK s₁.heap s'.heap∧s'.os=s₁.os∧AllBare s'.gens) s₁:=by
  have rv:=lF hi;have lenV:=hi.length
  -- from an abstract heap in which nothing but the script may be tracked
  have core:∀ H:Hp,wH H→SqL K H a (ns.map V.int)→HOk P w H s₁.heap→(∀ b,H b≠none→b=a)→(H a≠none→K.lookup a=none) →
      codeAny (model P w) callerA (.call (.ref fa) ⟨[.ref a],[]⟩) (fun r s'=>r=.ok (.ret (.bool true))∧OldK s₁.heap s'.heap∧s'.os=s₁.os∧AllBare s'.gens) s₁:=by
    intro H hO hS hok hA hK;have base_of:∀ {b:Addr} {o:Obj},s₁.heap.get? b=some o→H b=none→(l7 s₁.heap H).get? b=some o:=fun e n=>uj e n;have noA:∀ {b:Addr} {o:Obj} {es:Array DictEntry} {ep:Nat},s₁.heap.get? b=some o→o.data=.dict es ep→H b=none:=fun {b o es ep} e d=>by
      cases q:H b with
      | none=>rfl
      | some u =>
        have e':b=a:=hA b (by rw [q]; simp);subst e';rw [ha] at e; cases e;have d':Data.seq vs.toArray _=Data.dict es ep:=d
        cases d'
    have nsK:∀ {b:Addr} {m:Str→Option Value},s₁.heap.Ns b m→(l7 s₁.heap H).Ns b m:=fun {b m} ⟨o,es,ep,e,d,r⟩=>⟨o,es,ep,base_of e (noA e d),d,r⟩
    have hKb:K.In (l7 s₁.heap H):=fun b o e=>base_of (KX b o e) (by
      cases q:H b with
      | none=>rfl
      | some u =>
        have e':b=a:=hA b (by rw [q]; simp);subst e';rw [hK (by rw [q]; simp)] at e; cases e)
    have hM:Mod K mg (l7 s₁.heap H):=⟨hKb,nsK hns,⟨mb,nsK hb,hbb⟩,let ⟨mc,h1,h2⟩:=hlim; ⟨mc,nsK h1,h2⟩⟩
    have e0:pq P w K mg (l7 s₁.heap H) callerA [] s₁ H:=⟨rfl,hM,fun b o e=>xl e,Nat.le_of_eq (rZ _ _),trivial,fun b hb=>absurd (show b∈([]:List Addr) from hb) (by simp),hok,.of_eq hg⟩
    refine codeAny_mono ((F _ hKb (nsK hns)).run callerA [] s₁ H ⟨[.ref a],[]⟩ [.ref a] [.ref a] _ _ hr e0 (hbind s₁ (.ref a)) (.cons rfl .nil) (hsp H hO hS)) fun r s' h=>?_
    cases r with
    | error e=>exact (hCX H e s' h).elim
    | ok fl =>
      cases fl with
      | next=>exact False.elim h
      | brk=>exact False.elim h
      | cont=>exact False.elim h
      | ret u =>
        obtain ⟨v,H',os,bare,un,hok',r',q⟩:=h;have q':v=.bl true:=q;subst q';obtain rfl:u=Value.bool true:=r'
        refine ⟨rfl,OldK.of_keep fun b o e=>?_,os,bare⟩
        cases q:H b with
        | none=>exact un.keep b o e q (by intro z; exact absurd (show b∈([]:List Addr) from z) (by simp)) (by simp)
        | some u =>
          rcases hO b with z | ⟨ob,xs,z⟩
          · rw [q] at z; cases z
          · have z2:=un.frzs b ob _ z
            obtain ⟨e1,_⟩:=hok b _ z;obtain ⟨e2,_⟩:=hok' b _ z2;rw [e] at e1; cases e1;exact e2
  cases hk:K.lookup a with
  | some o =>
    -- the script is one of the module's own objects
    have e:=KX a o hk;rw [ha] at e
    cases e;refine core (fun _=>none) (fun _=>.inl rfl) (.inr ⟨_,vs.toArray,_,hk,rfl,rfl,rfl,by rw [List.size_toArray,lenV]; exact hl,by simpa using rv⟩) (fun b u z=>by have z':(none:Option HO)=some u:=z; cases z') (fun b z=>absurd rfl z) fun z=>absurd rfl z
  | none =>
    refine core (fun b=>if b=a then some (.frz { cls:=.type "list",data:=.seq vs.toArray } (.lst (ns.map V.int))) else none) (fun b=>?_) (.inl (.inr ⟨{ cls:=.type "list",data:=.seq vs.toArray },if_pos rfl⟩)) (fun b u z=>?_) (fun b z=>?_) fun _=>hk
    · by_cases hb:b=a
      · exact .inr ⟨_,_,if_pos hb⟩
      · exact .inl (if_neg hb)
    · by_cases hb:b=a
      · have z':=(if_pos hb).symm.trans z
        cases z';subst hb;exact ⟨ha,by rw [List.length_map]; exact hl,vs,_,rv,ha⟩
      · have z':=(if_neg hb).symm.trans z
        cases z'
    · by_cases hb:b=a
      · exact hb
      · exact absurd (if_neg hb) z
noncomputable abbrev KOf {K:W.Frag} {h:Heap} (_:K.In h):W.Frag:=K
theorem walk_of {l:PySem.W.OpenLaw} {n k:Nat} {q:Program} {loose:List Str} {XP:(Str→Option Value)→Heap→Prop} {YP:World→Heap→Prop} {d:DefRec} {K:Params→W.Frag} {CX:World→CXT} {sp:World→Sp} {x:Str}
  (hn:l.most=some n) (hn2:n≤sizeLine) (hdf:d.params.defaults=[]) (hr:b7 k callerA)
  (hY:∀ (w:World) (h:Heap),YP w h→(K w.params).In h)
  (F:∀ (w:World) (mg:Str→Option Value) (fa:Addr) (h:Heap),(K w.params).In h→h.Ns mainGlobals mg→mg d.name=some (.ref fa) →
   ∃ fd:FuncData,(∀ (s:Shared) (u:Value),BindsTo s fd ⟨[u],[]⟩ [(x,u)]) ∧
    ∀ base:Heap,(K w.params).In base→base.Ns mainGlobals mg→a7 l.prog w (K w.params) mg base (CX w) k fa fd [x] (sp w))
  (hsp:∀ (w:World) (H:Hp) (a:Addr) (ns:List Int),ns.length≤n→wH H→SqL (K w.params) H a (ns.map V.int)→sp w [.ref a] H (fun v _=>v=.bl true) fun _ _ _=>False)
  (hCX:∀ (w:World) (H:Hp) (s:Shared) (e:Value) (s':Shared),CX w [] H s (fun _ _ _=>False) e s'→False) :
  PySem.W.WalkO q loose XP YP l.row.toRowW d [] (fun f vs=>PySem.call f vs):=by
 refine Att.nh hn hdf fun w s₀ s₁ mg mb fa o pm cd doc a vs ns G Y ho hd hcd hmg hobj hints hlen hg=>?_;have KX:=hY w _ Y;obtain ⟨fd,hb,hF⟩:=F w mg fa _ KX G.T.g hmg;exact uy KX G.T.g G.T.b G.T.builtins G.T.nolimit hg hobj hints (Nat.le_trans hlen hn2) hr hF hb (fun H hO hS=>hsp w H a ns hlen hO hS) fun H e s'=>hCX w H s₁ e s'
theorem walk_ofK {l:PySem.W.OpenLaw} {n k:Nat} {q:Program} {loose:List Str} {XP:(Str→Option Value)→Heap→Prop} {YP:World→Heap→Prop} {d:DefRec} {K:Params→W.Frag} {CX:CXT} {sp:W.Frag→Sp} {x:Str}
  (hn:l.most=some n) (hn2:n≤sizeLine) (hdf:d.params.defaults=[]) (hr:b7 k callerA)
  (hY:∀ (w:World) (h:Heap),YP w h→(K w.params).In h)
  (F:∀ (w:World) (mg:Str→Option Value) (fa:Addr) (h:Heap),(K w.params).In h→h.Ns mainGlobals mg→mg d.name=some (.ref fa) →
   ∃ fd:FuncData,(∀ (s:Shared) (u:Value),BindsTo s fd ⟨[u],[]⟩ [(x,u)]) ∧
    ∀ base:Heap,(K w.params).In base→base.Ns mainGlobals mg→a7 l.prog w (K w.params) mg base CX k fa fd [x] (sp (K w.params)))
  (hsp:∀ (K:W.Frag) (H:Hp) (a:Addr) (ns:List Int),ns.length≤n→wH H→SqL K H a (ns.map V.int)→sp K [.ref a] H (fun v _=>v=.bl true) fun _ _ _=>False)
  (hCX:∀ (H:Hp) (s:Shared) (e:Value) (s':Shared),CX [] H s (fun _ _ _=>False) e s'→False) :
  PySem.W.WalkO q loose XP YP l.row.toRowW d [] (fun f vs=>PySem.call f vs) :=
 walk_of (K:=K) (CX:=fun _=>CX) (sp:=fun w=>sp (K w.params)) hn hn2 hdf hr hY F (fun w H a ns h1 h2 h3=>hsp (K w.params) H a ns h1 h2 h3) fun _ H s e s'=>hCX H s e s'
end L2
/- THE LAST THEOREM (shape; LID,My.* are yours):
   My.Adr: a structure of the addresses that your layer names (classes,functions); My.Txt K t: a structure (Prop) of the equations over K;
   My.txt_mk:{K} {implicit addresses ..} (e1:nsIn K mainGlobals "law"=some (some (.ref f))) (e2:K.lookup f=some ⟨oc,od,.func (fnOf "law" "law" params body scope dV kV doc pm an cdv ct),sl⟩) (e3:codeIn K cdv "law"=true) ..:∃ t,My.Txt K t
set_option maxRecDepth 100000 in
set_option maxHeartbeats 0 in
theorem PySem.Challenge.cw_LID_holds : PySem.Challenge.rw_LID.Holds := by
 w_on; o_law; k_head; (case hw=>w_witness2)
 k_fill
 refine L2.walk_of (l:=PySem.Challenge.rw_LID) (n:=63) (k:=40) (x:="script") (CX:=fun w=>..) (sp:=fun _=>My.sp_law) rfl (by decide) rfl ⟨rfl,by decide,by decide⟩ (fun w h Y=>W.kIn_of Y) ?F ?S ?C
 case F =>
  intro w mg fa h KX G hmg
  have T:∃ t,My.Txt (L2.KOf KX) t:=by
   dsimp only [L2.KOf]                          -- K must stand as «<heap const> w.params» for k_is;refine' My.txt_mk ?e1 ?e2 ?e3 ..
   (case e1=>W.k_is)                    -- in the order: a name -> its address -> its object -> its parts
   (case e2=>W.k_is)
   ..
  obtain ⟨t,T⟩:=T;have e0:=hmg.symm.trans (W.mg_of KX G T.law)
  cases e0                                       -- fa is the law's own address
  exact ⟨_,fun s u=>.of_eq rfl,fun base kb nb=>My.law_fn T kb nb⟩     -- if «.of_eq rfl» comes too early: refine' ⟨_,?b,fun base kb nb=>My.law_fn T kb nb⟩; exact fun s u=>.of_eq rfl
 case S=>exact fun w H a ns hl hO hS=>..
 case C=>exact ..
(the tactic k_is has no namespace: write k_is) -/
namespace L2
open PySem PySem.Spec PyProof.Rows
noncomputable def dN (s:Stmt) (j:Nat):Stmt:=match s with
 | .ClassDef _ _ _ body _ _ _ _ _ _ _=>body.getD j (.Pass ⟨0,0,0,0⟩)
 | _=>.Pass ⟨0,0,0,0⟩
noncomputable def da (s:Stmt):Arguments:=match s with
 | .FunctionDef _ a _ _ _ _ _ _ _ _=>a
 | _=>{ posonlyargs:=[],args:=[],vararg:=none,kwonlyargs:=[],kw_defaults:=[],kwarg:=none,defaults:=[] }
noncomputable def cG (s:Stmt):List Stmt:=match s with
 | .FunctionDef _ _ b _ _ _ _ _ _ _=>b
 | _=>[]
noncomputable def ak (s:Stmt):Scope:=match s with
 | .FunctionDef _ _ _ _ _ _ sc _ _ _=>sc
 | _=>{ kind:=.function,names:=[],isGenerator:=false,isCoroutine:=false }
noncomputable abbrev CX0:CXT:=fun _ _ _ _ _ _=>False
noncomputable abbrev E0:XK:=fun _ _ _=>False
theorem aJ {X:Cx}:eS CX0 X E0:=fun _ _ _ _ _ _ _ h=>h.elim
structure Fun (K:W.Frag) (x qual:Str) (st:Stmt) (f:Addr) (fd:FuncData):Prop where
 ex:∃ (oc:Value) (od:Option Addr) (kV doc pm:Value) (an:Option Addr) (cdv ct:Value) (osl:Array (Option Value)),
  fd=W.fnOf x qual (da st) (cG st) (ak st) .none kV doc pm an cdv ct∧K.lookup f=some ⟨oc,od,.func fd,osl⟩∧W.codeIn K cdv qual=true
 kp:W.keepIn K (.ref f)=true
section
variable {P:Program} {w:World} {K:W.Frag} {mg:Str→Option Value} {base:Heap}
theorem Fun.ok {x qual:Str} {st:Stmt} {f:Addr} {fd:FuncData} {N ps:List Str} {k:Nat} {sp:Sp} (F:Fun K x qual st f fd) (S:aw N ps (ak st)) (len:∀ vs H Q E,sp vs H Q E→vs.length=ps.length)
  (hbody:∀ (cdv:Value) (A:Around) (outer:List Env) (s:Shared) (H:Hp) (vs:List V) (Q:VK) (E:XK),b7 k (A.deeper (envOfC qual (ak st) s.heap.objs.size f cdv))→sp vs H Q E →
   ∃ t,PSs (eG CX0 P w K mg base N qual (ak st) f cdv A outer s H E).nox (cG st) t∧t { nx:=fun _ H'=>Q .non H',rt:=Q } (start N vs) H):a7 P w K mg base CX0 (k+1) f fd ps sp:=by
 obtain ⟨oc,od,kV,doc,pm,an,cdv,ct,osl,rfl,lk,hcd⟩:=F.ex;refine yI lk hcd S len fun A outer s H vs Q E hr hsp=>?_;obtain ⟨t,h,q⟩:=hbody cdv A outer s H vs Q E hr hsp;exact ⟨t,h.nox,q⟩
theorem Fun.binds {x qual:Str} {st:Stmt} {f:Addr} {fd:FuncData} {ps:List Str} (F:Fun K x qual st f fd)
  (h:∀ (kV doc pm:Value) (an:Option Addr) (cdv ct:Value) (us:List Value),us.length=ps.length→bindArgs (W.fnOf x qual (da st) (cG st) (ak st) .none kV doc pm an cdv ct) ⟨us,[]⟩=pure (ps.zip us)):aL K fd ps []:=by
 obtain ⟨oc,od,kV,doc,pm,an,cdv,ct,osl,rfl,lk,hcd⟩:=F.ex;exact .all (h kV doc pm an cdv ct)
theorem fun_mk {x qual:Str} {st:Stmt} {f:Addr} {oc:Value} {od an:Option Addr} {osl:Array (Option Value)} {kV doc pm cdv ct:Value} (l:K.lookup f=some ⟨oc,od,.func (W.fnOf x qual (da st) (cG st) (ak st) .none kV doc pm an cdv ct),osl⟩)
  (c:W.codeIn K cdv qual=true) (k:W.keepIn K (.ref f)=true):Fun K x qual st f (W.fnOf x qual (da st) (cG st) (ak st) .none kV doc pm an cdv ct):=⟨⟨oc,od,kV,doc,pm,an,cdv,ct,osl,rfl,l,c⟩,k⟩
end
theorem fm {A:Around} {k:Nat} (hr:b7 k A):A.units+1<cLine:=Nat.lt_of_le_of_lt (Nat.add_le_add_left (by decide:1≤64) _) hr.units
theorem cx {n:Nat} (h:n≤1000):n<sizeLine:=Nat.lt_of_le_of_lt h (by decide)
section
variable {X:Cx}
theorem pv (i:Nat) {x:Str} {pos:Pos} (hN:X.N[i]?=some x:=by rfl) (hv:Vis X.env.scope x:=by first | exact Or.inl rfl | exact Or.inr (Or.inl rfl) | exact Or.inr (Or.inr rfl)) (hd:(x==("__debug__":Str))=false:=by decide)
  (hcd:(x==("__classdict__":Str))=false:=by decide):PE X (.Name x pos) (AY i):=Ak hN hv hd hcd
end
theorem B1 {A B:Prop} (h:B):if false=true then A else B:=by
 rw [if_neg Bool.false_ne_true];exact h
theorem pN {A B:Prop} (h:A):if true=true then A else B:=by
 rw [if_pos rfl];exact h
theorem iY {c A B:Prop} [Decidable c] (h1:c→A) (h2:¬ c→B):if c then A else B:=by
 by_cases h:c
 ·rw [if_pos h];exact h1 h
 ·rw [if_neg h];exact h2 h
noncomputable def ah (H H':Hp):Prop:=∀ b o,H b=some o→H' b=some o
theorem ah.refl (H:Hp):ah H H:=fun _ _ h=>h
theorem ah.trans {H H1 H2:Hp} (a:ah H H1) (b:ah H1 H2):ah H H2:=fun c o h=>b c o (a c o h)
theorem ah.free {H H':Hp} (e:ah H H') {l:Addr} (h:H' l=Option.none):H l=Option.none:=by
 cases q:H l with
 | none=>rfl
 | some o =>
  rw [e l o q] at h
  cases h
theorem ah.seq {K:W.Frag} {H H':Hp} {a:Addr} {xs:List V} (e:ah H H') (h:SqL K H a xs):SqL K H' a xs:=by
 rcases h with (h | ⟨o,h⟩) | h
 ·exact .inl (.inl (e _ _ h))
 ·exact .inl (.inr ⟨o,e _ _ h⟩)
 ·exact .inr h
noncomputable def ck (cells:List (Str×Addr)):List (Str×NameKind)→List (Str×Addr)→List (Str×Addr)
 | [],acc=>acc
 | (n,k)::r,acc=>ck cells r (if k==.free then (n,(cells.lookup n).getD 0)::acc else acc)
theorem gi {scope:Scope} {env:Env} (h:∀ x∈scope.names,x.2=.free→∃ c,env.cells.lookup x.1=some c):closureFor scope env=pure (ck env.cells scope.names []):=by
 unfold closureFor;generalize hn:scope.names=names at h ⊢;clear hn;generalize ([]:List (Str×Addr))=acc
 induction names generalizing acc with
 | nil=>simp [ck]
 | cons x r ih =>
  obtain ⟨n,k⟩:=x;have ih':=fun a=>ih (fun x hx=>h x (List.mem_cons_of_mem _ hx)) a;simp only [List.forIn_cons,bind_pure] at ih' ⊢;by_cases hk:k=.free
  ·obtain ⟨c,hc⟩:=h (n,k) List.mem_cons_self hk;subst hk;have hcl:cellOf env n=pure c:=by simp only [cellOf,hc]
   simp only [beq_self_eq_true,if_true,hcl,hc,pure_bind,ck,Option.getD_some]
   simpa using ih' _
  ·have hb:(k==NameKind.free)=false:=by simpa using hk
   simp only [hb,Bool.false_eq_true,if_false,pure_bind,ck]
   simpa using ih' _
theorem dM {cells:List (Str×Addr)} {y:Str} {c:Addr}:∀ {names:List (Str×NameKind)} {acc:List (Str×Addr)},(∀ x∈names,x.2=.free→∃ c,cells.lookup x.1=some c)→(acc.lookup y=some c→cells.lookup y=some c) →
  (ck cells names acc).lookup y=some c→cells.lookup y=some c
 | [],_,_,ha,e=>ha e
 | (n,k)::r,acc,h,ha,e=>by
  unfold ck at e;refine dM (names:=r) (fun x hx=>h x (List.mem_cons_of_mem _ hx)) (fun e'=>?_) e;by_cases hk:k=.free
  ·obtain ⟨d,hd⟩:=h (n,k) List.mem_cons_self hk;subst hk;simp only [beq_self_eq_true,if_true,hd,Option.getD_some,List.lookup_cons] at e'
   cases q:y==n with
   | true =>
    rw [q] at e';have:y=n:=by simpa using q
    subst this;exact hd.trans e'
   | false=>rw [q] at e'; exact ha e'
  ·have hb:(k==NameKind.free)=false:=by simpa using hk
   simp only [hb,Bool.false_eq_true,if_false] at e';exact ha e'
theorem gn {cells:List (Str×Addr)} {y:Str}:∀ {names:List (Str×NameKind)} {acc:List (Str×Addr)},((y,NameKind.free)∈names∨∃ c,acc.lookup y=some c)→∃ c,(ck cells names acc).lookup y=some c
 | [],_,h=>by simpa [ck] using h
 | (n,k)::r,acc,h=>by
  unfold ck;refine gn (names:=r) ?_;rcases h with h | ⟨c,h⟩
  ·rcases List.mem_cons.mp h with e | e
   ·cases e;right
    simp
   ·exact .inl e
  ·right
   by_cases hk:(k==NameKind.free)=true
   ·rw [if_pos hk,List.lookup_cons]
    cases y==n
    ·exact ⟨c,h⟩
    ·exact ⟨_,rfl⟩
   ·rw [if_neg hk];exact ⟨c,h⟩
noncomputable def PTs (X:Cx) (ifs:List Expr) (t:TT):Prop :=
 ∀ (pins:List (Addr×Obj)) (s:Shared) (σ:St) (H:Hp) (Q:Bool→Hp→Prop),Inv X pins σ H s→t σ H Q →
  wpAny (model X.prog X.w) X.A (forIn ifs true fun c r=>if r=true then do let ok ← isTrue c X.env (eval c X.env); pure (ForInStep.yield ok) else pure (ForInStep.yield r)) (TP X pins σ Q) X.xe s
noncomputable def j7:TT:=fun _ H Q=>Q true H
theorem hV {X:Cx}:PTs X [] j7:=fun _ _ _ H _ I h=>wpAny_tests_nil ⟨H,I,h⟩
theorem mr {X:Cx} {c:Expr} {t:TT} (h:PT X c t):PTs X [c] t:=fun pins s σ H Q I hw=>wpAny_tests_one (h pins s σ H Q I hw)
noncomputable def Cx.block (X:Cx) (scope:Scope) (N:List Str) (s:Shared) (H:Hp) (fp:List Addr):Cx where
 prog:=X.prog
 w:=X.w
 K:=X.K
 mg:=X.mg
 base:=X.base
 A:=X.A
 N:=N
 s₀:=s
 H₀:=H
 env:=compEnvC scope (ck X.env.cells scope.names []) s.heap.objs.size X.env
 outer:=X.stack
 stack:=X.stack
 ex:=fp
 fn:=fun _=>false
 calm:=X.calm
 pn:=[]
 xe:=fun _ _=>False
noncomputable def uo:Option NameKind→Bool
 | some .cell=>true
 | some .free=>true
 | _=>false
theorem jG {k:Option NameKind} (h:uo k=true):k=some .cell∨k=some .free:=by
 unfold uo at h
 split at h
 ·exact .inl rfl
 ·exact .inr rfl
 ·cases h
structure dq (X:Cx) (scope:Scope) (N:List Str) (cap:List (Option Nat)):Prop where
 kind:scope.kind=.function
 nocell:(scope.names.all fun y=>!(y.2==.cell))=true
 loc:(scope.names.all fun y=>!(y.2==.local)||(scope.names.lookup y.1==some .local))=true
 fre:(scope.names.all fun y=>!(y.2==.free)||uo (X.env.kindOf y.1))=true
 len:cap.length=N.length
 cap:((cap.zip N).all fun p=>match p.1 with | none=>true | some j=>(X.N[j]?==some p.2)&&uo (X.env.kindOf p.2)&&uo ((relabel scope X.env).names.lookup p.2))=true
noncomputable def dY (cap:List (Option Nat)) (σ:St):St:=cap.map fun o=>match o with | none=>none | some j=>(σ[j]?).join
section
variable {X:Cx} {pins:List (Addr×Obj)} {σ:St} {H:Hp} {s:Shared} {fp:List Addr} {scope:Scope} {N:List Str} {cap:List (Option Nat)}
theorem dq.freeH (c:dq X scope N cap) (ok:X.Ok):∀ x∈scope.names,x.2=.free→∃ a,X.env.cells.lookup x.1=some a:=fun x hx hf=>by
 have:=List.all_eq_true.mp c.fre x hx
 rw [hf] at this;simp only [beq_self_eq_true,Bool.not_true,Bool.false_or] at this;exact ok.has x.1 (jG this)
theorem h9 {scope:Scope} {env:Env} {y:Str} (h:(relabel scope env).names.lookup y=some .cell∨(relabel scope env).names.lookup y=some .free) (nc:∀ z∈scope.names,z.2≠.cell):(y,NameKind.free)∈scope.names:=by
 unfold relabel at h;dsimp only at h;generalize scope.names=names at h nc
 induction names with
 | nil=>simp at h
 | cons z r ih =>
  obtain ⟨n,k⟩:=z;have nc':∀ z∈r,z.2≠.cell:=fun z hz=>nc z (List.mem_cons_of_mem _ hz);rw [List.map_cons,List.lookup_cons] at h;have nck:=nc (n,k) List.mem_cons_self;dsimp only at h nck;by_cases hc:(k==NameKind.free&&env.scope.kind==.function&&env.kindOf n==some .cell)=true
  ·rw [if_pos hc] at h;dsimp only at h
   have hk:k=.free:=by
    simp only [Bool.and_eq_true,beq_iff_eq] at hc;exact hc.1.1
   cases q:y==n with
   | true=>rw [show y=n from by simpa using q,hk]; exact List.mem_cons_self
   | false=>rw [q] at h; exact List.mem_cons_of_mem _ (ih h nc')
  ·rw [if_neg hc] at h;dsimp only at h
   cases q:y==n with
   | true =>
    rw [q] at h;rcases h with h | h
    ·cases h; exact absurd rfl nck
    ·cases h; rw [show y=n from by simpa using q]; exact List.mem_cons_self
   | false=>rw [q] at h; exact List.mem_cons_of_mem _ (ih h nc')
theorem dq.nc (c:dq X scope N cap):∀ z∈scope.names,z.2≠.cell:=fun z hz e=>by
 have:=List.all_eq_true.mp c.nocell z hz
 rw [e] at this;exact absurd this (by decide)
theorem dq.lc (c:dq X scope N cap):∀ x∈scope.names,x.2=.local→scope.names.lookup x.1=some .local:=fun x hx e=>by
 have:=List.all_eq_true.mp c.loc x hx
 rw [e] at this
 simpa using this
theorem tQ (c:dq X scope N cap) (I:Inv X pins σ H s) (hf:∀ b∈fp,f9 X pins H b) (hlt:∀ b∈fp,b<s.heap.objs.size):(X.block scope N s H fp).Ok:=by
 have lk:∀ {y:Str} {a:Addr},(ck X.env.cells scope.names []).lookup y=some a→X.env.cells.lookup y=some a:=fun e=>dM (c.freeH I.ok) (fun z=>by simp at z) e;refine ⟨I.ok.mod,c.kind,I.ok.glob,I.ok.blt,Nat.le_refl _,fun x y a h1 h2=>I.ok.inj x y a (lk h1) (lk h2),fun x hx=>gn (.inl (h9 hx c.nc)),fun x a h=>absurd h (by simp [Cx.block]),I.ok.hd,I.ok.frames,.inl rfl,fun b hb=>⟨?_,fun x a h=>(hf b hb).2.2.2.2.1 x a (lk h)⟩,I.bs,Nat.le_trans I.ok.bsz I.sz,fun b o e hb=>?_,fun b hb z=>?_,I.stack,I.stkFree⟩
 ·exact Nat.ne_of_lt (hlt b hb)
 ·rcases (hf b hb).2.2.2.1 with z | z
  ·exact I.ok.noex b o e z
  ·exact absurd (Nat.lt_of_lt_of_le (Heap.lt_size (I.ok.bs b o e).1) z) (Nat.lt_irrefl _)
 ·rcases List.mem_cons.mp (I.stkSub b z) with e | e
  ·exact (hf b hb).2.1 e
  ·exact (hf b hb).2.2.1 e
theorem tY {i:Nat} {v:V} (h:(dY cap σ)[i]?=some (some v)):∃ j,cap[i]?=some (some j)∧σ[j]?=some (some v):=by
 unfold dY at h;rw [List.getElem?_map] at h
 cases q:cap[i]? with
 | none=>rw [q] at h; cases h
 | some o =>
  rw [q] at h
  cases o with
  | none => cases h
  | some j =>
   refine ⟨j,rfl,?_⟩;have h':(σ[j]?).join=some v:=Option.some.inj h
   cases q2:σ[j]? with
   | none=>rw [q2] at h'; cases h'
   | some o =>
    rw [q2] at h';have:o=some v:=h'
    rw [this]
theorem rL (c:dq X scope N cap) (I:Inv X pins σ H s) (hf:∀ b∈fp,f9 X pins H b) (hlt:∀ b∈fp,b<s.heap.objs.size) {h1:Heap} {t1:Nat} (hns:h1.Ns s.heap.objs.size (fun x=>([]:List (Str×Value)).reverse.lookup x))
  (hsb:Heap.SameBut s.heap.objs.size (s.heap.push { cls:=.type (if (some X.env:Option Env).isSome then "dict" else "frame"),data:=.dict #[] }) h1):Inv (X.block scope N s H fp) [] (dY cap σ) H { s with heap:=h1,toks:=t1 }:=by
 have lk:∀ {y:Str} {a:Addr},(ck X.env.cells scope.names []).lookup y=some a→X.env.cells.lookup y=some a:=fun e=>dM (c.freeH I.ok) (fun z=>by simp at z) e;have keep:∀ b o,s.heap.get? b=some o→h1.get? b=some o:=fun b o e=>(hsb.2 b (Nat.ne_of_lt (Heap.lt_size e))).trans (Heap.get?_push_of_some _ e);have cellK:∀ {a:Addr} {v:Option Value},s.heap.IsCell a v→h1.IsCell a v:=fun ⟨o,e,d⟩=>⟨o,keep _ _ e,d⟩
 refine ⟨tQ c I hf hlt,rfl,I.bare,Un.kept keep,⟨_,hns,fun i x v h1 h2 h3=>?_⟩,fun x a e=>?_,I.hok.fresh (Nat.le_refl _),fun x a e=>I.freeC x a (lk e),fun p hp=>absurd (show p∈([]:List (Addr×Obj)) from hp) (by simp),I.hok.kept keep,?_⟩
 ·obtain ⟨j,hc,hs⟩:=tY h2;have hN:N[i]?=some x:=h1;have hz:(cap.zip N)[i]?=some (some j,x):=by rw [List.getElem?_zip_eq_some]; exact ⟨hc,hN⟩
  have:=List.all_eq_true.mp c.cap _ (List.mem_of_getElem? hz)
  simp only [Bool.and_eq_true,beq_iff_eq] at this;obtain ⟨⟨e1,e2⟩,e3⟩:=this;obtain ⟨m,hn,hl⟩:=I.loc;have hk:=jG e2;obtain ⟨u,r,l⟩:=hl j x v e1 hs (by rcases hk with z | z; exact .inr (.inl z); exact .inr (.inr z));refine ⟨u,r,?_⟩;rcases l with ⟨l,_⟩ | ⟨_,a,ea,ca⟩
  ·rw [l] at hk; rcases hk with z | z<;>cases z
  ·have hk':=jG e3;obtain ⟨a',ha'⟩:=gn (cells:=X.env.cells) (acc:=[]) (.inl (h9 hk' c.nc));have:a'=a:=Option.some.inj ((lk ha').symm.trans ea)
   subst this;exact .inr ⟨hk',a',ha',cellK ca⟩
 ·obtain ⟨v,hv⟩:=I.cell x a (lk e);exact ⟨v,cellK hv⟩
 ·unfold dY;rw [List.length_map];exact c.len
end
theorem ny {prog:Program} {w:World} {A:Around} {R:Result→Shared→Prop} {s:Shared} {elt target iter:Expr} {ifs:List Expr} {scope:Scope} {pos:Pos} {it acc:Value} {env:Env} (J:Nat→Shared→Prop)
    (turn:∀ n s,J n s→wpAny (model prog w) A (pyNext it) (fun r s₁=>match r with
      | none=>R (.ok .next) s₁
      | some v=>wpAny (model prog w) A (letOwnedTupleGo target it v) (fun _ s₀=>wpAny (model prog w) A (assign target env v) (fun _ s₂ =>
          wpAny (model prog w) A (forIn ifs true fun c r=>if r=true then do let ok ← isTrue c env (eval c env); pure (ForInStep.yield ok) else pure (ForInStep.yield r)) (fun ok s₃ =>
            if ok=true then wpAny (model prog w) A (eval elt env) (fun x s₄ =>
              wpAny (model prog w) A (call (.builtin "list.append") [acc,x]) (fun _ s₅=>∃ m,m<n∧J m s₅) (fun _ _=>False) s₄) (fun _ _=>False) s₃
            else ∃ m,m<n∧J m s₃) (fun _ _=>False) s₂) (fun _ _=>False) s₀) (fun _ _=>False) s₁) (fun _ _=>False) s)
    (n:Nat) (h:J n s) :
    codeAny (model prog w) A (.compLoop (.ListComp elt [⟨target,iter,ifs,0⟩] scope pos) 0 it acc env) R s:=by
  refine codeAny_loop rfl J (fun n s hI=>?_) n h
  show wpAny _ A ((compTurn (.ListComp elt [⟨target,iter,ifs,0⟩] scope pos) 0 it acc env).onRaise (fun x=>do noteFrame x env; theTreesLotGoes x)) _ _ s
  refine wpAny_noted ?_;rw [compTurn_list];refine wpAny_bind (wpAny_standAt (wpAny_bind (wpAny_mono (turn n s hI) (fun r s₁ h₁=>?_) fun _ _ h'=>h'.elim)))
  cases r with
  | none => exact wpAny_pure h₁
  | some v =>
    refine wpAny_bind (wpAny_mono h₁ (fun _ s₀ h₀=>?_) fun _ _ h'=>h'.elim);refine wpAny_bind (wpAny_mono h₀ (fun _ s₂ h₂=>wpAny_bind (wpAny_mono h₂ (fun ok s₃ h₃=>?_) fun _ _ h'=>h'.elim)) fun _ _ h'=>h'.elim)
    cases ok with
    | false=>exact wpAny_pure ⟨rfl,h₃⟩
    | true =>
      exact wpAny_bind (wpAny_bind (wpAny_mono h₃ (fun x s₄ h₄=>wpAny_bind (wpAny_mono h₄ (fun _ s₅ h₅=>wpAny_pure (wpAny_pure ⟨rfl,h₅⟩)) fun _ _ h'=>h'.elim)) fun _ _ h'=>h'.elim))
noncomputable def rA (wi:TI) (g:TG) (tt:TT) (te:TE) (cap:List (Option Nat)):TE:=fun σ H Q=>wi σ H fun J H1=>∀ l,H1 l=none →
 ∃ (n:Nat) (Pv:Nat→List V→St→Hp→Prop),Pv 0 [] (dY cap σ) (upd H1 l (.lst [])) ∧
  (∀ i ys σ' H',i<n→Pv i ys σ' H'→J.go i H'∧∀ x H2,J.yld i H' x H2→g x σ' H2 fun σ3 H3=>tt σ3 H3 fun b H4 =>
   if b=true then te σ3 H4 fun y H5=>H5 l=some (.lst ys)∧ys.length<sizeLine∧Pv (i+1) (ys++[y]) σ3 (upd H5 l (.lst (ys++[y]))) else Pv (i+1) ys σ3 H4) ∧
  ∀ ys σ' H',Pv n ys σ' H'→J.stop n H'∧Q (.ref l) H'
section
variable {X:Cx} {elt tg iter:Expr} {ifs:List Expr} {scope:Scope} {pos:Pos} {N:List Str} {cap:List (Option Nat)} {wi:TI} {g:TG} {tt:TT} {te:TE}
theorem nB {U:Value→Addr→Shared→Prop} (hc:X.calm=true) (c:dq X scope N cap) (hi:PI X tg iter wi) (hg:∀ s H fp,PG (X.block scope N s H fp) tg g) (ht:∀ s H fp,PTs (X.block scope N s H fp) ifs tt)
    (he:∀ s H fp,PE (X.block scope N s H fp) elt te)
    {pins:List (Addr×Obj)} {s:Shared} {σ:St} {H:Hp} {Q:VK} (I:Inv X pins σ H s) (h:rA wi g tt te cap σ H Q)
    (hU:∀ (l C:Addr) (H':Hp) (s':Shared),Inv X pins σ H' s'→(∃ m,s'.heap.Ns C m)→f9 X pins H' C→Q (.ref l) H'→U (.ref l) C s')
    {RR:Value→Addr→Result→Shared→Prop} (hRR:∀ a C s',U a C s'→RR a C (.ok .next) s') :
    wpAny (model X.prog X.w) X.A (eval iter X.env) (fun x s₁=>wpAny (model X.prog X.w) X.A (pyIter x) (fun it s₂=>wpAny (model X.prog X.w) X.A (newList []) (fun acc s₃ =>
      wpAny (model X.prog X.w) X.A (newFunctionEnv scope X.env.globals (ck X.env.cells scope.names []) [] X.env.qual none .none (some X.env)) (fun cenv s₄ =>
        codeAny (model X.prog X.w) X.A (.compStart (.ListComp elt [⟨tg,iter,ifs,0⟩] scope pos) 0 it acc { cenv with scope:=relabel scope X.env }) (RR acc cenv.locals) s₄) X.xe s₃) X.xe s₂) X.xe s₁) X.xe s:=by
  refine thn (hi pins s σ H _ I h) fun v s1 h1=>thn h1 fun itv s2 h2=>?_;obtain ⟨it,fp,tn,J,H2,e,I2,T,st2,f2,hq⟩:=h2;subst e;have hl:H2 s2.heap.objs.size=none:=I2.hok.fresh (Nat.le_refl _);obtain ⟨n,Pv,p0,step,fin⟩:=hq _ hl;refine wpAny_newObj_type ?_ (by show 0≤sizeLine; exact Nat.zero_le _)
  have I3:Inv X pins σ (upd H2 s2.heap.objs.size (.lst [])) { s2 with heap:=s2.heap.push { cls:=.type "list",data:=.seq ([]:List Value).toArray } } :=
    I2.laid (t':=s2.toks) (fun b u e=>Heap.get?_push_of_some _ e) (Nat.le_refl _) ⟨Nat.zero_le _,[],_,.nil,Heap.get?_push_size _ rfl⟩
  generalize hs3:({ s2 with heap:=s2.heap.push { cls:=.type "list",data:=.seq ([]:List Value).toArray } }:Shared)=s3 at I3 ⊢;have k23:∀ b o,s2.heap.get? b=some o→s3.heap.get? b=some o:=fun b o e=>by rw [← hs3]; exact Heap.get?_push_of_some _ e
  have fplt2:∀ b∈fp,b<s2.heap.objs.size:=fun b hb=>let ⟨o,e,_⟩:=T.obj _ _ st2 b hb; Heap.lt_size e;have sz23:s2.heap.objs.size≤s3.heap.objs.size:=by rw [← hs3]; show _≤(s2.heap.push _).objs.size; rw [Heap.size_push]; exact Nat.le_succ _
  have fplt:∀ b∈fp,b<s3.heap.objs.size:=fun b hb=>Nat.lt_of_lt_of_le (fplt2 b hb) sz23;have f3:∀ b∈fp,f9 X pins (upd H2 s2.heap.objs.size (.lst [])) b:=fun b hb=>⟨by rw [aj (Nat.ne_of_lt (fplt2 b hb))]; exact (f2 b hb).1,(f2 b hb).2⟩
  have st3:tn 0 s3.heap:=T.keep _ _ _ st2 fun b hb o e=>k23 b o e;refine wpAny_newFunctionEnv c.nc (by intro y hy; simp at hy) (fun h4 hns hsb=>?_) c.kind;have I4:=rL (t1:=s3.toks+([]:List (Str×Value)).length) c I3 f3 fplt hns hsb;have st4:tn 0 h4:=T.keep _ _ _ st3 fun b hb o e=>(hsb.2 b (Nat.ne_of_lt (fplt b hb))).trans (Heap.get?_push_of_some _ e);generalize hY:X.block scope N s3 (upd H2 s2.heap.objs.size (.lst [])) fp=Y at I4;have yP:Y.prog=X.prog:=by rw [← hY]; rfl
  have yw:Y.w=X.w:=by rw [← hY]; rfl
  have yK:Y.K=X.K:=by rw [← hY]; rfl
  have yA:Y.A=X.A:=by rw [← hY]; rfl
  have yx:Y.xe=fun _ _=>False:=by rw [← hY]; rfl
  have yc:Y.calm=true:=by rw [← hY]; exact hc
  have yex:Y.ex=fp:=by rw [← hY]; rfl
  have yfs:Y.fs=frs X.stack:=by rw [← hY]; rfl
  have yH:Y.H₀=upd H2 s2.heap.objs.size (.lst []):=by rw [← hY]; rfl
  have ys:Y.s₀=s3:=by rw [← hY]; rfl
  have yC:Y.env.locals=s3.heap.objs.size:=by rw [← hY]; rfl
  have yenv:compEnvC scope (ck X.env.cells scope.names []) s3.heap.objs.size X.env=Y.env:=by rw [← hY]; rfl
  have yg:=hg s3 (upd H2 s2.heap.objs.size (.lst [])) fp;have yt:=ht s3 (upd H2 s2.heap.objs.size (.lst [])) fp;have ye:=he s3 (upd H2 s2.heap.objs.size (.lst [])) fp;have ypn:Y.pn=[]:=by rw [← hY]; rfl
  have ycl:Y.env.cells=ck X.env.cells scope.names []:=by rw [← hY]; rfl
  rw [hY] at yg yt ye;have lk:∀ {y:Str} {a:Addr},Y.env.cells.lookup y=some a→X.env.cells.lookup y=some a:=fun e=>by rw [ycl] at e; exact dM (c.freeH I.ok) (fun z=>by simp at z) e
  have stat:∀ {H':Hp},(∀ b∈fp,H' b=none)→∀ b∈fp,f9 Y [] H' b:=fun hn b hb=>by
    refine ⟨hn b hb,by rw [yC]; exact Nat.ne_of_lt (fplt b hb),?_,.inl (by rw [yex]; exact hb),fun x a e=>(f2 b hb).2.2.2.2.1 x a (lk e),fun p hp=>?_⟩
    · rw [yfs]
      intro z;rcases List.mem_cons.mp (I2.stkSub b z) with e | e
      · exact (f2 b hb).2.1 e
      · exact (f2 b hb).2.2.1 e
    · rw [ypn] at hp
      exact absurd hp (by simp)
  -- the end
  have done:∀ {σ':St} {H':Hp} {s':Shared},Inv Y [] σ' H' s'→Q (.ref s2.heap.objs.size) H'→U (.ref s2.heap.objs.size) s3.heap.objs.size s':=fun {σ' H' s'} J' q=>by
    have un:=J'.base;rw [yfs,yex,yH,ys] at un;have J3:=I3.call' (s':=s') (ch:=fp) (by rw [J'.os,ys]) un (by have:=J'.hok; rw [yP,yw] at this; exact this) J'.bare fun b hb=>⟨(f3 b hb).2.2.2.1,(f3 b hb).2.1,(f3 b hb).2.2.2.2.1,(f3 b hb).2.2.2.2.2⟩
    have hCn:H' s3.heap.objs.size=none:=by have:=J'.free; rw [yC] at this; exact this
    have hne:s3.heap.objs.size≠X.env.locals:=Nat.ne_of_gt I3.lt;have hcl:∀ x a,X.env.cells.lookup x=some a→a≠s3.heap.objs.size:=fun x a e=>let ⟨_,o,ho,_⟩:=I3.cell x a e; Nat.ne_of_lt (Heap.lt_size ho);have hpn:∀ p∈X.pn++pins,p.1≠s3.heap.objs.size:=fun p hp=>Nat.ne_of_lt (Heap.lt_size (I3.pin p hp).1);obtain ⟨m,hn,_⟩:=J'.loc;rw [yC] at hn;exact hU _ _ H' s' J3 ⟨m,hn⟩ ⟨hCn,hne,I3.nofs (Nat.le_refl _),.inr I3.sz,hcl,hpn⟩ q
  have loop:∀ s5:Shared,s5={ s3 with heap:=h4,toks:=s3.toks+([]:List (Str×Value)).length } →
      codeAny (model X.prog X.w) X.A (.compLoop (.ListComp elt [⟨tg,iter,ifs,0⟩] scope pos) 0 (.ref it) (.ref s2.heap.objs.size) Y.env) (RR (.ref s2.heap.objs.size) s3.heap.objs.size) s5:=by
    rintro s5 rfl;refine ny (fun k s'=>∃ i ys σ' H',Inv Y [] σ' H' s'∧tn i s'.heap∧(∀ b∈fp,H' b=none)∧i≤n∧k=n - i∧Pv i ys σ' H') ?_ n ⟨0,[],_,_,I4,st4,fun b hb=>(f3 b hb).1,Nat.zero_le _,rfl,p0⟩;rintro k s6 ⟨i,zs,σ6,H6,I6,st6,fr6,hin,rfl,pv6⟩;by_cases hlt:i<n
    · obtain ⟨go,stp⟩:=step i zs σ6 H6 hlt pv6
      have q:=T.item Y yP yw yK yc i [] s6 σ6 H6 (fun _ _=>False) I6 (stat fr6) st6 go;rw [yA] at q;refine thn q fun r s7 ⟨u,hr,h7⟩=>?_;subst hr;refine thn h7 fun _ s8 ⟨x,H8,I8,r8,y8,st8,fr8⟩=>?_;have I8':=I8.pinned (stat fr8) (T.obj _ _ st8);have q:=yg _ s8 σ6 H8 x u _ I8' r8 (stp x H8 y8);rw [yP,yw,yA,yx] at q;refine thn q fun _ s9 ⟨σ9,H9,I9,q9⟩=>?_;have q:=yt _ s9 σ9 H9 _ I9 q9;rw [yP,yw,yA,yx] at q;refine thn q fun b s10 ⟨H10,I10,q10⟩=>?_;have again:∀ {ws:List V} {σ':St} {H':Hp} {s':Shared},Inv Y ([]++jR fp s8.heap) σ' H' s'→Pv (i+1) ws σ' H'→∃ m,m<n - i∧∃ i ys σ' H',Inv Y [] σ' H' s'∧tn i s'.heap∧(∀ b∈fp,H' b=none)∧i≤n∧m=n - i∧Pv i ys σ' H':=fun {ws σ' H' s'} J' p'=>by
        refine ⟨n - (i+1),by omega,i+1,ws,σ',H',J'.unpinned,T.keep _ _ _ st8 fun b hb o e=>(J'.pin (b,o) (List.mem_append_right _ (List.mem_append_right _ (eX hb e)))).1,fun b hb=>?_,hlt,rfl,p'⟩;obtain ⟨o,e,d⟩:=T.obj _ _ st8 b hb;exact (J'.pin (b,o) (List.mem_append_right _ (List.mem_append_right _ (eX hb e)))).2.1
      cases b with
      | false=>exact again I10 q10
      | true =>
        have q10:=(if_pos (α:=Prop) rfl).mp q10;have q:=ye _ s10 σ9 H10 _ I10 q10;rw [yP,yw,yA,yx] at q;refine pN ?_;refine thn q fun xv s11 ⟨y,H11,I11,r11,hl11,hz,p11⟩=>?_;have q:=aV (X:=Y) _ s11 σ9 H11 (.ref s2.heap.objs.size) [y] _ [xv] (fun _ H'=>Pv (i+1) (zs++[y]) σ9 H') I11 rfl (.cons r11 .nil) ⟨_,_,_,rfl,rfl,hl11,hz,p11⟩;rw [yP,yw,yA,yx] at q;exact thn q fun _ s12 ⟨_,H12,I12,_,p12⟩=>again I12 p12
    · have e:i=n:=by omega
      subst e;obtain ⟨stop,q⟩:=fin zs σ6 H6 pv6;have qd:=T.done Y yP yw yK yc i [] s6 σ6 H6 (fun _ _=>False) I6 (stat fr6) st6 stop;rw [yA] at qd;refine thn qd fun r s7 ⟨hr,I7⟩=>?_;subst hr;exact hRR _ _ _ (done I7 q)
  show codeAny _ _ (.compStart _ 0 (.ref it) _ (compEnvC scope (ck X.env.cells scope.names []) s3.heap.objs.size X.env)) (RR (.ref s2.heap.objs.size) s3.heap.objs.size) _
  rw [yenv];exact codeAny_compStart_list (loop _ rfl) (T.self X.A 0 _ _ _ st4 (loop _ rfl))
theorem f9.turned {pins:List (Addr×Obj)} {σ:St} {H:Hp} {s:Shared} {C:Addr} {h':Heap} (f:f9 X pins H C) (I:Inv X pins σ H s) (sb:Heap.SameBut C s.heap h'):Inv X pins σ H { s with heap:=h' } :=
 I.turned (t':=s.toks) (fun b o hb e=>(sb.2 b hb).trans e) f.1 f.2.1 f.2.2.2.1 f.2.2.2.2.1 f.2.2.2.2.2
theorem fU (hc:X.calm=true) (c:dq X scope N cap) (hi:PI X tg iter wi) (hg:∀ s H fp,PG (X.block scope N s H fp) tg g) (ht:∀ s H fp,PTs (X.block scope N s H fp) ifs tt)
  (he:∀ s H fp,PE (X.block scope N s H fp) elt te) (hs:∀ x,foldedSetIterable iter X.env x=pure x:=by intro _; rfl):PE X (.ListComp elt [⟨tg,iter,ifs,0⟩] scope pos) (rA wi g tt te cap):=by
 intro pins s σ H Q I h;rw [eval_ListComp];refine wpAny_comprehension_free rfl hs (gi (c.freeH I.ok)) c.kind c.lc ?_;exact nB (U:=fun a C s'=>∃ m,s'.heap.Ns C m∧∀ h',Heap.SameBut C s'.heap h'→EP X pins σ Q a { s' with heap:=h' }) hc c hi hg ht he I h
  (fun l C H' s' I' ⟨m,hn⟩ f q=>⟨m,hn,fun h' sb=>⟨.ref l,H',f.turned I' sb,rfl,q⟩⟩) fun a C s' u=>u
theorem rj {i:Nat} {x:Str} {pos' pos2:Pos} (hN:X.N.Nodup) (hi':X.N[i]?=some x) (hx:Loc X.env.scope x) (hc:X.calm=true) (c:dq X scope N cap) (hi:PI X tg iter wi) (hg:∀ s H fp,PG (X.block scope N s H fp) tg g) (ht:∀ s H fp,PTs (X.block scope N s H fp) ifs tt)
  (he:∀ s H fp,PE (X.block scope N s H fp) elt te) (hsw:swapsWith (.ListComp elt [⟨tg,iter,ifs,0⟩] scope pos) (some (.Name x pos')) pos2.line X.env=pure true) (hs:∀ x,foldedSetIterable iter X.env x=pure x:=by intro _; rfl)
  (hf:X.fn x=true∨X.env.scope.names.lookup x=some .local:=by first | exact .inl rfl | exact .inr rfl | assumption):PS X (.Assign [.Name x pos'] (.ListComp elt [⟨tg,iter,ifs,0⟩] scope pos) pos2) (v3 (rA wi g tt te cap) (dw i)):=by
 intro pins s σ H D I h;rw [exec_Assign_Name_used _ _ _ _ hsw];refine wpAny_bind (wpAny_standAt (wpAny_bind ?_))
 show wpAny _ X.A (do let _ ← comprehension (.ListComp elt [⟨tg,iter,ifs,0⟩] scope pos) scope X.env _ (newList []) false (eval iter X.env) (some (assign (.Name x pos') X.env))) _ _ s
 refine wpAny_bind (wpAny_mono (wpAny_comprehension_free (Q:=fun _ s'=>SP X pins D .next s') rfl hs (gi (c.freeH I.ok)) c.kind c.lc ?_) (fun _ s' hq=>wpAny_pure (wpAny_pure hq)) fun _ _ e=>e);refine nB (U:=fun a C s'=>wpAny (model X.prog X.w) X.A (assign (.Name x pos') X.env a) (fun _ s''=>∃ m,s''.heap.Ns C m∧∀ h',Heap.SameBut C s''.heap h'→SP X pins D .next { s'' with heap:=h' }) X.xe s') hc c hi hg ht he I h ?_ fun a C s' u=>u;intro l C H' s' I' hn f q;obtain ⟨m,o,es,ep,ho,hd,r⟩:=hn;have I2:Inv X (pins++[(C,o)]) σ H' s':=I'.pins_of fun p hp=>by
  rcases List.mem_append.mp hp with z | z
  ·exact I'.pin p (List.mem_append_right _ z)
  ·have e:p=(C,o):=by simpa using z
   subst e;exact ⟨ho,f.1,f.2.1,f.2.2.1,fun v z=>by rw [hd] at z; cases z⟩
 refine wpAny_assign_Name (ir I2 hN hi' hx (v:=.ref l) rfl (fun s2 I3=>?_) hf);have pc:=(I3.pin (C,o) (List.mem_append_right _ (List.mem_append_right _ List.mem_cons_self))).1;exact ⟨m,⟨o,es,ep,pc,hd,r⟩,fun h' sb=>⟨_,H',f.turned I3.unpinned sb,q⟩⟩
end
section
variable {X:Cx}
theorem nk:bI X (.builtin "isinstance") (fun xs H Q=>∃ x n t b,xs=[x,.ty n]∧gc X.K H x t∧W.kitOne X.K t (.type n)=some b∧Q (.bl b) H):=by
 intro pins s σ H xs us Q I r h;obtain ⟨x,n,t,b,rfl,ty,e,q⟩:=h;obtain ⟨u,v,rfl,ru,rv⟩:=r.two
 cases (show v=Value.type n from rv)
 exact se I ru ty e fun tk=>⟨.bl b,H,I.tok tk,rfl,q⟩
theorem um {A:Around} (h:A.handled=none):A.in1.handled=none:=h
theorem tH {its:List Value} {bs:List Bool} (r:Vals (bs.map V.bl) its) {i:Nat} {v:Value} (e:its[i]?=some v):v=.bool (bs.getD i false):=by
 have hl:=r.length;rw [List.length_map] at hl;have hi:i<its.length:=(List.getElem?_eq_some_iff.mp e).1
 have hb:(bs.map V.bl)[i]?=some (V.bl (bs.getD i false)):=by
  rw [List.getElem?_map,List.getD_eq_getElem?_getD,List.getElem?_eq_getElem (by omega)];rfl
 obtain ⟨u,hu,ru⟩:=r.get hb;rw [e] at hu
 cases hu;exact ru
theorem sN (bs:List Bool):(List.range bs.length).all (fun i=>bs.getD i false)=bs.all id:=by
 rw [Bool.eq_iff_iff];simp only [List.all_eq_true,List.mem_range,id];constructor
 ·intro h b hb;obtain ⟨i,hi,rfl⟩:=List.mem_iff_getElem.mp hb;have:=h i hi
  rwa [List.getD_eq_getElem?_getD,List.getElem?_eq_getElem hi] at this
 ·intro h i hi;rw [List.getD_eq_getElem?_getD,List.getElem?_eq_getElem hi];exact h _ (List.getElem_mem hi)
theorem nj (hc:X.calm=true):bI X (.builtin "all") (fun xs H Q=>∃ (p:Addr) (bs:List Bool),xs=[.ref p]∧SqL X.K H p (bs.map V.bl)∧Q (.bl (bs.all id)) H):=by
 intro pins s σ H xs us Q I r h;obtain ⟨p,bs,rfl,hp,q⟩:=h;obtain ⟨u,rfl,ru⟩:=r.one
 cases (show u=Value.ref p from ru)
 obtain ⟨its,rv,pl,hz⟩:=I.list hp;have hh:=um (I.ok.hd hc);have hlt:p<s.heap.objs.size:=let ⟨o,ho,_⟩:=pl.isList; Heap.lt_size ho;refine call_all_walk (wpAny_pyIter_list pl.isList ?_);refine ⟨s.heap.objs.size,_,_,_,_,_,fun i=>bs.getD i false,rfl,Walks.list hh s.heap.objs.size p (Nat.ne_of_lt hlt) its.toArray,⟨⟨_,Heap.get?_push_size _ rfl,rfl,rfl⟩,pl.isList.push _⟩,fun i v s' Q' E' hP hQ=>?_,fun h' tk hk=>?_⟩
 ·have:=tH rv (i:=i) (v:=v) (by simpa using hP)
  subst this;exact wpAny_truthy_bool hQ
 ·have hl:=rv.length;rw [List.length_map] at hl;refine ⟨.bl (bs.all id),H,I.kept (h':=h') (t':=tk) fun b o e=>hk b o (by simpa using Nat.ne_of_lt (Heap.lt_size e)) (Heap.get?_push_of_some _ e),?_,q⟩
  show _=_
  rw [List.size_toArray,← hl,sN]
theorem lE {its:List Value} {ns:List Int} (r:Vals (ns.map V.int) its) {i:Nat} {v:Value} (e:its[i]?=some v):∃ t,v=.int (ns.getD i 0) t:=by
 have hl:=r.length;rw [List.length_map] at hl;have hi:i<its.length:=(List.getElem?_eq_some_iff.mp e).1
 have hb:(ns.map V.int)[i]?=some (V.int (ns.getD i 0)):=by
  rw [List.getElem?_map,List.getD_eq_getElem?_getD,List.getElem?_eq_getElem (by omega)];rfl
 obtain ⟨u,hu,ru⟩:=r.get hb;rw [e] at hu
 cases hu;exact ru
theorem ft (ns:List Int):∀ k,k≤ns.length→preSum (fun i=>ns.getD i 0) k=(ns.take k).sum
 | 0,_=>rfl
 | k+1,h=>by
  have ih:=ft ns k (by omega);rw [List.take_add_one,List.sum_append,← ih,List.getElem?_eq_getElem (by omega)]
  show preSum _ k+ns.getD k 0=_
  rw [List.getD_eq_getElem?_getD,List.getElem?_eq_getElem (by omega)];simp
noncomputable def gJ (ns:List Int):Prop:=∀ k,k≤ns.length→InLong ((ns.take k).sum)∧∀ n∈ns,InLong n
theorem lT (hc:X.calm=true):bI X (.builtin "sum") (fun xs H Q=>∃ (p:Addr) (ns:List Int),xs=[.ref p]∧(SqL X.K H p (ns.map V.int)∨SqT X.K H p (ns.map V.int))∧gJ ns∧Q (.int ns.sum) H):=by
  intro pins s σ H xs us Q I r h;obtain ⟨p,ns,rfl,hp,sm,q⟩:=h;obtain ⟨u,rfl,ru⟩:=r.one
  cases (show u=Value.ref p from ru)
  have hh:=um (I.ok.hd hc);have fin:∀ {its:List Value} {h':Heap} {tk:Nat} {t':Tok},Vals (ns.map V.int) its→(∀ b o,b∉[s.heap.objs.size]→s.heap.get? b=some o→h'.get? b=some o) →
      EP X pins σ Q (.int (preSum (fun i=>ns.getD i 0) its.length) t') { s with heap:=h',toks:=tk }:=fun {its h' tk t'} rv hk=>by
    have hl:=rv.length;rw [List.length_map] at hl;refine ⟨.int ns.sum,H,I.kept (h':=h') (t':=tk) fun b o e=>hk b o (by simpa using Nat.ne_of_lt (Heap.lt_size e)) e,⟨t',?_⟩,q⟩;rw [← hl,ft _ _ (Nat.le_refl _),List.take_of_length_le (Nat.le_refl _)]
  have fit:∀ {its:List Value},Vals (ns.map V.int) its→∀ j,j<its.length→InLong (ns.getD j 0)∧InLong (preSum (fun i=>ns.getD i 0) (j+1)):=fun {its} rv j hj=>by
    have hl:=rv.length;rw [List.length_map] at hl;refine ⟨(sm 0 (Nat.zero_le _)).2 _ ?_,?_⟩
    · rw [List.getD_eq_getElem?_getD,List.getElem?_eq_getElem (by omega)]
      exact List.getElem_mem _
    · rw [ft _ _ (by omega)]
      exact (sm _ (by omega)).1
  rcases hp with hp | hp
  · obtain ⟨its,rv,pl,hz⟩:=I.list hp
    have hlt:p<s.heap.objs.size:=let ⟨o,ho,_⟩:=pl.isList; Heap.lt_size ho;refine call_sum_walk (wpAny_pyIter_list pl.isList ?_);refine ⟨s.heap.objs.size,_,_,_,_,_,fun i=>ns.getD i 0,rfl,Walks.list hh s.heap.objs.size p (Nat.ne_of_lt hlt) its.toArray,⟨⟨_,Heap.get?_push_size _ rfl,rfl,rfl⟩,pl.isList.push _⟩,fun b hb=>?_,fun i v hP=>lE rv (by simpa using hP),fun j hj=>fit rv j (by simpa using hj),fun h' tk t' hk=>fin rv fun b o hb e=>hk b o hb (Heap.get?_push_of_some _ e)⟩;rw [Heap.size_push];rcases List.mem_cons.mp hb with e | e
    · rw [e]; exact Nat.lt_succ_self _
    · have:b=p:=by simpa using e
      rw [this]; exact Nat.lt_succ_of_lt hlt
  · obtain ⟨its,rv,pl,hz⟩:=I.tuple hp
    have hlt:p<s.heap.objs.size:=let ⟨o,ho,_⟩:=pl; Heap.lt_size ho;refine call_sum_walk (wpAny_pyIter_tuple pl ?_);refine ⟨s.heap.objs.size,_,_,_,_,_,fun i=>ns.getD i 0,rfl,Walks.tuple hh s.heap.objs.size p (Nat.ne_of_lt hlt) its.toArray,⟨⟨_,Heap.get?_push_size _ rfl,rfl,rfl⟩,pl.push _⟩,fun b hb=>?_,fun i v hP=>lE rv (by simpa using hP),fun j hj=>fit rv j (by simpa using hj),fun h' tk t' hk=>fin rv fun b o hb e=>hk b o hb (Heap.get?_push_of_some _ e)⟩;rw [Heap.size_push];rcases List.mem_cons.mp hb with e | e
    · rw [e]; exact Nat.lt_succ_self _
    · have:b=p:=by simpa using e
      rw [this]; exact Nat.lt_succ_of_lt hlt
end
mutual
noncomputable def Rep (H:Hp):PyData→V→Prop
 | .none,v=>v=.non
 | .bool b,v=>v=.bl b
 | .int i,v=>v=.int i
 | .str x,v=>v=.str x
 | .list ds,v=>∃ a xs,v=.ref a∧H a=some (.lst xs)∧RepL H ds xs
 | .tuple ds,v=>∃ a xs,v=.ref a∧H a=some (.tup xs)∧RepL H ds xs
 | .dict _,_=>False
noncomputable def RepL (H:Hp):List PyData→List V→Prop
 | [],xs=>xs=[]
 | d::ds,xs=>∃ x r,xs=x::r∧Rep H d x∧RepL H ds r
end
mutual
theorem Rep.mono {H H':Hp} (s:ah H H'):∀ {d:PyData} {v:V},Rep H d v→Rep H' d v
 | .none,_,h=>by simpa [Rep] using h
 | .bool _,_,h=>by simpa [Rep] using h
 | .int _,_,h=>by simpa [Rep] using h
 | .str _,_,h=>by simpa [Rep] using h
 | .list ds,_,h=>by
  simp only [Rep] at h ⊢;obtain ⟨a,xs,e,h1,h2⟩:=h;exact ⟨a,xs,e,s _ _ h1,RepL.mono s h2⟩
 | .tuple ds,_,h=>by
  simp only [Rep] at h ⊢;obtain ⟨a,xs,e,h1,h2⟩:=h;exact ⟨a,xs,e,s _ _ h1,RepL.mono s h2⟩
 | .dict _,_,h=>by simp only [Rep] at h
theorem RepL.mono {H H':Hp} (s:ah H H'):∀ {ds:List PyData} {xs:List V},RepL H ds xs→RepL H' ds xs
 | [],_,h=>by simpa [RepL] using h
 | d::ds,_,h=>by
  simp only [RepL] at h ⊢;obtain ⟨x,r,e,h1,h2⟩:=h;exact ⟨x,r,e,Rep.mono s h1,RepL.mono s h2⟩
end
section
variable {X:Cx} {pins:List (Addr×Obj)} {σ:St} {H:Hp} {s:Shared}
mutual
theorem Rep.reads (I:Inv X pins σ H s):∀ {d:PyData} {v:V} {u:Value},Rep H d v→aQ v u→∃ as,Reads s.heap u d as
 | .none,_,_,h,r=>by simp only [Rep] at h; subst h; cases r; exact ⟨_,.none⟩
 | .bool _,_,_,h,r=>by simp only [Rep] at h; subst h; cases r; exact ⟨_,.bool _⟩
 | .int _,_,_,h,r=>by simp only [Rep] at h; subst h; obtain ⟨t,rfl⟩:=r; exact ⟨_,.int _ _⟩
 | .str _,_,_,h,r=>by simp only [Rep] at h; subst h; obtain ⟨t,rfl⟩:=r; exact ⟨_,.str _ _⟩
 | .list ds,_,_,h,r=>by
  simp only [Rep] at h;obtain ⟨a,xs,rfl,h1,h2⟩:=h
  cases (show _=Value.ref a from r)
  obtain ⟨its,rv,pl,_⟩:=I.list (SqL.of h1);obtain ⟨as,ra⟩:=RepL.reads I h2 rv;obtain ⟨o,n,e,c,_,d⟩:=pl;exact ⟨_,.list e c d (by simpa using ra)⟩
 | .tuple ds,_,_,h,r=>by
  simp only [Rep] at h;obtain ⟨a,xs,rfl,h1,h2⟩:=h
  cases (show _=Value.ref a from r)
  obtain ⟨its,rv,pl,_⟩:=I.tuple (SqT.of h1);obtain ⟨as,ra⟩:=RepL.reads I h2 rv;obtain ⟨o,e,c,n,d⟩:=pl;exact ⟨_,.tuple e c d (by simpa using ra)⟩
 | .dict _,_,_,h,_=>by simp only [Rep] at h
theorem RepL.reads (I:Inv X pins σ H s):∀ {ds:List PyData} {xs:List V} {us:List Value},RepL H ds xs→Vals xs us→∃ as,ReadsAll s.heap us ds as
 | [],_,_,h,r=>by simp only [RepL] at h; subst h; cases r; exact ⟨_,.nil⟩
 | d::ds,_,_,h,r=>by
  simp only [RepL] at h;obtain ⟨x,t,rfl,h1,h2⟩:=h
  cases r with
  | cons r1 r2 =>
   obtain ⟨as,a1⟩:=Rep.reads I h1 r1;obtain ⟨bs,a2⟩:=RepL.reads I h2 r2;exact ⟨_,.cons a1 a2⟩
end
end
noncomputable def Aq (neg:Bool):R2:=fun x y H Q=>∃ d e,Rep H d x∧Rep H e y∧SeqAt.shaped d=true∧SeqAt.shaped e=true∧Q (.bl (if neg then !PyData.eqv d e else PyData.eqv d e)) H
section
variable {X:Cx}
theorem Ab (hu:X.A.units+64<cLine):OpR X (compareOp .Eq) (Aq false):=by
 intro pins s σ H x y v u Q I rx ry h;obtain ⟨d,e,h1,h2,s1,s2,q⟩:=h;obtain ⟨as,r1⟩:=h1.reads I rx;obtain ⟨bs,r2⟩:=h2.reads I ry;exact eq_dataH r1 r2 s1 s2 hu ⟨.bl _,H,I,rfl,q⟩
theorem uN (hu:X.A.units+64<cLine):OpR X (compareOp .NotEq) (Aq true):=by
 intro pins s σ H x y v u Q I rx ry h;obtain ⟨d,e,h1,h2,s1,s2,q⟩:=h;obtain ⟨as,r1⟩:=h1.reads I rx;obtain ⟨bs,r2⟩:=h2.reads I ry;exact ne_dataH r1 r2 s1 s2 hu ⟨.bl _,H,I,rfl,q⟩
end
noncomputable def tyD:PyData→String
 | .none=>"NoneType"
 | .bool _=>"bool"
 | .int _=>"int"
 | .str _=>"str"
 | .list _=>"list"
 | .tuple _=>"tuple"
 | .dict _=>"dict"
theorem Rep.ty {K:W.Frag} {H:Hp} {d:PyData} {v:V} (h:Rep H d v):gc K H v (.type (tyD d)):=by
 cases d with
 | none=>simp only [Rep] at h; subst h; exact .non
 | bool b=>simp only [Rep] at h; subst h; exact .bl b
 | int b=>simp only [Rep] at h; subst h; exact .int b
 | str b=>simp only [Rep] at h; subst h; exact .str b
 | list ds=>simp only [Rep] at h; obtain ⟨a,xs,rfl,e,_⟩:=h; exact .lst e
 | tuple ds=>simp only [Rep] at h; obtain ⟨a,xs,rfl,e,_⟩:=h; exact .tup e
 | dict _=>simp only [Rep] at h
noncomputable def isD (T:String):PyData→Bool
 | .none=>T=="NoneType"
 | .bool _=>T=="bool"||T=="int"
 | .int _=>T=="int"
 | .str _=>T=="str"
 | .list _=>T=="list"
 | .tuple _=>T=="tuple"
 | .dict _=>T=="dict"
theorem nN {K:W.Frag} (d:PyData):W.kitOne K (.type (tyD d)) (.type "bool")=some (isD "bool" d):=by cases d<;>kernel_rfl
theorem qW {K:W.Frag} (d:PyData):W.kitOne K (.type (tyD d)) (.type "int")=some (isD "int" d):=by cases d<;>kernel_rfl
theorem qX {K:W.Frag} (d:PyData):W.kitOne K (.type (tyD d)) (.type "str")=some (isD "str" d):=by cases d<;>kernel_rfl
theorem jK {K:W.Frag} (d:PyData):W.kitOne K (.type (tyD d)) (.type "list")=some (isD "list" d):=by cases d<;>kernel_rfl
theorem fS {K:W.Frag} (d:PyData):W.kitOne K (.type (tyD d)) (.type "tuple")=some (isD "tuple" d):=by cases d<;>kernel_rfl
theorem Inv.turnedL {X:Cx} {pins:List (Addr×Obj)} {σ:St} {H:Hp} {s:Shared} {h':Heap} {t':Nat} {ch:List Addr} {T:Addr} {o:HO} (I:Inv X pins σ H s) (k:∀ b o,b∉ch→s.heap.get? b=some o→h'.get? b=some o)
  (f:∀ b∈ch,f9 X pins H b) (there:∀ b∈ch,∃ o,h'.get? b=some o) (hT:s.heap.objs.size≤T) (new:bg X.prog X.w (upd H T o) h' T o):Inv X pins σ (upd H T o) { s with heap:=h',toks:=t' }:=by
 have nit:∀ b u,H b=some u→b∉ch:=fun b u e z=>by rw [(f b z).1] at e; cases e
 have ltT:∀ b ob,s.heap.get? b=some ob→b≠T:=fun b ob e=>Nat.ne_of_lt (Nat.lt_of_lt_of_le (Heap.lt_size e) hT);have hTn:H T=none:=I.hok.fresh hT;have neT:∀ b u,H b=some u→b≠T:=fun b u e=>bM e hTn;refine I.step (g':=s.gens) (d':=s.drawn) (ch:=ch) (fun b hb=>⟨(f b hb).2.2.2.1,(f b hb).2.1,(f b hb).2.2.2.2.1,(f b hb).2.2.2.2.2⟩) (fun b o _ _ hc e _=>k b o hc e) (fun b o _ _ hc e _=>⟨o.slots,k b o hc e⟩) (fun b o _ e n=>by rw [aj (ltT b o e)]; exact n)
  (fun b o hc e=>⟨o,k b o hc e⟩) (fun b _ e=>by rw [aj (neT b _ e)]; exact e) (fun b _ _ e=>by rw [aj (neT b _ e)]; exact e) (fun b ps e=>⟨#[],by rw [aj (neT b _ e),e]; simp⟩) (fun m hm=>?_) (fun b u e=>?_) I.bare
 ·obtain ⟨ob,es,ep,ho,r⟩:=hm;exact ⟨ob,es,ep,k _ ob (fun z=>(f _ z).2.1 rfl) ho,r⟩
 ·by_cases hb:b=T
  ·subst hb;rw [ag] at e
   cases e;exact new
  ·rw [aj hb] at e;refine (I.hok b u e).stay (fun c v hc q=>k c v ?_ q) (fun q e'=>?_) fun a q e'=>?_
   ·rcases hc with z | z
    ·rw [z]; exact nit b u e
    ·exact nit c _ z
   ·rw [aj (neT _ _ e')]; exact e'
   ·rw [aj (neT _ _ e')]; exact e'
noncomputable def Itz (K:W.Frag) (a b:Addr):It :=
  ⟨fun i H=>∃ xs ys x y,SqL K H a xs∧SqL K H b ys∧xs[i]?=some x∧ys[i]?=some y,
   fun i H v H'=>∃ T,v=.ref T∧H T=none∧∀ xs ys,SqL K H a xs→SqL K H b ys→∃ x y,xs[i]?=some x∧ys[i]?=some y∧H'=upd H T (.tup [x,y]),
   fun i H=>∃ xs ys,SqL K H a xs∧SqL K H b ys∧(xs.length≤i∨ys.length≤i)⟩
theorem wq {P:Program} {w:World} {K:W.Frag} {elts:List Expr} {kt:Nat} {pt:Pos} {a b n:Addr} (ha:a<n) (hb:b<n) :
    pB P w K (.Tuple elts kt pt) (Itz K a b) [n+4,n+2,n+3,n,n+1] (n+4) (fun i h=>IsZip h (n+4) (n+2) (n+3) .none∧IsPair h (n+2) (.ref n) (.ref (n+1))∧(∃ x y,IsPair h (n+3) x y)∧h.IsListIter n a i∧h.IsListIter (n+1) b i) where
  mem:=by simp
  obj:=fun i h st c hc=>by
    obtain ⟨z1,z2,⟨x,y,z3⟩,⟨o4,e4,c4,d4⟩,⟨o5,e5,c5,d5⟩⟩:=st;simp only [List.mem_cons,List.not_mem_nil,or_false] at hc;rcases hc with rfl | rfl | rfl | rfl | rfl
    · exact ⟨_,z1,fun v z=>by cases z⟩
    · exact ⟨_,z2,fun v z=>by cases z⟩
    · exact ⟨_,z3,fun v z=>by cases z⟩
    · exact ⟨_,e4,fun v z=>by rw [d4] at z; cases z⟩
    · exact ⟨_,e5,fun v z=>by rw [d5] at z; cases z⟩
  keep:=fun i h h' st k=>by
    obtain ⟨z1,z2,⟨x,y,z3⟩,z4,z5⟩:=st;exact ⟨k _ (by simp) _ z1,k _ (by simp) _ z2,⟨x,y,k _ (by simp) _ z3⟩,z4.at fun o e=>k _ (by simp) o e,z5.at fun o e=>k _ (by simp) o e⟩
  item:=by
    intro X hP hw hK hc i pins s σ H E I hf st hg;subst hP hw hK;obtain ⟨xs,ys,x,y,hqa,hqb,hx,hy⟩:=hg;obtain ⟨its,rv,p,hz⟩:=I.list hqa;obtain ⟨jts,rw',p',hz'⟩:=I.list hqb;obtain ⟨u,hu,ru⟩:=rv.get hx;obtain ⟨u',hu',ru'⟩:=rw'.get hy;obtain ⟨z1,z2,⟨x0,y0,z3⟩,z4,z5⟩:=st;have D:ZipApart (n+4) (n+2) (n+3) n (n+1) a b:=PyProof.Rows.zipApart_new ha hb;have ltz:n+4<s.heap.objs.size:=Heap.lt_size z1;refine wpAny_pyNext_zip_item D z1 z2 z3 z4 z5 p.isList p'.isList (x:=u) (y:=u') (by simpa using hu) (by simpa using hu') fun h' a1 a2 a3 a4 a5 a6 hk=>?_;refine ⟨_,rfl,wpAny_letOwnedTupleGo_zip (s:={ s with heap:=h' }) a1 fun h2 b1 hs=>?_⟩;have neT:∀ {c:Addr},c≤n+4→c≠s.heap.objs.size:=fun h=>Nat.ne_of_lt (Nat.lt_of_le_of_lt h ltz);have kk:∀ c o,c∉[n+4,n+3,n,n+1]→s.heap.get? c=some o→h2.get? c=some o:=fun c o hc e=>by
      simp only [List.mem_cons,List.not_mem_nil,or_false,not_or] at hc;exact (hs.2 c hc.1).trans (hk c o hc.1 hc.2.1 hc.2.2.1 hc.2.2.2 e)
    have q2:h2.get? (n+2)=_:=kk _ _ (by simp only [List.mem_cons,List.not_mem_nil,or_false,not_or]; exact ⟨D.TIz,D.TITO,D.TIi1,D.TIi2⟩) z2;have q3:h2.get? (n+3)=_:=(hs.2 _ D.TOz).trans a2;obtain ⟨o4,e4,c4⟩:=a3;obtain ⟨o5,e5,c5⟩:=a4;have q4:h2.get? n=_:=(hs.2 _ D.i1z).trans e4;have q5:h2.get? (n+1)=_:=(hs.2 _ D.i2z).trans e5;have qT:h2.get? s.heap.objs.size=_:=(hs.2 _ (Ne.symm (neT (Nat.le_refl _)))).trans a5;have sub:∀ c∈[n+4,n+3,n,n+1],c∈[n+4,n+2,n+3,n,n+1]:=fun c hc=>by
      simp only [List.mem_cons,List.not_mem_nil,or_false] at hc ⊢;rcases hc with e | e | e | e
      · exact .inl e
      · exact .inr (.inr (.inl e))
      · exact .inr (.inr (.inr (.inl e)))
      · exact .inr (.inr (.inr (.inr e)))
    have I1:Inv X pins σ (upd H s.heap.objs.size (.tup [x,y])) { s with heap:=h2,toks:=s.toks }:=I.turnedL (ch:=[n+4,n+3,n,n+1]) kk (fun c hc=>hf c (sub c hc)) (fun c hc=>by
        simp only [List.mem_cons,List.not_mem_nil,or_false] at hc;rcases hc with rfl | rfl | rfl | rfl
        · exact ⟨_,b1⟩
        · exact ⟨_,q3⟩
        · exact ⟨_,q4⟩
        · exact ⟨_,q5⟩) (Nat.le_refl _) ⟨by show 2≤sizeLine; decide,[u,u'],.cons ru (.cons ru' .nil),_,qT,rfl,_,rfl⟩
    refine ⟨.ref s.heap.objs.size,_,I1,rfl,⟨_,rfl,I.hok.fresh (Nat.le_refl _),fun vs ws hv hw=>?_⟩,⟨b1,q2,⟨_,_,q3⟩,⟨_,q4,c4⟩,⟨_,q5,c5⟩⟩,fun c hc=>?_⟩
    · rw [I.list_inj hv hqa,I.list_inj hw hqb]
      exact ⟨x,y,hx,hy,rfl⟩
    · have hle:c≤n+4:=by
        simp only [List.mem_cons,List.not_mem_nil,or_false] at hc;rcases hc with rfl | rfl | rfl | rfl | rfl
        · exact Nat.le_refl _
        · exact Nat.le_add_right (n+2) 2
        · exact Nat.le_add_right (n+3) 1
        · exact Nat.le_add_right _ 4
        · exact Nat.le_add_right (n+1) 3
      rw [aj (neT hle)];exact (hf c hc).1
  done:=by
    intro X hP hw hK hc i pins s σ H E I hf st hg;subst hP hw hK;obtain ⟨xs,ys,hqa,hqb,hl⟩:=hg;obtain ⟨its,rv,p,hz⟩:=I.list hqa;obtain ⟨jts,rw',p',hz'⟩:=I.list hqb;obtain ⟨z1,z2,⟨x0,y0,z3⟩,z4,z5⟩:=st;have D:ZipApart (n+4) (n+2) (n+3) n (n+1) a b:=PyProof.Rows.zipApart_new ha hb;have l1:=rv.length;have l2:=rw'.length;refine wpAny_pyNext_zip_end (I.ok.hd hc) D z1 z2 z3 z4 z5 p.isList p'.isList ?_ fun h' hk=>⟨rfl,?_⟩
    · rcases hl with h | h
      · exact .inl (by simp; omega)
      · exact .inr (by simp; omega)
    · have fp:∀ c∈[n+4,n+3,n,n+1],f9 X pins H c:=fun c hc=>hf c (by
        simp only [List.mem_cons,List.not_mem_nil,or_false] at hc ⊢;rcases hc with e | e | e | e
        · exact .inl e
        · exact .inr (.inr (.inl e))
        · exact .inr (.inr (.inr (.inl e)))
        · exact .inr (.inr (.inr (.inr e))))
      have kk:∀ c o,c∉[n+4,n+3,n,n+1]→s.heap.get? c=some o→h'.get? c=some o:=fun c o hc e=>by
        simp only [List.mem_cons,List.not_mem_nil,or_false,not_or] at hc;exact hk c o hc.1 hc.2.1 hc.2.2.1 hc.2.2.2 e
      have nit:∀ c u,H c=some u→c∉[n+4,n+3,n,n+1]:=fun c u e z=>by rw [(fp c z).1] at e; cases e
      refine I.step (g':=s.gens) (d':=s.drawn) (t':=s.toks) (ch:=[n+4,n+3,n,n+1]) (fun c hc=>⟨(fp c hc).2.2.2.1,(fp c hc).2.1,(fp c hc).2.2.2.2.1,(fp c hc).2.2.2.2.2⟩) (fun c o _ _ hc e _=>kk c o hc e) (fun c o _ _ hc e _=>⟨o.slots,kk c o hc e⟩) (fun _ _ _ _ n=>n)
        (fun c o hc e=>⟨o,kk c o hc e⟩) (fun _ _ e=>e) (fun _ _ _ e=>e) (fun _ ps e=>⟨#[],by rw [e]; simp⟩) (fun m hm=>?_) (fun c u e=>?_) I.bare
      · obtain ⟨ob,es,ep,ho,r⟩:=hm
        exact ⟨ob,es,ep,kk _ ob (fun z=>(fp _ z).2.1 rfl) ho,r⟩
      · refine (I.hok c u e).stay (fun d v hd q=>kk d v ?_ q) (fun _ e'=>e') fun _ _ e'=>e'
        rcases hd with z | z
        · rw [z]; exact nit c u e
        · exact nit d _ z
  self:=fun _ _ _ _ _ st h=>wpAny_pyIter_zip st.1 h
section
variable {σ:St} {H:Hp} {Q:VK} {D:dH} {QB:Bool→Hp→Prop} {QA:List V→Hp→Prop}
theorem xY (h:D.nx σ H):ze D σ H:=h
theorem Ax {te:TE} {g:TG} (h:te σ H fun x H1=>g x σ H1 D.nx):v3 te g D σ H:=h
theorem cV {i:Nat} {v:V} {Q:St→Hp→Prop} (h:Q (σ.set i (some v)) H):dw i v σ H Q:=h
theorem AO {te:TE} (h:te σ H D.rt):BN te D σ H:=h
theorem xM {te:TE} (h:te σ H fun _ H1=>D.nx σ H1):zb te D σ H:=h
theorem AH {c:TT} {t u:TS} (h:c σ H fun b H1=>if b=true then t D σ H1 else u D σ H1):BK c t u D σ H:=h
theorem Bz {t:TE} (h:t σ H fun x H1=>∃ c,x=.bl c∧QB c H1):tB t σ H QB:=h
theorem vI {t:TE} (h:t σ H fun x H1=>∃ c,x=.bl c∧QB c H1):rD t σ H QB:=h
theorem xN {b:Bool} {P:Bool→Prop} (h:P b):∃ c,V.bl b=V.bl c∧P c:=⟨b,rfl,h⟩
theorem vx {a:Addr} {P:Addr→Prop} (h:P a):∃ c,V.ref a=V.ref c∧P c:=⟨a,rfl,h⟩
theorem vt {i:Int} {P:Int→Prop} (h:P i):∃ c,V.int i=V.int c∧P c:=⟨i,rfl,h⟩
theorem AR {i:Nat} {v:V} (e:σ[i]?=some (some v)) (h:Q v H):AY i σ H Q:=⟨v,e,h⟩
theorem Cc {v:V} (h:Q v H):tC v σ H Q:=h
theorem Bw {r:R2} {ta tb:TE} (h:ta σ H fun x H1=>tb σ H1 fun y H2=>r x y H2 Q):tOp r ta tb σ H Q:=h
theorem BA {r:V→Hp→VK→Prop} {ta:TE} (h:ta σ H fun x H1=>r x H1 Q):tUn r ta σ H Q:=h
theorem xE {ta tb:TE} (h:ta σ H fun x H1=>∃ c,x=.bl c∧if c=true then tb σ H1 Q else Q (.bl false) H1):y7 ta tb σ H Q:=h
theorem xZ {ta:TE} (h:ta σ H fun x H1=>∃ c,x=.bl c∧Q (.bl (!c)) H1):zf ta σ H Q:=h
theorem Aw {t u:TT} (h:t σ H fun c H1=>if c=true then u σ H1 QB else QB false H1):BG t u σ H QB:=h
theorem Bx {t u:TT} (h:t σ H fun c H1=>if c=true then QB true H1 else u σ H1 QB):tOr t u σ H QB:=h
theorem AN {t:TT} (h:t σ H fun c H1=>QB (!c) H1):BM t σ H QB:=h
theorem Bv {t:TT} {ta tb:TE} (h:t σ H fun c H1=>if c=true then ta σ H1 Q else tb σ H1 Q):tIf t ta tb σ H Q:=h
theorem fW (h:QB true H):j7 σ H QB:=h
theorem Bt {g:Int→Int→V} {i j:Int} (h:Q (g i j) H):rI0 g (.int i) (.int j) H Q:=⟨i,j,rfl,rfl,h⟩
theorem b6 {C:Int→Int→Prop} {g:Int→Int→V} {i j:Int} (c:C i j) (h:Q (g i j) H):rI C g (.int i) (.int j) H Q:=⟨i,j,rfl,rfl,c,h⟩
theorem Cb {g:Int→V} {i:Int} (h:Q (g i) H):rU g (.int i) H Q:=⟨i,rfl,h⟩
theorem AD {i j:Int} (h:Q (.bl (decide (i=j))) H):rEq (.int i) (.int j) H Q:=⟨rfl,by
 rw [i7,Int.instDecidableEq.eq_def]<;>first | exact h | (simpa [i7] using h)⟩
theorem AL {i j:Int} (h:Q (.bl (!decide (i=j))) H):rNe (.int i) (.int j) H Q:=⟨rfl,by
 have e:decide (V.int i=V.int j)=decide (i=j):=by by_cases z:i=j<;>simp [z]
 rw [e]; exact h⟩
theorem AE {i j:Str} (h:Q (.bl (decide (i=j))) H):rEq (.str i) (.str j) H Q:=⟨rfl,by
 have e:decide (V.str i=V.str j)=decide (i=j):=by by_cases z:i=j<;>simp [z]
 rw [e]; exact h⟩
theorem AB {i j:Bool} (h:Q (.bl (decide (i=j))) H):rEq (.bl i) (.bl j) H Q:=⟨rfl,by
 have e:decide (V.bl i=V.bl j)=decide (i=j):=by by_cases z:i=j<;>simp [z]
 rw [e]; exact h⟩
theorem AK {i j:Bool} (h:Q (.bl (!decide (i=j))) H):rNe (.bl i) (.bl j) H Q:=⟨rfl,by
 have e:decide (V.bl i=V.bl j)=decide (i=j):=by by_cases z:i=j<;>simp [z]
 rw [e]; exact h⟩
theorem aR {K:W.Frag} {p:Addr} {xs:List V} {i:Int} {v:V} (h:SqL K H p xs) (e:atI xs i=some v) (q:Q v H):xB K (.ref p) (.int i) H Q:=⟨p,xs,i,v,rfl,rfl,h,e,q⟩
theorem aN {K:W.Frag} {p:Addr} {xs:List V} {i:Int} {v:V} (h:SqT K H p xs) (e:atI xs i=some v) (q:Q v H):xC K (.ref p) (.int i) H Q:=⟨p,xs,i,v,rfl,rfl,h,e,q⟩
theorem xQ {K:W.Frag} {p:Addr} {xs:List V} {i:Int} {v:V} (h:SqL K H p xs) (e:atI xs i=some v) (q:Q v H):rIx K (.ref p) (.int i) H Q:=.inl (aR h e q)
theorem xR {K:W.Frag} {p:Addr} {xs:List V} {i:Int} {v:V} (h:SqT K H p xs) (e:atI xs i=some v) (q:Q v H):rIx K (.ref p) (.int i) H Q:=.inr (.inl (aN h e q))
theorem vh {r r':R2} {ta tb tc:TE} (h:ta σ H fun x H1=>tb σ H1 fun y H2=>r x y H2 fun z H3=>∃ k,z=.bl k∧if k=true then tc σ H3 fun y' H4=>r' y y' H4 Q else Q (.bl false) H3):qv r r' ta tb tc σ H Q:=h
theorem xF {sp:Sp} {dvs:List V} {E:XK} {t:TA} (h:t σ H fun vs H1=>sp (vs++dvs) H1 Q E):v5 sp dvs E t σ H Q:=h
theorem AM (h:QA [] H):yo σ H QA:=h
theorem xH {ta:TE} {tr:TA} (h:ta σ H fun x H1=>tr σ H1 fun xs H2=>QA (x::xs) H2):v7 ta tr σ H QA:=h
theorem Bs {r:List V→Hp→VK→Prop} {t:TA} (h:t σ H fun vs H1=>r vs H1 Q):tCB r t σ H Q:=h
end
theorem zV {K:W.Frag}:W.kitOne K (.type "int") (.type "int")=some true:=by kernel_rfl
theorem zU {K:W.Frag}:W.kitOne K (.type "int") (.type "bool")=some false:=by kernel_rfl
section
variable {X:Cx} {K:W.Frag} {H:Hp} {Q:VK} {σ:St}
noncomputable def Ar (K:W.Frag):List V→Hp→VK→Prop:=fun xs H Q=>∃ x n t b,xs=[x,.ty n]∧gc K H x t∧W.kitOne K t (.type n)=some b∧Q (.bl b) H
theorem rM:bI X (.builtin "isinstance") (Ar X.K):=nk
theorem cO {x:V} {n:String} {t:Value} {b:Bool} (ty:gc K H x t) (e:W.kitOne K t (.type n)=some b) (h:Q (.bl b) H):Ar K [x,.ty n] H Q:=⟨x,n,t,b,rfl,ty,e,h⟩
noncomputable def xD (K:W.Frag):List V→Hp→VK→Prop:=fun xs H Q=>∃ p ys,xs=[.ref p]∧(SqL K H p ys∨SqT K H p ys)∧Q (.int ys.length) H
theorem zx:bI X (.builtin "len") (xD X.K):=lQ
theorem bX {p:Addr} {ys:List V} (h:H p=some (.lst ys)) (q:Q (.int ys.length) H):xD K [.ref p] H Q:=⟨p,ys,rfl,.inl (SqL.of h),q⟩
theorem jj {p:Addr} {ys:List V} (h:H p=some (.tup ys)) (q:Q (.int ys.length) H):xD K [.ref p] H Q:=⟨p,ys,rfl,.inr (SqT.of h),q⟩
noncomputable def Ap (K:W.Frag):List V→Hp→VK→Prop:=fun xs H Q=>∃ (p:Addr) (bs:List Bool),xs=[.ref p]∧SqL K H p (bs.map V.bl)∧Q (.bl (bs.all id)) H
theorem zu (hc:X.calm=true):bI X (.builtin "all") (Ap X.K):=nj hc
theorem p5 {p:Addr} {bs:List Bool} (h:H p=some (.lst (bs.map V.bl))) (q:Q (.bl (bs.all id)) H):Ap K [.ref p] H Q:=⟨p,bs,rfl,SqL.of h,q⟩
noncomputable def Au (K:W.Frag):List V→Hp→VK→Prop:=fun xs H Q=>∃ (p:Addr) (ns:List Int),xs=[.ref p]∧(SqL K H p (ns.map V.int)∨SqT K H p (ns.map V.int))∧gJ ns∧Q (.int ns.sum) H
theorem zy (hc:X.calm=true):bI X (.builtin "sum") (Au X.K):=lT hc
theorem rn {p:Addr} {ns:List Int} (h:H p=some (.tup (ns.map V.int))) (s:gJ ns) (q:Q (.int ns.sum) H):Au K [.ref p] H Q:=⟨p,ns,rfl,.inr (SqT.of h),s,q⟩
noncomputable def Bm:List V→Hp→VK→Prop:=fun xs H Q=>∃ i,xs=[.int i]∧Q (.int (if i<0 then -i else i)) H
theorem zt:bI X (.builtin "abs") Bm:=tV
theorem Av {i:Int} (q:Q (.int (if i<0 then -i else i)) H):Bm [.int i] H Q:=⟨i,rfl,q⟩
noncomputable def yV:List V→Hp→VK→Prop:=fun xs H Q=>∃ i j,xs=[.int i,.int j]∧Q (.int (if j<i then j else i)) H
theorem qJ (hc:X.calm=true):bI X (.builtin "min") yV:=rP hc
theorem xW {i j:Int} (q:Q (.int (if j<i then j else i)) H):yV [.int i,.int j] H Q:=⟨i,j,rfl,q⟩
noncomputable def vd (K:W.Frag):List V→Hp→VK→Prop:=fun xs H Q=>∃ p ys,xs=[.ref p]∧(SqL K H p ys∨SqT K H p ys)∧∀ l,H l=none→Q (.ref l) (upd H l (.lst ys))
theorem wM:bI X (.type "list") (vd X.K):=lR
theorem oz {p:Addr} {ys:List V} (h:H p=some (.lst ys)) (q:∀ l,H l=none→Q (.ref l) (upd H l (.lst ys))):vd K [.ref p] H Q:=⟨p,ys,rfl,.inl (SqL.of h),q⟩
noncomputable def pZ (K:W.Frag):List V→Hp→VK→Prop:=fun xs H Q=>∃ p ys,xs=[.ref p]∧((SqL K H p ys∧∀ l,H l=none→Q (.ref l) (upd H l (.tup ys)))∨(SqT K H p ys∧Q (.ref p) H))
theorem tU:bI X (.type "tuple") (pZ X.K):=kg
theorem lg {p:Addr} {ys:List V} (h:H p=some (.lst ys)) (q:∀ l,H l=none→Q (.ref l) (upd H l (.tup ys))):pZ K [.ref p] H Q:=⟨p,ys,rfl,.inl ⟨SqL.of h,q⟩⟩
noncomputable def yS:List V→Hp→VK→Prop:=fun xs H Q=>(∃ i,xs=[.int i]∧Q (.int i) H)∨∃ k,xs=[.bl k]∧Q (.int (if k then 1 else 0)) H
theorem zw:bI X (.type "int") yS:=rN
theorem xO {b:Bool} (q:Q (.int (if b then 1 else 0)) H):yS [.bl b] H Q:=.inr ⟨b,rfl,q⟩
noncomputable def Bn (K:W.Frag) (f:Str):V→Hp→VK→Prop:=fun x H1 Q=>∃ a C dx fs v,x=.ref a∧H1 a=some (.ins C dx fs)∧Cls K C∧cM K C f∧fs.lookup f=some v∧Q v H1
theorem AF {ta:TE} {f:Str} (h:ta σ H fun x H1=>Bn K f x H1 Q):AW K ta f σ H Q:=h
theorem e8 {f:Str} {a C dx:Addr} {fs:List (Str×V)} {v:V} (h:H a=some (.ins C dx fs)) (c:Cls K C) (n:cM K C f) (l:fs.lookup f=some v) (q:Q v H):Bn K f (.ref a) H Q:=⟨a,C,dx,fs,v,rfl,h,c,n,l,q⟩
noncomputable def yU (C:Addr) (m:Str):V→Hp→Prop→Prop:=fun x H1 q=>∃ a dx fs,x=.ref a∧H1 a=some (.ins C dx fs)∧fs.lookup m=none∧q
theorem xV {C:Addr} {m:Str} {sp:Sp} {dvs:List V} {E:XK} {ta:TE} {t:TA} (h:ta σ H fun x H1=>yU C m x H1 (t σ H1 fun vs H2=>sp (x::(vs++dvs)) H2 Q E)):wg C m sp dvs E ta t σ H Q:=h
theorem aF {C a dx:Addr} {m:Str} {fs:List (Str×V)} {q:Prop} (h:H a=some (.ins C dx fs)) (l:fs.lookup m=none) (hq:q):yU C m (.ref a) H q:=⟨a,dx,fs,rfl,h,l,hq⟩
theorem xT {C:Addr} {sp:Sp} {dvs:List V} {E:XK} {t:TA} (h:t σ H fun vs H1=>∀ x dx,H1 x=none→H1 dx=none→dx≠x →
 sp (.ref x::(vs++dvs)) (upd (upd H1 dx (.own x)) x (.ins C dx [])) (fun v H2=>v=.non∧Q (.ref x) H2) E):zd C sp dvs E t σ H Q:=h
noncomputable def rBM (K:W.Frag) (T:String):V→Hp→Prop→Prop:=fun x H1 q=>tyV K T x H1∧q
theorem Bu {T:String} {r:V→List V→Hp→VK→Prop} {to:TE} {t:TA} (h:to σ H fun x H1=>rBM K T x H1 (t σ H1 fun xs H2=>r x xs H2 Q)):tBM K T r to t σ H Q:=h
theorem bY {l:Addr} {xs:List V} {q:Prop} (h:H l=some (.lst xs)) (hq:q):rBM K "list" (.ref l) H q:=⟨.inl ⟨rfl,_,SqL.of h⟩,hq⟩
theorem aX {l:Addr} {xs:List V} {y:V} (h:H l=some (.lst xs)) (z:xs.length<sizeLine) (q:Q .non (upd H l (.lst (xs++[y])))):rm (.ref l) [y] H Q:=⟨l,xs,y,rfl,rfl,h,z,q⟩
theorem By {r:V→Option Int→Option Int→Hp→VK→Prop} {te:TE} {tl th:TO} (h:te σ H fun x H1=>tl σ H1 fun l H2=>th σ H2 fun u H3=>r x l u H3 Q):tSl r te tl th σ H Q:=h
theorem sR {Q:Option Int→Hp→Prop} (h:Q none H):rC σ H Q:=h
theorem x6 {t:TE} {Q:Option Int→Hp→Prop} (h:t σ H fun x H1=>∃ i,x=.int i∧Q (some i) H1):zg t σ H Q:=h
theorem vF {a:Addr} {xs:List V} {lo hi:Option Int} (h:H a=some (.lst xs)) (q:∀ p,H p=none→Q (.ref p) (upd H p (.lst (gd xs lo hi)))):As K (.ref a) lo hi H Q:=⟨a,xs,rfl,SqL.of h,q⟩
noncomputable def wB (J:It) (g:TG) (tb:TS) (D:dH) (σ:St) (H1:Hp):Prop:=∃ W:Nat→Nat→St→Hp→Prop,(∃ m,W 0 m σ H1)∧∀ i m σ H,W i m σ H →
 (J.stop i H∧D.nx σ H)∨(J.go i H∧∃ N:St→Hp→Prop,(∀ σ' H',N σ' H'→∃ m',m'<m∧W (i+1) m' σ' H')∧∀ x H',J.yld i H x H'→g x σ H' fun σ2 H2=>tb { D with nx:=N,ct:=N,bk:=D.nx } σ2 H2)
theorem AG {wi:TI} {g:TG} {tb:TS} {D:dH} (h:wi σ H fun J H1=>wB J g tb D σ H1):BJ wi g tb D σ H:=h
theorem fQ {a:Addr} {xs:List V} {g:TG} {tb:TS} {D:dH} (Pv:Nat→St→Hp→Prop) (h0:Pv 0 σ H) (hl:∀ i σ H,i≤xs.length→Pv i σ H→SqL K H a xs)
  (hs:∀ i x σ H,xs[i]?=some x→Pv i σ H→g x σ H fun σ2 H2=>tb { D with nx:=Pv (i+1),ct:=Pv (i+1),bk:=D.nx } σ2 H2) (hd:∀ σ H,Pv xs.length σ H→D.nx σ H):wB (Itl K a) g tb D σ H:=ue Pv h0 hl hs hd
theorem cN {lo:Int} {n:Nat} {g:TG} {tb:TS} {D:dH} (Pv:Nat→St→Hp→Prop) (h0:Pv 0 σ H)
  (hs:∀ i σ H,i<n→Pv i σ H→g (.int (lo+i)) σ H fun σ2 H2=>tb { D with nx:=Pv (i+1),ct:=Pv (i+1),bk:=D.nx } σ2 H2) (hd:∀ σ H,Pv n σ H→D.nx σ H):wB (Itr lo n) g tb D σ H:=rX Pv h0 hs hd
theorem x9 {ta:TA} {R:It→Hp→Prop} (h:ta σ H fun vs H1=>∃ j:Int,vs=[.int j]∧-(2 ^ 62)≤j∧j<2 ^ 62∧R (Itr 0 j.toNat) H1):yN ta σ H R:=h
theorem vB {tl:TE} {R:It→Hp→Prop} (h:tl σ H fun x H1=>∃ a,x=.ref a∧(∃ xs,SqL K H1 a xs)∧R (Itl K a) H1):yM K tl σ H R:=h
end
theorem bC {zs:List Int} {i:Int} (h0:0≤i) (h1:i<zs.length):atI (zs.map V.int) i=some (.int (zs.getD i.toNat 0)):=by
 obtain ⟨k,rfl⟩:∃ k:Nat,i=(k:Int):=⟨i.toNat,by omega⟩
 refine dj ?_;have hk:k<zs.length:=by omega
 simp [hk]
theorem ah.new {H:Hp} {p:Addr} {o:HO} (h:H p=none):ah H (upd H p o):=fun b u e=>by rw [aj (bM e h)]; exact e
theorem ah.later {H0 H:Hp} {p:Addr} {o:HO} (s:ah H0 H) (h:H0 p=none):ah H0 (upd H p o):=fun b u e=>by rw [aj (bM e h)]; exact s b u e
theorem Bh {b:Bool} {A B:Prop} (h:if b=true then A else B):if (true&&b)=true then A else B:=by rw [Bool.true_and]; exact h
theorem Bg {b:Bool} {A B:Prop} (h:if b=true then B else A):if (!b)=true then A else B:=by cases b<;>exact h
section
variable {prog:Program} {w:World} {A:Around} {E:Value→Shared→Prop} {s:Shared}
theorem gf {t sl:Addr} {items:Array Value} {vl vu:Value} {lo hi:Option Int} {Q:Value→Shared→Prop} (ht:IsTup s.heap t items) (hs:s.heap.IsSliceOf sl vl vu .none) (pl:IsPart vl lo) (pu:IsPart vu hi)
  (hw:HT.sIx items.size 0 lo=0∧HT.sIx items.size items.size hi=items.size) (h:Q (.ref t) s):wpAny (model prog w) A (getItem (.ref t) (.ref sl)) Q E s:=by
 obtain ⟨os,hos,hcs,hds⟩:=id hs;have hTs:s.TypeIs (.ref sl) "slice":=⟨os,hos,hcs⟩
 unfold getItem
 try with_reducible refine wpAny_holding ?_
 first | refine wpAny_bind (wpAny_pure ?_) | skip
 refine wpAny_bind (wpAny_sequenceKey ht.typeIs (by decide) ?_);refine wpAny_bind (wpAny_callSpecial?_slot (name:=Str.ofString "__getitem__") ht.typeIs PyProof.Rows.slot_tuple_getitem
  (wpAny_call_entry PyProof.Rows.slot_tuple_getitem ht.typeIs entry_tuple_getitem ?_ (args_tuple_getitem _ _)))
 show wpAny _ _ (Builtin.Tuple.tupleItemsOf (.ref t) >>= _) _ _ s
 refine wpAny_bind (tupleItemsOf_ ht ?_);refine wpAny_bind (wpAny_typeOf hTs ?_);rw [if_pos (by decide)];refine wpAny_bind (HT.eQ hs pl pu ?_)
 have hyes:(((HT.sIx items.size 0 lo:Nat):Int)==0&&(1:Int)==1&&(HT.sIx items.size items.size hi - HT.sIx items.size 0 lo)==items.size)=true:=by
  rw [hw.1,hw.2]; simp
 show wpAny _ _ (if (((HT.sIx items.size 0 lo:Nat):Int)==0&&(1:Int)==1&&(HT.sIx items.size items.size hi - HT.sIx items.size 0 lo)==items.size)=true then _ else _) _ _ s
 rw [if_pos hyes];unfold Builtin.Tuple.tupleIsExact;refine wpAny_bind (wpAny_bind (wpAny_typeOf ht.typeIs (wpAny_pure ?_)));rw [if_pos (by decide)]
 first
  | exact wpAny_bind (wpAny_rule (wpAny_pure ⟨_, rfl, wpAny_pure h⟩))
  | exact wpAny_bind (wpAny_rule (wpAny_bind (wpAny_pure (wpAny_pure ⟨_, rfl, wpAny_pure h⟩))))
  | exact wpAny_bind (wpAny_bind (wpAny_rule (wpAny_pure ⟨_, rfl, wpAny_pure h⟩)))
end
noncomputable def ve (K:W.Frag):V→Option Int→Option Int→Hp→VK→Prop:=fun x lo hi H Q=>∃ a xs,x=.ref a∧H a=some (.tup xs)∧∀ H1 p,ah H H1→H1 p=some (.tup (gd xs lo hi))→Q (.ref p) H1
theorem yj {X:Cx}:SlR X (ve X.K):=by
 intro pins s σ H x v vl vu lo hi sl Q I rx hs pl pu h;obtain ⟨a,xs,rfl,hx,q⟩:=h;by_cases hw:HT.sIx xs.length 0 lo=0∧HT.sIx xs.length xs.length hi=xs.length
 ·cases rx;obtain ⟨its,r,ht,hz⟩:=I.tuple (SqT.of hx);have hlen:its.toArray.size=xs.length:=by rw [List.size_toArray]; exact r.length.symm
  refine ⟨"tuple",_,PyProof.Rows.slot_tuple_getitem.lookup,ht.typeIs,gf ht hs pl pu (by rw [hlen]; exact hw) ⟨.ref a,H,I,rfl,q H a (ah.refl _) ?_⟩⟩;rw [hx];unfold gd;rw [hw.1,hw.2,List.drop_zero,Nat.sub_zero,List.take_of_length_le (Nat.le_refl _)]
 ·exact AV pins s σ H _ v vl vu lo hi sl Q I rx hs pl pu ⟨a,xs,rfl,SqT.of hx,hw,fun p hp=>q _ p (ah.new hp) ag⟩
theorem vG {K:W.Frag} {H:Hp} {Q:VK} {a:Addr} {xs:List V} {lo hi:Option Int} (h:H a=some (.tup xs)) (q:∀ H1 p,ah H H1→H1 p=some (.tup (gd xs lo hi))→Q (.ref p) H1):ve K (.ref a) lo hi H Q:=⟨a,xs,rfl,h,q⟩
noncomputable def gF (J:It) (g:TG) (tt:TT) (te:TE) (cap:List (Option Nat)) (l:Addr) (σ:St) (H1:Hp) (Q:VK):Prop :=
 ∃ (n:Nat) (Pv:Nat→List V→St→Hp→Prop),Pv 0 [] (dY cap σ) (upd H1 l (.lst [])) ∧
  (∀ i ys σ' H',i<n→Pv i ys σ' H'→J.go i H'∧∀ x H2,J.yld i H' x H2→g x σ' H2 fun σ3 H3=>tt σ3 H3 fun b H4 =>
   if b=true then te σ3 H4 fun y H5=>H5 l=some (.lst ys)∧ys.length<sizeLine∧Pv (i+1) (ys++[y]) σ3 (upd H5 l (.lst (ys++[y]))) else Pv (i+1) ys σ3 H4) ∧
  ∀ ys σ' H',Pv n ys σ' H'→J.stop n H'∧Q (.ref l) H'
section
variable {K:W.Frag} {σ:St} {H:Hp} {Q:VK} {te:TE} {cap:List (Option Nat)} {l:Addr}
theorem xG {wi:TI} {g:TG} {tt:TT} (h:wi σ H fun J H1=>∀ l,H1 l=none→gF J g tt te cap l σ H1 Q):rA wi g tt te cap σ H Q:=h
theorem kB {α β:Type} (F:α→β) (xs:List α) (i:Nat) {x:α} (h:xs[i]?=some x):(xs.take (i+1)).map F=(xs.take i).map F++[F x]:=by
 rw [List.take_add_one,h,List.map_append];rfl
theorem jz {a:Addr} {xs:List V} (F:V→V) (hs:SqL K H a xs) (hz:xs.length≤1000) (hl:H l=none)
  (step:∀ x o H' (Q':VK),x∈xs→ah H H'→(∀ H5,ah H' H5→Q' (F x) H5)→te (((dY (none::cap) σ).set 0 o).set 0 (some x)) H' Q')
  (fin:∀ H',ah H H'→H' l=some (.lst (xs.map F))→Q (.ref l) H'):gF (Itl K a) (dw 0) j7 te (none::cap) l σ H Q:=by
 refine ⟨xs.length,fun i ys σ' H'=>ys=(xs.take i).map F∧(∃ o,σ'=(dY (none::cap) σ).set 0 o)∧ah H H'∧H' l=some (.lst ys),⟨rfl,⟨none,rfl⟩,ah.new hl,ag⟩,?_,?_⟩
 ·rintro i ys σ' H' hi ⟨rfl,⟨o,rfl⟩,s,e⟩;refine ⟨⟨xs,xs[i],s.seq hs,by simp [hi]⟩,fun x H2 y=>?_⟩;obtain ⟨e2,y⟩:=y;subst e2;have hx:=y xs (s.seq hs);refine cV (fW (pN ?_));refine step x o H2 _ (List.mem_of_getElem? hx) s fun H5 s5=>⟨s5 _ _ e,?_,?_⟩
  ·rw [List.length_map,List.length_take];exact cx (by omega)
  ·exact ⟨(kB F xs i hx).symm,⟨_,List.set_set ..⟩,(s.trans s5).later hl,ag⟩
 ·rintro ys σ' H' ⟨rfl,_,s,e⟩;rw [List.take_of_length_le (Nat.le_refl _)] at e;exact ⟨⟨xs,s.seq hs,Nat.le_refl _⟩,fin H' s e⟩
theorem iN {n:Nat} (F:Nat→V) (hz:n≤1000) (hl:H l=none)
  (step:∀ i o H' (Q':VK),i<n→ah H H'→(∀ H5,ah H' H5→Q' (F i) H5)→te (((dY (none::cap) σ).set 0 o).set 0 (some (.int ((0:Int)+(i:Nat))))) H' Q')
  (fin:∀ H',ah H H'→H' l=some (.lst ((List.range n).map F))→Q (.ref l) H'):gF (Itr 0 n) (dw 0) j7 te (none::cap) l σ H Q:=by
 refine ⟨n,fun i ys σ' H'=>ys=(List.range i).map F∧(∃ o,σ'=(dY (none::cap) σ).set 0 o)∧ah H H'∧H' l=some (.lst ys),⟨rfl,⟨none,rfl⟩,ah.new hl,ag⟩,?_,?_⟩
 ·rintro i ys σ' H' hi ⟨rfl,⟨o,rfl⟩,s,e⟩;refine ⟨hi,fun x H2 y=>?_⟩;obtain ⟨e2,rfl⟩:=y;subst e2;refine cV (fW (pN ?_));refine step i o H2 _ hi s fun H5 s5=>⟨s5 _ _ e,?_,?_⟩
  ·rw [List.length_map,List.length_range];exact cx (by omega)
  ·refine ⟨?_,⟨_,List.set_set ..⟩,(s.trans s5).later hl,ag⟩;rw [List.range_succ,List.map_append];rfl
 ·rintro ys σ' H' ⟨rfl,_,s,e⟩;exact ⟨Nat.le_refl _,fin H' s e⟩
noncomputable def yX (K:W.Frag) (f:Str) (y x:V) (H2:Hp) (k:Hp→Prop):Prop:=∃ a C dx fs,x=.ref a∧H2 a=some (.ins C dx fs)∧Cls K C∧cM K C f∧fs.length<1000∧k (upd H2 a (.ins C dx (dA f y fs)))
theorem yb {D:dH} {ta tv:TE} {f:Str} (h:tv σ H fun y H1=>ta σ H1 fun x H2=>yX K f y x H2 fun H3=>D.nx σ H3):BD K ta tv f D σ H:=h
theorem fy {f:Str} {y:V} {k:Hp→Prop} {a C dx:Addr} {fs:List (Str×V)} (h:H a=some (.ins C dx fs)) (c:Cls K C) (n:cM K C f) (z:fs.length<1000) (q:k (upd H a (.ins C dx (dA f y fs)))):yX K f y (.ref a) H k:=⟨a,C,dx,fs,rfl,h,c,n,z,q⟩
noncomputable def zl (c:TT) (tb:TS) (D:dH) (σ:St) (H:Hp):Prop:=∃ W:Nat→St→Hp→Prop,(∃ m,W m σ H)∧∀ m σ H,W m σ H →
 c σ H fun b H1=>if b=true then ∃ N:St→Hp→Prop,(∀ σ' H',N σ' H'→∃ m',m'<m∧W m' σ' H')∧tb { D with nx:=N,ct:=N,bk:=D.nx } σ H1 else D.nx σ H1
theorem vK {D:dH} {c:TT} {tb:TS} (h:zl c tb D σ H):wo c tb D σ H:=h
theorem Ay {D:dH} {i:Nat} {te:TE} {ti:TIp} {x:V} (e:σ[i]?=some (some x)) (h:te σ H fun y H1=>ti x y H1 fun z H2=>D.nx (σ.set i (some z)) H2):BH i te ti D σ H:=⟨x,e,h⟩
theorem AI {f:Int→Int→Int} {i j:Int} (h:Q (.int (f i j)) H):ipI f (.int i) (.int j) H Q:=⟨i,j,rfl,rfl,h⟩
theorem fV {n:Nat} {tt:TGs} {a:Addr} {xs:List V} {QS:St→Hp→Prop} (h:H a=some (.tup xs)) (hl:xs.length=n) (q:tt xs σ H QS):uf K n tt (.ref a) σ H QS:=⟨a,xs,rfl,SqT.of h,hl,q⟩
theorem fx {tg:TG} {u:TGs} {v:V} {r:List V} {QS:St→Hp→Prop} (h:tg v σ H fun σ' H'=>u r σ' H' QS):kQ tg u (v::r) σ H QS:=⟨v,r,rfl,h⟩
theorem mw {QS:St→Hp→Prop} (h:QS σ H):wW [] σ H QS:=⟨rfl,h⟩
end
section
variable {X:Cx} (K:W.Frag) (h:X.K=K)
include h
theorem aA:IxR X (xB K):=h ▸ qV
theorem aD:IxR X (xC K):=h ▸ uq
theorem md:IxR X (rIx K):=h ▸ zO
theorem bh:bI X (.builtin "isinstance") (Ar K):=h ▸ rM
theorem bW:bI X (.builtin "len") (xD K):=h ▸ zx
theorem qI (hc:X.calm=true):bI X (.builtin "all") (Ap K):=h ▸ zu hc
theorem qL (hc:X.calm=true):bI X (.builtin "sum") (Au K):=h ▸ zy hc
theorem ni:bI X (.type "list") (vd K):=h ▸ wM
theorem kI:bI X (.type "tuple") (pZ K):=h ▸ tU
theorem oG:SlR X (As K):=h ▸ yi
theorem rp:SlR X (ve K):=h ▸ yj
theorem eY {e:Expr} {ta:TE} {f:Str} {pos:Pos} (he:PE X e ta) (hb:attributeBase e f X.env (eval e X.env)=eval e X.env):PE X (.Attribute e f pos) (AW K ta f):=h ▸ Aj he hb
end
theorem kK {zs:List Int} {k:Nat}:gd (zs.map V.int) (some (k:Int)) none=(zs.drop k).map V.int:=by
 unfold gd;rw [HT.oB,HT.ro,List.length_map];rcases Nat.le_total k zs.length with h | h
 ·rw [Nat.min_eq_left h,← List.map_drop,List.take_of_length_le (by rw [List.length_map,List.length_drop]; omega)]
 ·rw [Nat.min_eq_right h,List.drop_eq_nil_of_le h,Nat.sub_self,List.take_zero]; rfl
theorem getD_mem {α:Type} {zs:List α} {k:Nat} {d:α} (h:k<zs.length):zs.getD k d∈zs:=by
 rw [List.getD_eq_getElem?_getD,List.getElem?_eq_getElem h];exact List.getElem_mem h
theorem gY {X:Cx} (K:W.Frag) (hK:X.K=K) {es:List Expr} {k:Nat} {t:TGs} {n:Nat} {pos:Pos} (hc:X.calm=true) (h:PGs X es t)
  (hn:(assignEach es X.env).length=n:=by rfl) (hst:(assignEach es X.env).findIdx? (·.1)=none:=by rfl):PG X (.Tuple es k pos) (uf K n t):=hK ▸ Al hc h hn hst
theorem lh {H:Hp}:∀ (ns:List Int),RepL H (ns.map PyData.int) (ns.map V.int)
 | []=>by simp only [List.map_nil,RepL]
 | n::r=>by
  simp only [List.map_cons,RepL,Rep];exact ⟨_,_,rfl,rfl,lh r⟩
theorem oA {H:Hp} {a:Addr} {ns:List Int} (h:H a=some (.lst (ns.map V.int))):Rep H (.list (ns.map PyData.int)) (.ref a):=by
 simp only [Rep];exact ⟨a,_,rfl,h,lh ns⟩
theorem fz {H:Hp}:∀ {ds:List PyData} {xs:List V},RepL H ds xs→ds.length=xs.length∧∀ (i:Nat) x,xs[i]?=some x→∃ d,ds[i]?=some d∧Rep H d x
 | [],xs,h=>by simp only [RepL] at h; subst h; exact ⟨rfl,fun i x e=>by simp at e⟩
 | d::ds,xs,h=>by
  simp only [RepL] at h;obtain ⟨x,r,rfl,h1,h2⟩:=h;obtain ⟨l,g⟩:=fz h2;refine ⟨by simp [l],fun i y e=>?_⟩
  cases i with
  | zero => simp at e; subst e; exact ⟨d, rfl, h1⟩
  | succ i => exact g i y (by simpa using e)
theorem rQ {K:W.Frag} {σ:St} {H:Hp} {Q:VK} {te:TE} {l a b:Addr} {xs ys:List V} (F:Nat→V) (hx:H a=some (.lst xs)) (hy:H b=some (.lst ys)) (he:xs.length=ys.length) (hz:xs.length≤1000) (hl:H l=none)
  (step:∀ (i:Nat) x y H' (Q':VK),xs[i]?=some x→ys[i]?=some y→ah H H'→(∀ H5,ah H' H5→Q' (F i) H5)→te [some x,some y] H' Q')
  (fin:∀ H',ah H H'→H' l=some (.lst ((List.range xs.length).map F))→Q (.ref l) H'):gF (Itz K a b) (uf K 2 (kQ (dw 0) (kQ (dw 1) wW))) j7 te [none,none] l σ H Q:=by
 refine ⟨xs.length,fun i zs σ' H'=>zs=(List.range i).map F∧(∃ o o',σ'=[o,o'])∧ah H H'∧H' l=some (.lst zs),⟨rfl,⟨none,none,rfl⟩,ah.new hl,ag⟩,?_,?_⟩
 ·rintro i zs σ' H' hi ⟨rfl,⟨o,o',rfl⟩,s,e⟩;refine ⟨⟨xs,ys,xs[i],ys[i]'(by omega),SqL.of (s _ _ hx),SqL.of (s _ _ hy),by simp [hi],by simp⟩,fun v H2 z=>?_⟩;obtain ⟨T,rfl,hT,z⟩:=z;obtain ⟨x,y,ex,ey,rfl⟩:=z xs ys (SqL.of (s _ _ hx)) (SqL.of (s _ _ hy));have sT:=ah.new (o:=HO.tup [x,y]) hT;refine fV ag rfl (fx (cV (fx (cV (mw (fW (pN ?_)))))));refine step i x y _ _ ex ey (s.trans sT) fun H5 s5=>⟨s5 _ _ (sT _ _ e),?_,?_⟩
  ·rw [List.length_map,List.length_range];exact cx (by omega)
  ·refine ⟨?_,⟨_,_,rfl⟩,((s.trans sT).trans s5).later hl,ag⟩;rw [List.range_succ,List.map_append];rfl
 ·rintro zs σ' H' ⟨rfl,_,s,e⟩;exact ⟨⟨xs,ys,SqL.of (s _ _ hx),SqL.of (s _ _ hy),.inl (Nat.le_refl _)⟩,fin H' s e⟩
end L2
set_option maxHeartbeats 4000000
namespace L2
open PySem
inductive DS {α:Type}:Sem α→Prop
 | pure (a:α):DS (.pure a)
 | raise (e:Value):DS (.raise e)
 | unsup (w:String):DS (.unsupported w)
 | fin (e:Ending):DS (.finish e)
 | rule {t:String} {k:Unit→Sem α}:DS (k ())→DS (.rule t k)
 | here {p:Pos} {k:Unit→Sem α}:DS (k ())→DS (.at p k)
 | load {a:Addr} {p:Option Value} {k:Obj→Sem α}:(∀ o,DS (k o))→DS (.load a p k)
 | upd {a:Addr} {p:Option Value} {f:Obj→Obj} {k:Unit→Sem α}:(∀ o,(f o).dict=o.dict∧(f o).isFreed=o.isFreed)→DS (k ())→DS (.update a p f k)
 | alloc {o:Obj} {k:Addr→Sem α}:(∀ n,DS (k n))→DS (.alloc o k)
 | point {l:List Value} {k:Unit→Sem α}:DS (k ())→DS (.point l k)
 | fresh {k:Tok→Sem α}:(∀ n,DS (k n))→DS (.fresh k)
 | ask {k:Setting→Sem α}:(∀ n,DS (k n))→DS (.ask k)
 | stack {k:List (Code×Pos)→Sem α}:(∀ n,DS (k n))→DS (.stack k)
theorem DS.andThen {α β:Type} {m:Sem α} {f:α→Sem β} (h:DS m) (g:∀ a,DS (f a)):DS (m >>= f):=by
 show DS (Sem.bind m f)
 induction h with
 | pure a=>rw [Sem.bind]; exact g a
 | raise e=>rw [Sem.bind]; exact .raise e
 | unsup w=>rw [Sem.bind]; exact .unsup w
 | fin e=>rw [Sem.bind]; exact .fin e
 | rule _ ih=>rw [Sem.bind]; exact .rule ih
 | here _ ih=>rw [Sem.bind]; exact .here ih
 | load _ ih=>rw [Sem.bind]; exact .load ih
 | upd z _ ih=>rw [Sem.bind]; exact .upd z ih
 | alloc _ ih=>rw [Sem.bind]; exact .alloc ih
 | point _ ih=>rw [Sem.bind]; exact .point ih
 | fresh _ ih=>rw [Sem.bind]; exact .fresh ih
 | ask _ ih=>rw [Sem.bind]; exact .ask ih
 | stack _ ih=>rw [Sem.bind]; exact .stack ih
noncomputable def lH (e:Addr) (dx:Option Addr) (h:Heap):Prop:=∃ o,h.get? e=some o∧o.dict=dx
theorem lH.upd {e a:Addr} {dx:Option Addr} {h:Heap} {f:Obj→Obj} (x:lH e dx h) (z:∀ o,(f o).dict=o.dict∧(f o).isFreed=o.isFreed):lH e dx (h.update a f):=by
 obtain ⟨o,h1,h2⟩:=x;by_cases q:a=e
 ·subst q;have fr:o.isFreed=false:=(Heap.get?_some_iff.mp h1).2;exact ⟨_,Heap.get?_update_self f h1 (by rw [(z o).2]; exact fr),by rw [(z o).1]; exact h2⟩
 ·exact ⟨o,by rw [Heap.get?_update_other h f q]; exact h1,h2⟩
theorem DS.run {α:Type} {M:Model} {Γ:Ctx} {m:Sem α} {Q:α→Pos→Shared→Prop} {E:Value→Pos→Shared→Prop} {p:Pos} {s:Shared} {e:Addr} {dx:Option Addr} (h:DS m) (w:Sem.wp M Γ m Q E p s) (x:lH e dx s.heap) :
  Sem.wp M Γ m (fun a p s'=>Q a p s'∧lH e dx s'.heap) (fun v p s'=>E v p s'∧lH e dx s'.heap) p s:=by
 induction h generalizing p s with
 | pure a=>rw [Sem.wp] at w ⊢; exact ⟨w,x⟩
 | raise v=>rw [Sem.wp] at w ⊢; exact ⟨w,x⟩
 | unsup q=>rw [Sem.wp] at w; exact w.elim
 | fin q=>rw [Sem.wp] at w; exact w.elim
 | rule _ ih=>rw [Sem.wp] at w ⊢; exact ih w x
 | here _ ih=>rw [Sem.wp] at w ⊢; exact ih w x
 | load _ ih=>rw [Sem.wp] at w ⊢; obtain ⟨o,h1,h2⟩:=w; exact ⟨o,h1,ih o h2 x⟩
 | upd z _ ih=>rw [Sem.wp] at w ⊢; exact ⟨w.1,ih w.2 (x.upd z)⟩
 | alloc _ ih=>rw [Sem.wp] at w ⊢; exact ih _ w (let ⟨o,h1,h2⟩:=x; ⟨o,Heap.get?_push_of_some _ h1,h2⟩)
 | point _ ih=>rw [Sem.wp] at w ⊢; exact ih w x
 | fresh _ ih=>rw [Sem.wp] at w ⊢; exact ih _ w x
 | ask _ ih=>rw [Sem.wp] at w ⊢; exact ih _ w x
 | stack _ ih=>rw [Sem.wp] at w ⊢; exact ih _ w x
theorem DS.any {α:Type} {M:Model} {A:Around} {m:Sem α} {Q:α→Shared→Prop} {E:Value→Shared→Prop} {s:Shared} {e:Addr} {dx:Option Addr} (h:DS m) (w:wpAny M A m Q E s) (x:lH e dx s.heap) :
  wpAny M A m (fun a s'=>Q a s'∧lH e dx s'.heap) E s:=fun Γ p hΓ =>
 Sem.wp_mono M Γ m (fun _ _ _ z=>z) (fun _ _ _ z=>z.1) p s (h.run (w Γ p hΓ) x)
theorem fi {α:Type} {c:Prop} [Decidable c] {a b:Sem α} (h1:DS a) (h2:DS b):DS (if c then a else b):=by split<;>assumption
theorem gN (v:Value) (i:Nat):DS (field v i):=by
 unfold field fieldsOf;refine DS.andThen ?_ fun vs=>?_
 ·cases v with
  | ref a =>
   refine DS.andThen (.load fun o=>.pure o) fun o=>?_
   cases o.data<;>first | exact .pure _ | exact .unsup _
  | _ => exact .unsup _
 ·cases vs[i]?<;>first | exact .pure _ | exact .unsup _
theorem lV (f:Array Value→Array Value) (o:Obj):(Obj.mapFields f o).dict=o.dict∧(Obj.mapFields f o).isFreed=o.isFreed:=by
 obtain ⟨c,d,dt,sl⟩:=o
 cases dt<;>exact ⟨rfl,rfl⟩
theorem fk (v:Value) (i:Nat) (x:Value):DS (setField v i x):=by
 unfold setField
 cases v with
 | ref a =>
  unfold updateField;refine DS.andThen (.load fun o=>.pure o) fun o=>?_
  cases o.data with
  | fields vs => exact fi (.upd (lV _) (.pure ())) (.unsup _)
  | _ => exact .unsup _
 | _=>exact .unsup _
theorem lX (e:Value) (f:Option Addr):DS (setFlight e f):=by
 unfold setFlight;exact DS.andThen (gN _ _) fun tb=>fi (fk _ _ _) (.pure _)
theorem wQ (env:Env) (b:Bool) (l:List Env):DS (keptBack env b l):=by
 cases l with
 | nil =>
  unfold keptBack underTheClaimsCaller;refine fi (.pure _) (DS.andThen (DS.andThen (.stack fun n=>.pure n) fun _=>.pure _) fun q=>.pure _)
 | cons c r=>unfold keptBack; exact .pure _
theorem rW (env:Env) (l:List Env):DS (behindIsImport env l):=by
 unfold behindIsImport;exact fi (.pure _) (fi (.pure _) (DS.andThen (gN _ _) fun _=>.pure _))
theorem nF:∀ l:List Env,DS (readyFrames l)
 | []=>by unfold readyFrames; exact .pure _
 | env::r=>by
  unfold readyFrames
  cases env.frame with
  | none => exact .unsup _
  | some f =>
   refine DS.andThen (.load fun o=>.pure o) fun o=>fi (.pure _) ?_;refine DS.andThen (rW _ _) fun b=>DS.andThen (wQ _ _ _) fun v=>DS.andThen (.upd (fun o=>⟨rfl,by obtain ⟨c,d,dt,sl⟩:=o; cases dt<;>rfl⟩) (.pure ())) fun _=>nF r
theorem pI (env:Env):DS (frameOf env):=by
 unfold frameOf frameEnvs;refine DS.andThen (DS.andThen (.stack fun n=>.pure n) fun _=>.pure _) fun l=>DS.andThen ?_ fun o=>?_
 ·generalize l.dropWhile _=l'
  cases l' with
  | nil => unfold frameObject; exact .pure _
  | cons c r => unfold frameObject; exact DS.andThen (nF _) fun _ => .pure _
 ·cases o with
  | none => exact .unsup _
  | some f => exact .pure _
theorem ua (f:Addr) (b:Bool):DS (entryPlaceOf f b):=by
 unfold entryPlaceOf;refine DS.andThen (.stack fun n=>.pure n) fun l=>?_
 cases l.find? _ with
 | none=>exact .pure _
 | some q=>exact .pure _
theorem nE (a b c d e:Value) (l:List Value):DS (EntryCells.newEntry a b c d e l):=by
 unfold EntryCells.newEntry newFields newObj newObjAsIs;generalize ([a,b,c,d,e]++if l.isEmpty then List.replicate 6 Value.none else l)=vs;dsimp only
 split
 ·exact DS.andThen (.unsup _) fun _=>DS.andThen (.alloc fun n=>.pure n) fun _=>.pure _
 ·exact DS.andThen (.alloc fun n=>.pure n) fun _=>.pure _
theorem lW (e:Value) (env:Env):DS (noteFrame e env):=by
  unfold noteFrame
  cases env.frame with
  | none => exact .unsup _
  | some f =>
    refine DS.andThen (gN _ _) fun hd=>?_;have tail:DS (do
        let a ← frameOf env
        let pl ← entryPlaceOf f (hd != .none)
        let b ← EntryCells.newEntry hd a .none (rawInt f) .none pl
        setField e 1 b):=DS.andThen (pI _) fun _=>DS.andThen (ua _ _) fun _=>DS.andThen (nE _ _ _ _ _ _) fun _=>fk _ _ _
    refine fi ?_ tail;refine DS.andThen (gN _ _) fun x=>fi (.pure _) (DS.andThen (fk _ _ _) fun _=>tail)
theorem jB (env:Env) (e:Value):DS (leaving env e):=by
 unfold leaving;exact DS.andThen (lW _ _) fun _=>lX _ _
end L2
namespace L2
open PySem PySem.Spec PyProof.Rows
structure Exc (g h:Heap) (H:Hp) (e C:Addr) (xo:Option Addr):Prop where
 tr:h.Traced g e (.ref C)
 ne:g.get? e=none
 he:H e=none
 hT:∀ oe vs T,h.get? e=some oe→oe.data=.fields vs→vs[1]?=some (.ref T)→H T=none
 dc:∀ dx,xo=some dx→lH e (some dx) h
noncomputable def CX1 (P:Program) (w:World):CXT:=fun outer H s E x s'=>∃ (e C:Addr) (xo:Option Addr) (H':Hp),x=.ref e∧s'.os=s.os∧AllBare s'.gens∧Un (frs outer) [] H H' s.heap s'.heap∧HOk P w H' s'.heap∧Exc s.heap s'.heap H' e C xo∧E (.ref C) xo H'
section
variable {X:Cx} {pins:List (Addr×Obj)} {σ:St} {H:Hp} {s:Shared}
theorem Inv.left {h':Heap} {es:List Addr} (I:Inv X pins σ H s) (hs:X.stack=X.env::X.outer) (he:∀ b∈es,H b=none∧X.s₀.heap.get? b=none)
  (keep:∀ b o,s.heap.get? b=some o→b∉frs X.stack→b∉es→h'.get? b=some o) (slot:∀ b o,s.heap.get? b=some o→b∈frs X.stack→∃ sl,h'.get? b=some { o with slots:=sl }):Un X.fs X.ex X.H₀ H X.s₀.heap h'∧HOk X.prog X.w H h':=by
 have sub:∀ b∈X.fs,b∈frs X.stack:=fun b hb=>by
  rw [hs]; unfold frs; rw [List.filterMap_cons]
  cases X.env.frame with
  | none => exact hb
  | some f => exact List.mem_cons_of_mem _ hb
 have nfr:∀ b u,H b=some u→b∉frs X.stack:=fun b u e z=>by rw [I.stkFree b z] at e; cases e
 have nes:∀ b u,H b=some u→b∉es:=fun b u e z=>by rw [(he b z).1] at e; cases e
 have neL:∀ b o,X.s₀.heap.get? b=some o→b∉X.fs→b∉frs X.stack:=fun b o e hb z=>by
  rcases List.mem_cons.mp (I.stkSub b z) with q | q
  ·exact absurd (Nat.lt_of_lt_of_le (Heap.lt_size e) (q ▸ I.ok.above)) (Nat.lt_irrefl _)
  ·exact hb q
 have ne0:∀ b o,X.s₀.heap.get? b=some o→b∉es:=fun b o e z=>by rw [(he b z).2] at e; cases e
 refine ⟨⟨fun b o e n hb hx=>keep b o (I.base.keep b o e n hb hx) (neL b o e hb) (ne0 b o e),fun b o e n hb hx=>?_,I.base.free,fun b o e hx=>?_,I.base.tups,I.base.frzs,I.base.tbls⟩,fun b u e=>?_⟩
 ·obtain ⟨sl,e1⟩:=I.base.slot b o e n hb hx;obtain ⟨sl',e2⟩:=slot b _ e1 (sub b hb);exact ⟨sl',e2⟩
 ·obtain ⟨o',e1⟩:=I.base.there b o e hx;by_cases hf:b∈frs X.stack
  ·obtain ⟨sl,e2⟩:=slot b o' e1 hf;exact ⟨_,e2⟩
  ·exact ⟨o',keep b o' e1 hf (ne0 b o e)⟩
 ·refine (I.hok b u e).stay (fun c v hc q=>?_) (fun _ q=>q) fun _ _ q=>q;rcases hc with z | z
  ·rw [z] at q ⊢; exact keep b v q (nfr b u e) (nes b u e)
  ·exact keep c v q (nfr c _ z) (nes c _ z)
end
theorem bg.get {P:Program} {w:World} {H:Hp} {h:Heap} {a:Addr} {o:HO} (x:bg P w H h a o):∃ ob,h.get? a=some ob:=by
 cases o with
 | lst xs=>obtain ⟨_,_,_,_,e⟩:=x; exact ⟨_,e⟩
 | tup xs=>obtain ⟨_,_,_,p⟩:=x; obtain ⟨o,e,_⟩:=p; exact ⟨_,e⟩
 | dK kvs=>obtain ⟨_,_,_,_,o,_,_,e,_⟩:=x; exact ⟨_,e⟩
 | dT kvs=>obtain ⟨_,_,_,_,o,_,_,e,_⟩:=x; exact ⟨_,e⟩
 | set S n=>obtain ⟨o,_,_,_,e,_⟩:=x; exact ⟨_,e⟩
 | ins C dx fs=>obtain ⟨_,_,_,e,_⟩:=x; exact ⟨_,e⟩
 | own y=>obtain ⟨_,e⟩:=x; exact ⟨_,e⟩
 | xd fs=>obtain ⟨_,⟨_,_,_,e,_⟩,_⟩:=x; exact ⟨_,e⟩
 | rng lo hi=>obtain ⟨_,_,_,e⟩:=x; exact ⟨_,e⟩
 | frz ob u=>obtain ⟨e,_⟩:=x; exact ⟨_,e⟩
 | tbl ps=>exact ⟨_,(show h.get? a=some _ from x)⟩
 | met f y=>exact ⟨_,(show h.get? a=some _ from x)⟩
 | ext φ=>obtain ⟨_,⟨_,e⟩,_⟩:=x; exact ⟨_,e⟩
theorem HOk.none_of {P:Program} {w:World} {H:Hp} {h:Heap} {a:Addr} (k:HOk P w H h) (e:h.get? a=none):H a=none:=by
 cases q:H a with
 | none=>rfl
 | some o=>obtain ⟨_,z⟩:=(k a o q).get; rw [e] at z; cases z
section
variable {P:Program} {w:World} {K:W.Frag} {mg:Str→Option Value} {base:Heap} {N:List Str} {qual:Str} {scope:Scope} {f:Addr} {cd:Value} {A:Around} {outer:List Env} {s₀:Shared} {H₀:Hp} {E:XK} {pins:List (Addr×Obj)} {σ:St} {H:Hp} {s:Shared}
theorem oP {l:List Env} {as:List Addr} (h:∀ b∈frs l,b∈as):∀ env∈l,∀ a,env.frame=some a→a∈as:=fun env he a ha=>h a (List.mem_filterMap.mpr ⟨env,he,ha⟩)
theorem yz {e C:Addr} {xo:Option Addr} {oe:Obj} {vs:Array Value} (I1:Inv (eG (CX1 P w) P w K mg base N qual scope f cd A outer s₀ H₀ E) pins σ H s) (he:s.heap.get? e=some oe) (hcl:oe.cls=.ref C) (hda:oe.data=.fields vs) (h1:vs[1]?=some .none)
  (hs0:s₀.heap.get? e=none) (hHe:H e=none) (dc:∀ dx,xo=some dx→oe.dict=some dx) (q:E (.ref C) xo H):(eG (CX1 P w) P w K mg base N qual scope f cd A outer s₀ H₀ E).xe (.ref e) s:=by
 have ff:=I1.stack;have hl:=W.funFrames_hide (as:=e::frs (eG (CX1 P w) P w K mg base N qual scope f cd A outer s₀ H₀ E).stack) ff (oP fun b hb=>List.mem_cons_of_mem _ hb);have fin:=wpAny_leaving_first (M:=model P w) (E:=fun v s'=>CX1 P w outer H₀ s₀ E v s') (base:=W.hideAll s.heap (e::frs (eG (CX1 P w) P w K mg base N qual scope f cd A outer s₀ H₀ E).stack)) (L:=s₀.heap.objs.size) (e:=e) (s:=s) (Q:=fun _ s'=>∃ h2,s'={ s with heap:=h2 }∧Heap.Left (W.hideAll s.heap (e::frs (eG (CX1 P w) P w K mg base N qual scope f cd A outer s₀ H₀ E).stack)) (envOfC qual scope s₀.heap.objs.size f cd::outer) e oe.cls s.heap h2) I1.ok.frames hl rfl he (fun b o z=>W.of_hideAll _ z) (W.hideAll_none _ List.mem_cons_self) hda h1 fun h2 lf=>⟨h2,rfl,lf⟩
 refine wpAny_mono (DS.any (jB _ _) fin ⟨oe,he,rfl⟩) (fun _ s' ⟨⟨h2,e2,lf⟩,hd2⟩=>?_) fun _ _ z=>z;subst e2;obtain ⟨st,ff2,tr,up⟩:=lf;have lf:=I1.left (h':=h2) (es:=[e]) rfl (fun b hb=>by rw [List.mem_singleton.mp hb]; exact ⟨hHe,hs0⟩) (fun b o z nf ne=>st b o (W.hideAll_get _ z (by intro m; rcases List.mem_cons.mp m with r | r; exact ne (by simp [r]); exact nf r)))
  (fun b o z hb=>by
   obtain ⟨_,o',z',hd⟩:=ff.mem hb;rw [z] at z'; cases z';exact up b o z hd)
 obtain ⟨oe',ws,T,oT,ts,g1,g2,g3,g4,g5,g6,g7,g8,g9⟩:=tr;have nT:T∉frs (eG (CX1 P w) P w K mg base N qual scope f cd A outer s₀ H₀ E).stack:=fun z=>by
  obtain ⟨_,o,zo,hd⟩:=ff2.mem z;rw [g7] at zo; cases zo;exact hd ts g8
 have key:∀ o,s.heap.get? T=some o→False:=fun o z=>by
  rw [W.hideAll_get _ z (by intro m; rcases List.mem_cons.mp m with r | r; exact g6 r; exact nT r)] at g5
  cases g5
 have hT0:s₀.heap.get? T=none:=by
  cases z:s₀.heap.get? T with
  | none => rfl
  | some o => obtain ⟨o', z'⟩ := I1.base.there T o z (by intro q; cases q); exact (key o' z').elim
 have hHT:H T=none:=by
  cases z:H T with
  | none => rfl
  | some o => obtain ⟨o', z'⟩ := (I1.hok T o z).get; exact (key o' z').elim
 refine ⟨e,C,xo,H,rfl,I1.os,I1.bare,lf.1,lf.2,⟨⟨oe',ws,T,oT,ts,g1,g2.trans hcl,g3,g4,hT0,g6,g7,g8,g9⟩,hs0,hHe,fun oe2 vs' T' z1 z2 z3=>?_,fun dx z=>by rw [dc dx z] at hd2; exact hd2⟩,q⟩;rw [g1] at z1; cases z1;rw [g3] at z2; cases z2;rw [g4] at z3; cases z3;exact hHT
theorem fL {h':Heap} {t':Nat} {e C:Addr} {vs:List Value} (I:Inv (eG (CX1 P w) P w K mg base N qual scope f cd A outer s₀ H₀ E) pins σ H s) (hx:Heap.MadeExcOf s.heap h' e (.ref C) vs) (q:E (.ref C) none H) :
  (eG (CX1 P w) P w K mg base N qual scope f cd A outer s₀ H₀ E).xe (.ref e) { s with heap:=h',toks:=t' }:=by
 have I1:=I.kept (t':=t') hx.keeps;obtain ⟨t,he,ht,_⟩:=hx.there
 have hs0:s₀.heap.get? e=none:=by
  cases z:s₀.heap.get? e with
  | none => rfl
  | some o => obtain ⟨o', z'⟩ := I.base.there e o z (by intro q; cases q); rw [hx.new] at z'; cases z'
 exact yz I1 he rfl rfl rfl hs0 (I.hok.none_of hx.new) (fun _ z=>by cases z) q
theorem b8:eS (CX1 P w) (eG (CX1 P w) P w K mg base N qual scope f cd A outer s₀ H₀ E) E:=by
  intro pins σ H s x s' I h;obtain ⟨e,C,xo,H',rfl,os,bare,un,hok,ex,q⟩:=h;have J:=I.call' (s':=s') (ch:=[]) os un hok bare (fun b hb=>by cases hb);obtain ⟨⟨oe,ws,T,oT,ts,g1,g2,g3,g4,g5,g6,g7,g8,g9⟩,ne,hHe,hHT,dc⟩:=ex;have hHT:=hHT oe ws T g1 g3 g4;have s0:∀ {b:Addr},s.heap.get? b=none→s₀.heap.get? b=none:=fun {b} hb=>by
    cases z:s₀.heap.get? b with
    | none=>rfl
    | some o=>obtain ⟨o',z'⟩:=I.base.there b o z (by intro q; cases q); rw [hb] at z'; cases z'
  have ff:=J.stack;have hl:=W.funFrames_hide (as:=e::T::frs (eG (CX1 P w) P w K mg base N qual scope f cd A outer s₀ H₀ E).stack) ff (oP fun b hb=>List.mem_cons_of_mem _ (List.mem_cons_of_mem _ hb));have fin:=wpAny_leaving_next (M:=model P w) (E:=fun v s'=>CX1 P w outer H₀ s₀ E v s') (base:=W.hideAll s'.heap (e::T::frs (eG (CX1 P w) P w K mg base N qual scope f cd A outer s₀ H₀ E).stack)) (L:=s₀.heap.objs.size) (e:=e) (s:=s') (Q:=fun _ s2=>∃ h2,s2={ s' with heap:=h2 }∧Heap.Left (W.hideAll s'.heap (e::T::frs (eG (CX1 P w) P w K mg base N qual scope f cd A outer s₀ H₀ E).stack)) (envOfC qual scope s₀.heap.objs.size f cd::outer) e (.ref C) s'.heap h2) J.ok.frames hl rfl
    ⟨oe,ws,T,oT,ts,g1,g2,g3,g4,W.hideAll_none _ (List.mem_cons_of_mem _ List.mem_cons_self),g6,g7,g8,g9⟩ (fun b o z=>W.of_hideAll _ z) (W.hideAll_none _ List.mem_cons_self) fun h2 lf=>⟨h2,rfl,lf⟩
  refine wpAny_mono (DS.any (jB _ _) fin ⟨oe,g1,rfl⟩) (fun _ s2 ⟨⟨h2,e2,lf⟩,hd2⟩=>?_) fun _ _ z=>z;subst e2;obtain ⟨st,ff2,tr,up⟩:=lf;have lf:=J.left (h':=h2) (es:=[e,T]) rfl (fun b hb=>by
      simp only [List.mem_cons,List.not_mem_nil,or_false] at hb;rcases hb with rfl | rfl
      · exact ⟨hHe,s0 ne⟩
      · exact ⟨hHT,s0 g5⟩) (fun b o z nf ne=>st b o (W.hideAll_get _ z (by
        intro m;rcases List.mem_cons.mp m with r | m
        · exact ne (by simp [r])
        · rcases List.mem_cons.mp m with r | r
          · exact ne (by simp [r])
          · exact nf r)))
      (fun b o z hb=>by
        obtain ⟨_,o',z',hd⟩:=ff.mem hb;rw [z] at z'; cases z';exact up b o z hd)
  obtain ⟨oe2,ws2,T2,oT2,ts2,k1,k2,k3,k4,k5,k6,k7,k8,k9⟩:=tr;have nT:T2∉frs (eG (CX1 P w) P w K mg base N qual scope f cd A outer s₀ H₀ E).stack:=fun z=>by
    obtain ⟨_,o,zo,hd⟩:=ff2.mem z;rw [k7] at zo; cases zo;exact hd ts2 k8
  have hT0:s₀.heap.get? T2=none∧H' T2=none:=by
    by_cases r:T2=T
    · subst r; exact ⟨s0 g5,hHT⟩
    · have key:∀ o,s'.heap.get? T2=some o→False:=fun o z=>by
        rw [W.hideAll_get _ z (by
          intro m;rcases List.mem_cons.mp m with q | m
          · exact k6 q
          · rcases List.mem_cons.mp m with q | q
            · exact r q
            · exact nT q)] at k5
        cases k5
      constructor
      · cases z:s₀.heap.get? T2 with
        | none=>rfl
        | some o=>obtain ⟨o',z'⟩:=J.base.there T2 o z (by intro q; cases q); exact (key o' z').elim
      · cases z:H' T2 with
        | none=>rfl
        | some o=>obtain ⟨o',z'⟩:=(J.hok T2 o z).get; exact (key o' z').elim
  refine ⟨e,C,xo,H',rfl,J.os,J.bare,lf.1,lf.2,⟨⟨oe2,ws2,T2,oT2,ts2,k1,k2,k3,k4,hT0.1,k6,k7,k8,k9⟩,s0 ne,hHe,fun oe' vs' T' z1 z2 z3=>?_,fun dx z=>by
      obtain ⟨o,y1,y2⟩:=dc dx z;rw [g1] at y1; cases y1;rw [y2] at hd2; exact hd2⟩,q⟩
  rw [k1] at z1; cases z1;rw [k3] at z2; cases z2;rw [k4] at z3; cases z3;exact hT0.2
end
noncomputable def qw (C:Addr) (E:XK) (t:TA):TS:=fun _ σ H=>t σ H fun vs H1=>vs.length≤sizeLine∧E (.ref C) none H1
theorem u9 {X:Cx} {E:XK} {x:Str} {C:Addr} {B newId initId:String} {bm:List Value} {np cpos pos:Pos} {e:Expr} {es:List Expr} {t:TA} (O:OwnCls x C bm newId X.mg X.base) (FB:ExcBaseFacts B newId initId bm) (hc:X.calm=true) (hg:Gl X x)
  (hx:∀ (pins:List (Addr×Obj)) (σ:St) (H:Hp) (s:Shared) (h':Heap) (t':Nat) (e:Addr) (vs:List Value),Inv X pins σ H s→Heap.MadeExcOf s.heap h' e (.ref C) vs→E (.ref C) none H→X.xe (.ref e) { s with heap:=h',toks:=t' })
  (ha:PA X (e::es) t) (hd:(x==("__debug__":Str))=false:=by decide) (he:starEach (e::es) X.env=(false,eval e X.env)::starEach es X.env:=by rfl) (hpl:(backTo cpos (starEach es X.env)).any (·.1)=false:=by rfl) :
  PS X (.Raise (some (.Call (.Name x np) (e::es) [] cpos)) none pos) (qw C E t):=by
 intro pins s σ H D I h;obtain ⟨tl,N,nm,q,bs,hdct,sn,sub,ab,col,dd,k0,k1,k2,k3,k5,mN,hC,hN,hni,T⟩:=O.obj;refine wpAny_Raise_call_subT (C:=C) (nm:=nm) (q:=q) (N:=N) (bs:=bs) (bm:=tl) (hdct:=hdct) (sn:=sn) (sub:=sub) (ab:=ab) (col:=col) (dd:=dd) (k0:=k0) (k1:=k1) (k2:=k2) (k3:=k3) (k5:=k5)
  FB (mN:=mN) (T.hasType FB.hasBase) (I.ok.hd hc) (by rw [he]; show (false||(backTo cpos (starEach es X.env)).any (·.1))=false; rw [hpl]; rfl) hni (gT I hg O.bound ⟨rfl,?_⟩ hd)
 have h1:=ha cpos pins s σ H _ I h;rw [he] at h1 ⊢;refine Calls.evalArgs_plain (wpAny_mono h1 (fun us s2 ⟨vs,H2,I2,r2,hl,hE⟩=>⟨rfl,by show us.length≤sizeLine; rw [← r2.length]; exact hl,I2.bk _ _ hC,hN.keeps I2.bk,T.keeps I2.bk,fun h' a mk=>?_⟩) fun _ _ y=>y);exact hx pins σ H2 s2 h' s2.toks a us I2 mk hE
section
variable {P:Program} {w:World} {K:W.Frag} {mg:Str→Option Value} {base:Heap}
theorem Fun.ok1 {x qual:Str} {st:Stmt} {f:Addr} {fd:FuncData} {N ps:List Str} {k:Nat} {sp:Sp} (F:Fun K x qual st f fd) (S:aw N ps (ak st)) (len:∀ vs H Q E,sp vs H Q E→vs.length=ps.length)
  (hbody:∀ (cdv:Value) (A:Around) (outer:List Env) (s:Shared) (H:Hp) (vs:List V) (Q:VK) (E:XK),b7 k (A.deeper (envOfC qual (ak st) s.heap.objs.size f cdv))→sp vs H Q E →
   ∃ t,PSs (eG (CX1 P w) P w K mg base N qual (ak st) f cdv A outer s H E) (cG st) t∧t { nx:=fun _ H'=>Q .non H',rt:=Q } (start N vs) H):a7 P w K mg base (CX1 P w) (k+1) f fd ps sp:=by
 obtain ⟨oc,od,kV,doc,pm,an,cdv,ct,osl,rfl,lk,hcd⟩:=F.ex;exact yI lk hcd S len fun A outer s H vs Q E hr hsp=>hbody cdv A outer s H vs Q E hr hsp
theorem a7.up {k:Nat} {f:Addr} {fd:FuncData} {ps:List Str} {sp:Sp} (F:a7 P w K mg base CX0 k f fd ps sp):a7 P w K mg base (CX1 P w) k f fd ps sp :=
 ⟨F.len,fun A outer s H args us vs Q E hr e0 hb hv hs=>codeAny_mono (F.run A outer s H args us vs Q E hr e0 hb hv hs) fun r s' h=>by
  cases r with
  | error e => exact False.elim h
  | ok fl => cases fl <;> exact h⟩
end
end L2
namespace L2
open PySem PySem.Spec PyProof.Rows PySem.W Builtin Builtin.ObjectAttr Builtin.Getset_descriptor
end L2
namespace L2
open PySem PySem.Spec PyProof.Rows
noncomputable abbrev Cx.suite (X:Cx) (e:Addr):Cx:={ X with A:=X.A.mark (some (.ref e)),calm:=false,xe:=fun _ _=>False }
noncomputable abbrev Cx.quiet (X:Cx):Cx:={ X with calm:=false }
theorem Ah {K:W.Frag} {h:Heap} {mg:Str→Option Value} {x:Str} {C:Addr} {bmB:List Value} {newId:String} (X:K.In h) (hm:mg x=some (.ref C)) (q:W.excIn K C bmB newId=true):OwnCls x C bmB newId mg h:=by
 refine ⟨hm,?_⟩;simp only [W.excIn] at q
 split at q
 case h_2=>cases q
 case h_1 dd cd sl ho =>
  split at q
  case h_2=>cases q
  case h_1 C' bm k0 k1 k2 k3 n k5 hmr hsl =>
   simp only [Bool.and_eq_true,beq_iff_eq,Bool.not_eq_true'] at q;obtain ⟨⟨⟨⟨⟨e1,e2⟩,hdel⟩,ht⟩,hok⟩,hni⟩:=q;subst e1 e2;have hh:=X _ _ ho;obtain ⟨nm,bs,mro,ns,qn,hd,sn,sub,ab,col,del⟩:=cd;simp only at hmr hdel hok hni
   subst hmr hdel;obtain ⟨l⟩:=sl;simp only at hsl
   subst hsl;exact ⟨bm,ns,nm,qn,bs,hd,sn,sub,ab,col,dd,k0,k1,k2,k3,k5,_,hh,.of_isNs (W.isNs_of_in X hok),W.nsMap_none_of_in X hok hni,W.tail_of_in X ht⟩
theorem cQ {X:Cx} {E:XK} {x:Str} {C:Addr} {B newId initId:String} {bm:List Value} {np cpos pos:Pos} {e:Expr} {es:List Expr} {t:TA} (hm:X.mg x=some (.ref C)) (q:W.excIn X.K C bm newId=true) (FB:ExcBaseFacts B newId initId bm) (hc:X.calm=true) (hg:Gl X x)
  (hx:∀ (pins:List (Addr×Obj)) (σ:St) (H:Hp) (s:Shared) (h':Heap) (t':Nat) (e:Addr) (vs:List Value),Inv X pins σ H s→Heap.MadeExcOf s.heap h' e (.ref C) vs→E (.ref C) none H→X.xe (.ref e) { s with heap:=h',toks:=t' })
  (ha:PA X (e::es) t) (hd:(x==("__debug__":Str))=false:=by decide) (he:starEach (e::es) X.env=(false,eval e X.env)::starEach es X.env:=by rfl) (hpl:(backTo cpos (starEach es X.env)).any (·.1)=false:=by rfl) :
  PS X (.Raise (some (.Call (.Name x np) (e::es) [] cpos)) none pos) (qw C E t):=fun pins s σ H D I h =>
 u9 (Ah I.ok.mod.kin hm q) FB hc hg hx ha hd he hpl pins s σ H D I h
theorem vE {C:Addr} {E:XK} {t:TA} {D:dH} {σ:St} {H:Hp} (h:t σ H fun vs H1=>vs.length≤sizeLine∧E (.ref C) none H1):qw C E t D σ H:=h
section
variable {P:Program} {w:World} {K:W.Frag} {mg:Str→Option Value} {base:Heap}
theorem a7.down {k:Nat} {f:Addr} {fd:FuncData} {ps:List Str} {sp sp':Sp} (F:a7 P w K mg base (CX1 P w) k f fd ps sp) (h:∀ vs H Q E,sp' vs H Q E→sp vs H Q (fun _ _ _=>False)):a7 P w K mg base CX0 k f fd ps sp' :=
 ⟨fun vs H Q E q=>F.len vs H Q _ (h _ _ _ _ q),fun A outer s H args us vs Q E hr e0 hb hv hs=>codeAny_mono (F.run A outer s H args us vs Q _ hr e0 hb hv (h _ _ _ _ hs)) fun r s' hq=>by
  cases r with
  | error e => obtain ⟨_, _, _, _, _, _, _, _, _, _, z⟩ := hq; exact z.elim
  | ok fl => cases fl <;> exact hq⟩
end
noncomputable def SameBut (l:Addr) (H H':Hp):Prop:=∀ b o,H b=some o→b≠l→H' b=some o
theorem ah.but {H H':Hp} (s:ah H H') (l:Addr):SameBut l H H':=fun b o e _=>s b o e
noncomputable def zc (t:TS):TS:=fun D σ H=>∃ J:St→Hp→Prop,t { D with nx:=J } σ H∧∀ σ' H',J σ' H'→D.nx σ' H'
theorem cJ {X:Cx} {st:Stmt} {t:TS} (h:PS X st t):PS X st (zc t):=by
 intro pins s σ H D I ⟨J,h1,h2⟩;refine wpAny_mono (h pins s σ H _ I h1) (fun f s' q=>?_) fun _ _ z=>z
 cases f with
 | next=>obtain ⟨σ',H',J',q⟩:=q; exact ⟨σ',H',J',h2 σ' H' q⟩
 | brk=>exact q
 | cont=>exact q
 | ret u=>exact q
theorem cK {t:TS} {D:dH} {σ:St} {H:Hp} (J:St→Hp→Prop) (h1:t { D with nx:=J } σ H) (h2:∀ σ' H',J σ' H'→D.nx σ' H'):zc t D σ H:=⟨J,h1,h2⟩
section
variable {prog:Program} {w:World} {A:Around} {E:Value→Shared→Prop} {s:Shared}
theorem rE {I u:Addr} {k:Nat} {its:Array Value} {x:Value} {Q:Value→Shared→Prop} (hI:s.heap.IsTupleIter I u k) (hu:s.heap.IsTuple u its) (hx:its[k]?=some x)
  (hQ:∀ g,g.IsTupleIter I u (k+1)→Heap.SameBut I s.heap g→Q x { s with heap:=g }):wpAny (model prog w) A (Builtin.SmallTypes.nextOf (.ref I)) Q E s:=by
 obtain ⟨oI,eI,cI,dI⟩:=id hI;obtain ⟨ou,eu,_,nu,du⟩:=hu;unfold Builtin.SmallTypes.nextOf;refine wpAny_bind (wpAny_callSpecial?_slot (name:=Str.ofString "__next__") hI.typeIs F.slot_tuple_iterator_next (wpAny_call_entry F.slot_tuple_iterator_next hI.typeIs F.entry_tuple_iterator_next ?_ (F.args_tuple_iterator_next_1 _)))
 show wpAny _ _ (field (.ref I) 0 >>= _) _ _ s
 refine wpAny_bind (wpAny_field eI dI (x:=.ref u) rfl ?_)
 show wpAny _ _ (if (Value.ref u==Value.none)=true then _ else _) _ _ s
 rw [if_neg (show ¬ ((Value.ref u==Value.none)=true) from Bool.false_ne_true)]
 show wpAny _ _ (field (.ref I) 1 >>= _) _ _ s
 refine wpAny_bind (wpAny_field eI dI (x:=.int k 0) rfl ?_)
 show wpAny _ _ (seqItems? (.ref u) >>= _) _ _ s
 refine wpAny_bind (wpAny_seqItems eu du ?_);rw [Int.toNat_natCast]; simp only [hx];refine wpAny_bind (wpAny_setField eI dI (by simp) (wpAny_pure ⟨x,rfl,wpAny_pure (hQ _ ?_ (Heap.SameBut.update ..))⟩));exact ⟨_,Heap.get?_update_self _ eI (Obj.isFreed_of_fields (Obj.data_mapFields dI _)),(Obj.cls_mapFields ..).trans cI,by rw [Obj.data_mapFields dI]; simp [rawInt]⟩
theorem yq {I u:Addr} {k:Nat} {its:Array Value} {Q:Value→Shared→Prop} (hd0:A.handled=none) (hI:s.heap.IsTupleIter I u k) (hu:s.heap.IsTuple u its) (hx:its[k]?=none)
  (hE:∀ g e,Heap.ExtBut I s.heap g→(∃ o,g.get? e=some o∧o.cls=.type "StopIteration")→E (.ref e) { s with heap:=g }):wpAny (model prog w) A (Builtin.SmallTypes.nextOf (.ref I)) Q E s:=by
 obtain ⟨oI,eI,cI,dI⟩:=id hI;obtain ⟨ou,eu,_,nu,du⟩:=hu;unfold Builtin.SmallTypes.nextOf;refine wpAny_bind (wpAny_callSpecial?_slot (name:=Str.ofString "__next__") hI.typeIs F.slot_tuple_iterator_next (wpAny_call_entry F.slot_tuple_iterator_next hI.typeIs F.entry_tuple_iterator_next ?_ (F.args_tuple_iterator_next_1 _)))
 show wpAny _ _ (field (.ref I) 0 >>= _) _ _ s
 refine wpAny_bind (wpAny_field eI dI (x:=.ref u) rfl ?_)
 show wpAny _ _ (if (Value.ref u==Value.none)=true then _ else _) _ _ s
 rw [if_neg (show ¬ ((Value.ref u==Value.none)=true) from Bool.false_ne_true)]
 show wpAny _ _ (field (.ref I) 1 >>= _) _ _ s
 refine wpAny_bind (wpAny_field eI dI (x:=.int k 0) rfl ?_)
 show wpAny _ _ (seqItems? (.ref u) >>= _) _ _ s
 refine wpAny_bind (wpAny_seqItems eu du ?_);rw [Int.toNat_natCast]; simp only [hx];refine wpAny_bind (wpAny_rule (wpAny_bind (wpAny_setField eI dI (by simp) ?_)))
 show wpAny _ _ (newExc (.type "StopIteration") [] >>= _) _ _ _; refine wpAny_bind ?_
 simp only [newExc,newTuple]; refine wpAny_bind (wpAny_newObj_type ?_ (by size_fits));refine wpAny_bind (m:=firstArgMember _ _) (wpAny_of_eq (a:=Value.none) (by first | rfl | (simp only [firstArgMember]; rfl)) ?_); refine wpAny_newObj_type ?_ (by size_fits);simp only [raiseNew]; refine wpAny_bind (wpAny_handled ?_); rw [show A.in1.handled=none from hd0];refine wpAny_bind (wpAny_pure (wpAny_throw ?_)); exact hE _ _ (((Heap.SameBut.update ..).extBut.push _).push _) ⟨_,Heap.get?_push_size _ rfl,rfl⟩
theorem tL {Z TI TO i j u v:Addr} {k l:Nat} {xs ys:Array Value} {x y a b:Value} {Q:Option Value→Shared→Prop} (D:ZipApart Z TI TO i j u v)
  (eZ:IsZip s.heap Z TI TO .none) (eI:IsPair s.heap TI (.ref i) (.ref j)) (eO:IsPair s.heap TO a b) (ei:s.heap.IsTupleIter i u k) (ej:s.heap.IsTupleIter j v l) (eu:s.heap.IsTuple u xs) (ev:s.heap.IsTuple v ys) (hx:xs[k]?=some x) (hy:ys[l]?=some y)
  (hQ:∀ g,IsZip g Z TI TO (rawInt s.heap.objs.size)→IsPair g TO x y→g.IsTupleIter i u (k+1)→g.IsTupleIter j v (l+1)→IsPair g s.heap.objs.size x y→g.objs.size=s.heap.objs.size+1 →
   (∀ c o,c≠Z→c≠TO→c≠i→c≠j→s.heap.get? c=some o→g.get? c=some o)→Q (some (.ref s.heap.objs.size)) { s with heap:=g }):wpAny (model prog w) A (pyNext (.ref Z)) Q E s:=by
 have hT:s.TypeIs (.ref Z) "zip":=⟨_,eZ,rfl⟩
 unfold pyNext;refine wpAny_bind (wpAny_attempt (wpAny_callSpecial?_slot (name:=Str.ofString "__next__") hT F.slot_zip_next (wpAny_call_entry F.slot_zip_next hT F.entry_zip_next ?_ (F.args_zip_next_1 _))))
 show wpAny _ _ (field (.ref Z) 2 >>= _) _ _ _
 refine wpAny_bind (wpAny_field eZ rfl (x:=.bool false) rfl ?_)
 show wpAny _ _ (field (.ref Z) 3 >>= _) _ _ _
 refine wpAny_bind (wpAny_field eZ rfl (x:=.ref TI) rfl ?_); refine wpAny_bind (wpAny_seqItems eI rfl ?_)
 show wpAny _ _ (Builtin.SmallTypes.ownedTupleIsFree (.ref Z) >>= _) _ _ _
 refine wpAny_bind ?_; unfold Builtin.SmallTypes.ownedTupleIsFree;refine wpAny_bind (wpAny_field eZ rfl (x:=.none) rfl (wpAny_pure ?_)); simp only [if_true];refine wpAny_bind (wpAny_rule ?_); refine wpAny_bind (wpAny_field eZ rfl (x:=.ref TO) rfl ?_);refine wpAny_bind (wpAny_setField_rec eZ (by simp) fun g1 z1 t1=>?_)
 replace z1:IsZip g1 Z TI TO .ellipsis:=z1
 refine wpAny_bind ?_; simp only [List.zipIdx_cons,List.zipIdx_nil,List.forIn_cons,List.forIn_nil]; refine wpAny_bind (wpAny_bind (wpAny_onRaise ?_))
 show wpAny _ _ (Builtin.SmallTypes.nextOf (.ref i) >>= _) _ _ _
 refine wpAny_bind (rE (ei.extBut t1.extBut D.i1z) (eu.extBut t1.extBut D.l1z) hx fun g2 i2 t2=>wpAny_pure ?_);have o2:IsPair g2 TO a b:=t2.extBut _ _ D.TOi1 (t1.extBut _ _ D.TOz eO);refine wpAny_bind (wpAny_seqItems o2 rfl ?_); refine wpAny_bind (wpAny_updateSeq_pair o2 fun g3 o3 t3=>?_)
 replace o3:IsPair g3 TO x b:=o3
 refine wpAny_bind (wpAny_letGo (wpAny_pure ?_)); refine wpAny_bind (wpAny_bind (wpAny_onRaise ?_))
 show wpAny _ _ (Builtin.SmallTypes.nextOf (.ref j) >>= _) _ _ _
 refine wpAny_bind (rE (((ej.extBut t1.extBut D.i2z).extBut t2.extBut D.i12.symm).extBut t3.extBut D.TOi2.symm) (((ev.extBut t1.extBut D.l2z).extBut t2.extBut D.l2i1).extBut t3.extBut D.l2TO) hy fun g4 j4 t4=>wpAny_pure ?_);have o4:IsPair g4 TO x b:=t4.extBut _ _ D.TOi2 o3;refine wpAny_bind (wpAny_seqItems o4 rfl ?_); refine wpAny_bind (wpAny_updateSeq_pair o4 fun g5 o5 t5=>?_)
 replace o5:IsPair g5 TO x y:=o5
 refine wpAny_bind (wpAny_letGo (wpAny_pure (wpAny_pure ?_))); refine wpAny_bind (wpAny_seqItems o5 rfl ?_); refine wpAny_bind (wpAny_newTuple ?_);have sz:g5.objs.size=s.heap.objs.size:=by rw [t5.1,t4.1,t3.1,t2.1,t1.1]
 have z5:IsZip g5 Z TI TO .ellipsis:=t5.extBut _ _ D.TOz.symm (t4.extBut _ _ D.i2z.symm (t3.extBut _ _ D.TOz.symm (t2.extBut _ _ D.i1z.symm z1)));have k5:∀ c o,c≠Z→c≠TO→c≠i→c≠j→s.heap.get? c=some o→g5.get? c=some o:=fun c o c1 c2 c3 c4 q=>t5.extBut _ _ c2 (t4.extBut _ _ c4 (t3.extBut _ _ c2 (t2.extBut _ _ c3 (t1.extBut _ _ c1 q))));have i5:g5.IsTupleIter i u (k+1):=((i2.extBut t3.extBut D.TOi1.symm).extBut t4.extBut D.i12).extBut t5.extBut D.TOi1.symm;have j5:g5.IsTupleIter j v (l+1):=j4.extBut t5.extBut D.TOi2.symm;have lz:Z<g5.objs.size:=Heap.lt_size z5
 show wpAny _ _ (Builtin.SmallTypes.ownedTupleHandOut (.ref Z) (.ref g5.objs.size) >>= _) _ _ _
 refine wpAny_bind ?_; unfold Builtin.SmallTypes.ownedTupleHandOut;have z6:IsZip (g5.push { cls:=.type "tuple",data:=.seq #[x,y] }) Z TI TO .ellipsis:=Heap.get?_push_of_some _ z5;refine wpAny_bind (wpAny_setField_rec z6 (by simp) fun g7 z7 t7=>?_)
 replace z7:IsZip g7 Z TI TO (rawInt g5.objs.size):=z7
 refine wpAny_setField_rec z7 (by simp) fun g8 z8 t8=>?_
 replace z8:IsZip g8 Z TI TO (rawInt g5.objs.size):=z8
 have up:∀ c o,c≠Z→g5.get? c=some o→g8.get? c=some o:=fun c o c1 q=>t8.extBut _ _ c1 (t7.extBut _ _ c1 (Heap.get?_push_of_some _ q));have n8:IsPair g8 g5.objs.size x y:=t8.extBut _ _ (Nat.ne_of_gt lz) (t7.extBut _ _ (Nat.ne_of_gt lz) (Heap.get?_push_size _ rfl));have s8:g8.objs.size=g5.objs.size+1:=by rw [t8.1,t7.1,Heap.size_push]
 rw [sz] at z8 n8 s8;refine wpAny_pure ⟨_,rfl,wpAny_pure ?_⟩;rw [sz];obtain ⟨oi,qi⟩:=i5;obtain ⟨oj,qj⟩:=j5;exact hQ g8 z8 (up _ _ D.TOz o5) ⟨oi,up _ _ D.i1z qi.1,qi.2⟩ ⟨oj,up _ _ D.i2z qj.1,qj.2⟩ n8 s8 fun c o c1 c2 c3 c4 q=>up c o c1 (k5 c o c1 c2 c3 c4 q)
theorem wz {Z TI TO i j u v:Addr} {k:Nat} {xs:Array Value} {Q:Option Value→Shared→Prop} (hd0:A.handled=none) (D:ZipApart Z TI TO i j u v)
    (eZ:IsZip s.heap Z TI TO .none) (eI:IsPair s.heap TI (.ref i) (.ref j)) (ei:s.heap.IsTupleIter i u k) (eu:s.heap.IsTuple u xs) (hx:xs[k]?=none)
    (hQ:∀ g,(∀ c o,c≠Z→c≠TO→c≠i→c≠j→s.heap.get? c=some o→g.get? c=some o)→Q none { s with heap:=g }):wpAny (model prog w) A (pyNext (.ref Z)) Q E s:=by
  have hT:s.TypeIs (.ref Z) "zip":=⟨_,eZ,rfl⟩
  have body:∀ (E':Value→Shared→Prop) (Q':Fin→Shared→Prop),(∀ g e,(∀ c o,c≠Z→c≠TO→c≠i→c≠j→s.heap.get? c=some o→g.get? c=some o)→(∃ o,g.get? e=some o∧o.cls=.type "StopIteration")→E' (.ref e) { s with heap:=g }) →
      wpAny (model prog w) A.in1 (Builtin.«zip.__next__» ⟨[.ref Z],[]⟩) Q' E' s:=fun E' Q' hE=>by
    show wpAny _ _ (field (.ref Z) 2 >>= _) _ _ _
    refine wpAny_bind (wpAny_field eZ rfl (x:=.bool false) rfl ?_)
    show wpAny _ _ (field (.ref Z) 3 >>= _) _ _ _
    refine wpAny_bind (wpAny_field eZ rfl (x:=.ref TI) rfl ?_); refine wpAny_bind (wpAny_seqItems eI rfl ?_)
    show wpAny _ _ (Builtin.SmallTypes.ownedTupleIsFree (.ref Z) >>= _) _ _ _
    refine wpAny_bind ?_; unfold Builtin.SmallTypes.ownedTupleIsFree;refine wpAny_bind (wpAny_field eZ rfl (x:=.none) rfl (wpAny_pure ?_)); simp only [if_true];refine wpAny_bind (wpAny_rule ?_); refine wpAny_bind (wpAny_field eZ rfl (x:=.ref TO) rfl ?_);refine wpAny_bind (wpAny_setField_rec eZ (by simp) fun g1 z1 t1=>?_)
    replace z1:IsZip g1 Z TI TO .ellipsis:=z1
    refine wpAny_bind ?_; simp only [List.zipIdx_cons,List.zipIdx_nil,List.forIn_cons,List.forIn_nil]; refine wpAny_bind (wpAny_bind (wpAny_onRaise ?_))
    show wpAny _ _ (Builtin.SmallTypes.nextOf (.ref i) >>= _) _ _ _
    refine wpAny_bind (yq hd0 (ei.extBut t1.extBut D.i1z) (eu.extBut t1.extBut D.l1z) hx fun g2 e t2 he=>?_);obtain ⟨oe,q1,q2⟩:=he;have z2:IsZip g2 Z TI TO .ellipsis:=t2 _ _ D.i1z.symm z1;have ne:e≠Z:=fun q=>by subst q; rw [z2] at q1; cases q1; simp at q2
    refine wpAny_setField_rec z2 (by simp) fun g3 _ t3=>hE g3 e (fun c o c1 _ c3 _ q=>t3.extBut _ _ c1 (t2 _ _ c3 (t1.extBut _ _ c1 q))) ⟨oe,t3.extBut _ _ ne q1,q2⟩
  unfold pyNext;refine wpAny_bind (wpAny_attempt (wpAny_callSpecial?_slot (name:=Str.ofString "__next__") hT F.slot_zip_next (wpAny_call_entry F.slot_zip_next hT F.entry_zip_next (body _ _ fun g e hk he=>?_) (F.args_zip_next_1 _))));obtain ⟨o,q1,q2⟩:=he;exact wpAny_bind (wpAny_isInstance (T:="StopIteration") (b:=true) ⟨o,q1,q2⟩ isSubtype_stop (wpAny_pure (hQ _ hk)))
end
theorem jH {h:Heap} {a:Addr} {its:Array Value} (p:IsTup h a its):h.IsTuple a its:=p
noncomputable def wF (K:W.Frag) (a b:Addr):It :=
  ⟨fun i H=>∃ xs ys x y,SqT K H a xs∧SqT K H b ys∧xs[i]?=some x∧ys[i]?=some y,
   fun i H v H'=>∃ T,v=.ref T∧H T=none∧∀ xs ys,SqT K H a xs→SqT K H b ys→∃ x y,xs[i]?=some x∧ys[i]?=some y∧H'=upd H T (.tup [x,y]),
   fun i H=>∃ xs ys,SqT K H a xs∧SqT K H b ys∧xs.length≤i⟩
theorem tG {P:Program} {w:World} {K:W.Frag} {elts:List Expr} {kt:Nat} {pt:Pos} {a b n:Addr} (ha:a<n) (hb:b<n) :
    pB P w K (.Tuple elts kt pt) (wF K a b) [n+4,n+2,n+3,n,n+1] (n+4) (fun i h=>IsZip h (n+4) (n+2) (n+3) .none∧IsPair h (n+2) (.ref n) (.ref (n+1))∧(∃ x y,IsPair h (n+3) x y)∧h.IsTupleIter n a i∧h.IsTupleIter (n+1) b i) where
  mem:=by simp
  obj:=fun i h st c hc=>by
    obtain ⟨z1,z2,⟨x,y,z3⟩,⟨o4,e4,c4,d4⟩,⟨o5,e5,c5,d5⟩⟩:=st;simp only [List.mem_cons,List.not_mem_nil,or_false] at hc;rcases hc with rfl | rfl | rfl | rfl | rfl
    · exact ⟨_,z1,fun v z=>by cases z⟩
    · exact ⟨_,z2,fun v z=>by cases z⟩
    · exact ⟨_,z3,fun v z=>by cases z⟩
    · exact ⟨_,e4,fun v z=>by rw [d4] at z; cases z⟩
    · exact ⟨_,e5,fun v z=>by rw [d5] at z; cases z⟩
  keep:=fun i h h' st k=>by
    obtain ⟨z1,z2,⟨x,y,z3⟩,z4,z5⟩:=st;exact ⟨k _ (by simp) _ z1,k _ (by simp) _ z2,⟨x,y,k _ (by simp) _ z3⟩,z4.at fun o e=>k _ (by simp) o e,z5.at fun o e=>k _ (by simp) o e⟩
  item:=by
    intro X hP hw hK hc i pins s σ H E I hf st hg;subst hP hw hK;obtain ⟨xs,ys,x,y,hqa,hqb,hx,hy⟩:=hg;obtain ⟨its,rv,p,hz⟩:=I.tuple hqa;obtain ⟨jts,rw',p',hz'⟩:=I.tuple hqb;obtain ⟨u,hu,ru⟩:=rv.get hx;obtain ⟨u',hu',ru'⟩:=rw'.get hy;obtain ⟨z1,z2,⟨x0,y0,z3⟩,z4,z5⟩:=st;have D:ZipApart (n+4) (n+2) (n+3) n (n+1) a b:=PyProof.Rows.zipApart_new ha hb;have ltz:n+4<s.heap.objs.size:=Heap.lt_size z1;refine tL D z1 z2 z3 z4 z5 (jH p) (jH p') (x:=u) (y:=u') (by simpa using hu) (by simpa using hu') fun h' a1 a2 a3 a4 a5 a6 hk=>?_;refine ⟨_,rfl,wpAny_letOwnedTupleGo_zip (s:={ s with heap:=h' }) a1 fun h2 b1 hs=>?_⟩;have neT:∀ {c:Addr},c≤n+4→c≠s.heap.objs.size:=fun h=>Nat.ne_of_lt (Nat.lt_of_le_of_lt h ltz);have kk:∀ c o,c∉[n+4,n+3,n,n+1]→s.heap.get? c=some o→h2.get? c=some o:=fun c o hc e=>by
      simp only [List.mem_cons,List.not_mem_nil,or_false,not_or] at hc;exact (hs.2 c hc.1).trans (hk c o hc.1 hc.2.1 hc.2.2.1 hc.2.2.2 e)
    have q2:h2.get? (n+2)=_:=kk _ _ (by simp only [List.mem_cons,List.not_mem_nil,or_false,not_or]; exact ⟨D.TIz,D.TITO,D.TIi1,D.TIi2⟩) z2;have q3:h2.get? (n+3)=_:=(hs.2 _ D.TOz).trans a2;obtain ⟨o4,e4,c4⟩:=a3;obtain ⟨o5,e5,c5⟩:=a4;have q4:h2.get? n=_:=(hs.2 _ D.i1z).trans e4;have q5:h2.get? (n+1)=_:=(hs.2 _ D.i2z).trans e5;have qT:h2.get? s.heap.objs.size=_:=(hs.2 _ (Ne.symm (neT (Nat.le_refl _)))).trans a5;have sub:∀ c∈[n+4,n+3,n,n+1],c∈[n+4,n+2,n+3,n,n+1]:=fun c hc=>by
      simp only [List.mem_cons,List.not_mem_nil,or_false] at hc ⊢;rcases hc with e | e | e | e
      · exact .inl e
      · exact .inr (.inr (.inl e))
      · exact .inr (.inr (.inr (.inl e)))
      · exact .inr (.inr (.inr (.inr e)))
    have I1:Inv X pins σ (upd H s.heap.objs.size (.tup [x,y])) { s with heap:=h2,toks:=s.toks }:=I.turnedL (ch:=[n+4,n+3,n,n+1]) kk (fun c hc=>hf c (sub c hc)) (fun c hc=>by
        simp only [List.mem_cons,List.not_mem_nil,or_false] at hc;rcases hc with rfl | rfl | rfl | rfl
        · exact ⟨_,b1⟩
        · exact ⟨_,q3⟩
        · exact ⟨_,q4⟩
        · exact ⟨_,q5⟩) (Nat.le_refl _) ⟨by show 2≤sizeLine; decide,[u,u'],.cons ru (.cons ru' .nil),_,qT,rfl,_,rfl⟩
    refine ⟨.ref s.heap.objs.size,_,I1,rfl,⟨_,rfl,I.hok.fresh (Nat.le_refl _),fun vs ws hv hw=>?_⟩,⟨b1,q2,⟨_,_,q3⟩,⟨_,q4,c4⟩,⟨_,q5,c5⟩⟩,fun c hc=>?_⟩
    · rw [I.tuple_inj hv hqa,I.tuple_inj hw hqb]
      exact ⟨x,y,hx,hy,rfl⟩
    · have hle:c≤n+4:=by
        simp only [List.mem_cons,List.not_mem_nil,or_false] at hc;rcases hc with rfl | rfl | rfl | rfl | rfl
        · exact Nat.le_refl _
        · exact Nat.le_add_right (n+2) 2
        · exact Nat.le_add_right (n+3) 1
        · exact Nat.le_add_right _ 4
        · exact Nat.le_add_right (n+1) 3
      rw [aj (neT hle)];exact (hf c hc).1
  done:=by
    intro X hP hw hK hc i pins s σ H E I hf st hg;subst hP hw hK;obtain ⟨xs,ys,hqa,hqb,hl⟩:=hg;obtain ⟨its,rv,p,hz⟩:=I.tuple hqa;obtain ⟨jts,rw',p',hz'⟩:=I.tuple hqb;obtain ⟨z1,z2,⟨x0,y0,z3⟩,z4,z5⟩:=st;have D:ZipApart (n+4) (n+2) (n+3) n (n+1) a b:=PyProof.Rows.zipApart_new ha hb;have l1:=rv.length;have l2:=rw'.length;refine wz (I.ok.hd hc) D z1 z2 z4 (jH p) ?_ fun h' hk=>⟨rfl,?_⟩
    · simp; omega
    · have fp:∀ c∈[n+4,n+3,n,n+1],f9 X pins H c:=fun c hc=>hf c (by
        simp only [List.mem_cons,List.not_mem_nil,or_false] at hc ⊢;rcases hc with e | e | e | e
        · exact .inl e
        · exact .inr (.inr (.inl e))
        · exact .inr (.inr (.inr (.inl e)))
        · exact .inr (.inr (.inr (.inr e))))
      have kk:∀ c o,c∉[n+4,n+3,n,n+1]→s.heap.get? c=some o→h'.get? c=some o:=fun c o hc e=>by
        simp only [List.mem_cons,List.not_mem_nil,or_false,not_or] at hc;exact hk c o hc.1 hc.2.1 hc.2.2.1 hc.2.2.2 e
      have nit:∀ c u,H c=some u→c∉[n+4,n+3,n,n+1]:=fun c u e z=>by rw [(fp c z).1] at e; cases e
      refine I.step (g':=s.gens) (d':=s.drawn) (t':=s.toks) (ch:=[n+4,n+3,n,n+1]) (fun c hc=>⟨(fp c hc).2.2.2.1,(fp c hc).2.1,(fp c hc).2.2.2.2.1,(fp c hc).2.2.2.2.2⟩) (fun c o _ _ hc e _=>kk c o hc e) (fun c o _ _ hc e _=>⟨o.slots,kk c o hc e⟩) (fun _ _ _ _ n=>n)
        (fun c o hc e=>⟨o,kk c o hc e⟩) (fun _ _ e=>e) (fun _ _ _ e=>e) (fun _ ps e=>⟨#[],by rw [e]; simp⟩) (fun m hm=>?_) (fun c u e=>?_) I.bare
      · obtain ⟨ob,es,ep,ho,r⟩:=hm
        exact ⟨ob,es,ep,kk _ ob (fun z=>(fp _ z).2.1 rfl) ho,r⟩
      · refine (I.hok c u e).stay (fun d v hd q=>kk d v ?_ q) (fun _ e'=>e') fun _ _ e'=>e'
        rcases hd with z | z
        · rw [z]; exact nit c u e
        · exact nit d _ z
  self:=fun _ _ _ _ _ st h=>wpAny_pyIter_zip st.1 h
section
variable {prog:Program} {w:World} {A:Around} {E:Value→Shared→Prop} {s:Shared}
noncomputable abbrev zT1 (h:Heap) (u:Addr):Heap:=h.push { cls:=.type "tuple_iterator",data:=.fields #[.ref u,.int 0 0] }
noncomputable abbrev zT2 (h:Heap) (u v:Addr):Heap:=(zT1 h u).push { cls:=.type "tuple_iterator",data:=.fields #[.ref v,.int 0 0] }
noncomputable abbrev zT3 (h:Heap) (u v:Addr):Heap:=(zT2 h u v).push { cls:=.type "tuple",data:=.seq #[.ref h.objs.size,.ref (zT1 h u).objs.size] }
noncomputable abbrev zT4 (h:Heap) (u v:Addr):Heap:=(zT3 h u v).push { cls:=.type "tuple",data:=.seq #[.none,.none] }
noncomputable abbrev zT5 (h:Heap) (u v:Addr):Heap:=(zT4 h u v).push { cls:=.type "zip",data:=.fields #[.none,.bool false,.bool false,.ref (zT2 h u v).objs.size,.ref (zT3 h u v).objs.size] }
theorem wA (u v:Addr) (xs ys:Array Value):Meets (Builtin.«zip.__new__» ⟨[.type "zip",.ref u,.ref v],[]⟩) (fun _ R s=>s.heap.IsTuple u xs∧s.heap.IsTuple v ys∧R (.ok (.ret (.ref (zT4 s.heap u v).objs.size))) { s with heap:=zT5 s.heap u v }) :=
 .of_wp fun prog w A R s h=>by
  obtain ⟨hp,g,d,tk,os⟩:=s; obtain ⟨t1,t2,q⟩:=h;have sz:=sub_zip;have L1:Heap.IsTuple (Shared.heap ⟨hp,g,d,tk,os⟩) u xs:=t1;have L2:Heap.IsTuple (Shared.heap ⟨hp.push { cls:=.type "tuple_iterator",data:=.fields #[.ref u,.int 0 0] },g,d,tk,os⟩) v ys:=Heap.IsTuple.push t2 _
  wp_walk using wpAny_pyIter_tuple L1,wpAny_pyIter_tuple L2
  exact ⟨_,rfl,q⟩
theorem tK {u v:Addr} {xs ys:Array Value} {Q:Value→Shared→Prop} (t1:s.heap.IsTuple u xs) (t2:s.heap.IsTuple v ys)
  (q:∀ g,IsZip g (s.heap.objs.size+4) (s.heap.objs.size+2) (s.heap.objs.size+3) .none→IsPair g (s.heap.objs.size+2) (.ref s.heap.objs.size) (.ref (s.heap.objs.size+1))→IsPair g (s.heap.objs.size+3) .none .none →
   g.IsTupleIter s.heap.objs.size u 0→g.IsTupleIter (s.heap.objs.size+1) v 0→(∀ c o,s.heap.get? c=some o→g.get? c=some o)→Q (.ref (s.heap.objs.size+4)) { s with heap:=g }) :
  wpAny (model prog w) A (call (.type "zip") [.ref u,.ref v]) Q E s:=by
 refine callType_new F.called_zip (by decide) (F.typeCall_zip_2 _ _) (F.newCall_zip_2 _ _) (fun obj=>F.args_object_init_3 obj _ _) F.entry_zip_new (wA u v xs ys) ⟨t1,t2,?_⟩;have y1:(zT1 s.heap u).objs.size=s.heap.objs.size+1:=Heap.size_push ..;have y2:(zT2 s.heap u v).objs.size=s.heap.objs.size+2:=by rw [Heap.size_push,y1]
 have y3:(zT3 s.heap u v).objs.size=s.heap.objs.size+3:=by rw [Heap.size_push,y2]
 have y4:(zT4 s.heap u v).objs.size=s.heap.objs.size+4:=by rw [Heap.size_push,y3]
 have k5:(zT5 s.heap u v).get? (zT4 s.heap u v).objs.size=some _:=Heap.get?_push_size _ rfl;have k4:(zT5 s.heap u v).get? (zT3 s.heap u v).objs.size=some _:=Heap.get?_push_of_some _ (Heap.get?_push_size _ rfl);have k3:(zT5 s.heap u v).get? (zT2 s.heap u v).objs.size=some _:=Heap.get?_push_of_some _ (Heap.get?_push_of_some _ (Heap.get?_push_size _ rfl));have k2:(zT5 s.heap u v).get? (zT1 s.heap u).objs.size=some _:=Heap.get?_push_of_some _ (Heap.get?_push_of_some _ (Heap.get?_push_of_some _ (Heap.get?_push_size _ rfl)));have k1:(zT5 s.heap u v).get? s.heap.objs.size=some _:=Heap.get?_push_of_some _ (Heap.get?_push_of_some _ (Heap.get?_push_of_some _ (Heap.get?_push_of_some _ (Heap.get?_push_size _ rfl))))
 show _∧_
 rw [y2,y3,y4] at k5;rw [y1,y2] at k3;rw [y3] at k4;rw [y1] at k2;refine ⟨by rw [y4]; exact ⟨_,k5,rfl⟩,?_⟩;rw [y4];exact q _ k5 k3 k4 ⟨_,k1,rfl,rfl⟩ ⟨_,k2,rfl,rfl⟩ fun c o z=>Heap.get?_push_of_some _ (Heap.get?_push_of_some _ (Heap.get?_push_of_some _ (Heap.get?_push_of_some _ (Heap.get?_push_of_some _ z))))
end
section
variable {X:Cx} {elts:List Expr} {kt:Nat} {pt:Pos}
noncomputable def yQ (K:W.Frag) (ta:TA):TI:=fun σ H R=>ta σ H fun vs H1=>∃ a b,vs=[.ref a,.ref b]∧(((∃ xs,SqL K H1 a xs)∧(∃ ys,SqL K H1 b ys)∧R (Itz K a b) H1)∨((∃ xs,SqT K H1 a xs)∧(∃ ys,SqT K H1 b ys)∧R (wF K a b) H1))
theorem xx {a b:Expr} {ta:TA} {p pos:Pos} (hg:Gl X "zip") (hm:X.mg "zip"=none) (ha:PA X [a,b] ta) (hs:starEach [a,b] X.env=[(false,eval a X.env),(false,eval b X.env)]:=by rfl) (hs2:starEach [b] X.env=[(false,eval b X.env)]:=by rfl) :
  PI X (.Tuple elts kt pt) (.Call (.Name "zip" p) [a,b] [] pos) (yQ X.K ta):=by
 intro pins s σ H R I h;refine Call_ (d9 I hg hm (by rfl:bootBuiltins "zip"=some (.type "zip")) (PyProof.Rows.callWith_type1 (thn (ha pos pins s σ H _ I h) fun us s1 ⟨vs,H1,I1,r1,q1⟩=>?_) (by rw [hs,hs2]) (by rw [hs2]; rfl)));obtain ⟨a,b,e,q⟩:=q1;subst e;obtain ⟨u,v,rfl,ru,rv⟩:=r1.two
 cases (show u=Value.ref a from ru)
 cases (show v=Value.ref b from rv)
 rcases q with ⟨⟨xs,ha⟩,⟨ys,hb⟩,q⟩ | ⟨⟨xs,ha⟩,⟨ys,hb⟩,q⟩
 ·obtain ⟨its,_,p1,_⟩:=I1.list ha;obtain ⟨jts,_,p2,_⟩:=I1.list hb;have l1:a<s1.heap.objs.size:=let ⟨o,ho,_⟩:=p1.isList; Heap.lt_size ho;have l2:b<s1.heap.objs.size:=let ⟨o,ho,_⟩:=p2.isList; Heap.lt_size ho;refine call_zip_2 p1.isList p2.isList fun h' hz hTI hTO h1 h2 hsz hk=>wpAny_pyIter_zip (s:={ s1 with heap:=h' }) hz ?_;refine ⟨s1.heap.objs.size+4,_,_,_,H1,rfl,I1.kept (t':=s1.toks) hk,wq l1 l2,⟨hz,hTI,⟨_,_,hTO⟩,h1,h2⟩,fun c hc=>?_,q⟩
  have hle:s1.heap.objs.size≤c:=by
   simp only [List.mem_cons,List.not_mem_nil,or_false] at hc;rcases hc with rfl | rfl | rfl | rfl | rfl
   ·exact Nat.le_add_right _ _
   ·exact Nat.le_add_right _ _
   ·exact Nat.le_add_right _ _
   ·exact Nat.le_refl _
   ·exact Nat.le_add_right _ _
  exact I1.fpOk hle (I1.hok.fresh hle)
 ·obtain ⟨its,_,p1,_⟩:=I1.tuple ha;obtain ⟨jts,_,p2,_⟩:=I1.tuple hb;have l1:a<s1.heap.objs.size:=let ⟨o,ho,_⟩:=jH p1; Heap.lt_size ho;have l2:b<s1.heap.objs.size:=let ⟨o,ho,_⟩:=jH p2; Heap.lt_size ho;refine tK (jH p1) (jH p2) fun h' hz hTI hTO h1 h2 hk=>wpAny_pyIter_zip (s:={ s1 with heap:=h' }) hz ?_;refine ⟨s1.heap.objs.size+4,_,_,_,H1,rfl,I1.kept (t':=s1.toks) hk,tG l1 l2,⟨hz,hTI,⟨_,_,hTO⟩,h1,h2⟩,fun c hc=>?_,q⟩
  have hle:s1.heap.objs.size≤c:=by
   simp only [List.mem_cons,List.not_mem_nil,or_false] at hc;rcases hc with rfl | rfl | rfl | rfl | rfl
   ·exact Nat.le_add_right _ _
   ·exact Nat.le_add_right _ _
   ·exact Nat.le_add_right _ _
   ·exact Nat.le_refl _
   ·exact Nat.le_add_right _ _
  exact I1.fpOk hle (I1.hok.fresh hle)
end
theorem vC {K:W.Frag} {σ:St} {H:Hp} {ta:TA} {R:It→Hp→Prop} (h:ta σ H fun vs H1=>∃ a b,vs=[.ref a,.ref b]∧(((∃ xs,SqL K H1 a xs)∧(∃ ys,SqL K H1 b ys)∧R (Itz K a b) H1)∨((∃ xs,SqT K H1 a xs)∧(∃ ys,SqT K H1 b ys)∧R (wF K a b) H1))):yQ K ta σ H R:=h
theorem pF {K:W.Frag} {σ:St} {H:Hp} {Q:VK} {te:TE} {l a b:Addr} {xs ys:List V} (F:Nat→V) (hx:H a=some (.tup xs)) (hy:H b=some (.tup ys)) (he:xs.length=ys.length) (hz:xs.length≤1000) (hl:H l=none)
  (step:∀ (i:Nat) x y H' (Q':VK),xs[i]?=some x→ys[i]?=some y→ah H H'→(∀ H5,ah H' H5→Q' (F i) H5)→te [some x,some y] H' Q')
  (fin:∀ H',ah H H'→H' l=some (.lst ((List.range xs.length).map F))→Q (.ref l) H'):gF (wF K a b) (uf K 2 (kQ (dw 0) (kQ (dw 1) wW))) j7 te [none,none] l σ H Q:=by
 refine ⟨xs.length,fun i zs σ' H'=>zs=(List.range i).map F∧(∃ o o',σ'=[o,o'])∧ah H H'∧H' l=some (.lst zs),⟨rfl,⟨none,none,rfl⟩,ah.new hl,ag⟩,?_,?_⟩
 ·rintro i zs σ' H' hi ⟨rfl,⟨o,o',rfl⟩,s,e⟩;refine ⟨⟨xs,ys,xs[i],ys[i]'(by omega),SqT.of (s _ _ hx),SqT.of (s _ _ hy),by simp [hi],by simp⟩,fun v H2 z=>?_⟩;obtain ⟨T,rfl,hT,z⟩:=z;obtain ⟨x,y,ex,ey,rfl⟩:=z xs ys (SqT.of (s _ _ hx)) (SqT.of (s _ _ hy));have sT:=ah.new (o:=HO.tup [x,y]) hT;refine fV ag rfl (fx (cV (fx (cV (mw (fW (pN ?_)))))));refine step i x y _ _ ex ey (s.trans sT) fun H5 s5=>⟨s5 _ _ (sT _ _ e),?_,?_⟩
  ·rw [List.length_map,List.length_range];exact cx (by omega)
  ·refine ⟨?_,⟨_,_,rfl⟩,((s.trans sT).trans s5).later hl,ag⟩;rw [List.range_succ,List.map_append];rfl
 ·rintro zs σ' H' ⟨rfl,_,s,e⟩;exact ⟨⟨xs,ys,SqT.of (s _ _ hx),SqT.of (s _ _ hy),Nat.le_refl _⟩,fin H' s e⟩
noncomputable def yT:List V→Hp→VK→Prop:=fun xs H Q=>∃ i j,xs=[.int i,.int j]∧Q (.int (if j > i then j else i)) H
theorem fN {X:Cx} (hc:X.calm=true):bI X (.builtin "max") yT:=rO hc
theorem xU {H:Hp} {Q:VK} {i j:Int} (q:Q (.int (if j > i then j else i)) H):yT [.int i,.int j] H Q:=⟨i,j,rfl,q⟩
noncomputable def Ite (K:W.Frag) (a:Addr):It :=
  ⟨fun i H=>∃ xs x,SqL K H a xs∧xs[i]?=some x,
   fun i H v H'=>∃ T,v=.ref T∧H T=none∧∀ xs,SqL K H a xs→∃ x,xs[i]?=some x∧H'=upd H T (.tup [.int (i:Nat),x]),
   fun i H=>∃ xs,SqL K H a xs∧xs.length≤i⟩
theorem tD {P:Program} {w:World} {K:W.Frag} {elts:List Expr} {kt:Nat} {pt:Pos} {a n:Addr} (ha:a<n) :
    pB P w K (.Tuple elts kt pt) (Ite K a) [n+1,n] (n+1) (fun i h=>(∃ old,IsEnum h (n+1) n ((i:Nat):Int) old)∧h.IsListIter n a i) where
  mem:=by simp
  obj:=fun i h st c hc=>by
    obtain ⟨⟨old,z1⟩,⟨o4,e4,c4,d4⟩⟩:=st;simp only [List.mem_cons,List.not_mem_nil,or_false] at hc;rcases hc with rfl | rfl
    · exact ⟨_,z1,fun v z=>by cases z⟩
    · exact ⟨_,e4,fun v z=>by rw [d4] at z; cases z⟩
  keep:=fun i h h' st k=>by
    obtain ⟨⟨old,z1⟩,z4⟩:=st;exact ⟨⟨old,k _ (by simp) _ z1⟩,z4.at fun o e=>k _ (by simp) o e⟩
  item:=by
    intro X hP hw hK hc i pins s σ H E I hf st hg;subst hP hw hK;obtain ⟨xs,x,hqa,hx⟩:=hg;obtain ⟨its,rv,p,hz⟩:=I.list hqa;obtain ⟨u,hu,ru⟩:=rv.get hx;obtain ⟨⟨old,z1⟩,z4⟩:=st;have ltz:n+1<s.heap.objs.size:=Heap.lt_size z1;have nn:n+1≠n:=Nat.succ_ne_self n;refine wpAny_pyNext_enum_item z1 z4 p.isList (x:=u) (by simpa using hu) nn fun h' a1 a2 a3 a4 hk=>?_;refine ⟨_,rfl,wpAny_letOwnedTupleGo_enum (s:={ s with heap:=h',toks:=s.toks+1 }) a1 fun h2 b1 hs=>?_⟩;have neT:∀ {c:Addr},c≤n+1→c≠s.heap.objs.size:=fun h=>Nat.ne_of_lt (Nat.lt_of_le_of_lt h ltz);have kk:∀ c o,c∉[n+1,n]→s.heap.get? c=some o→h2.get? c=some o:=fun c o hc e=>by
      simp only [List.mem_cons,List.not_mem_nil,or_false,not_or] at hc;exact (hs.2 c hc.1).trans (hk c o hc.1 hc.2 e)
    obtain ⟨o4,e4,c4⟩:=a2;have q4:h2.get? n=_:=(hs.2 _ (Ne.symm nn)).trans e4;have qT:h2.get? s.heap.objs.size=_:=(hs.2 _ (Ne.symm (neT (Nat.le_refl _)))).trans a3;have I1:Inv X pins σ (upd H s.heap.objs.size (.tup [.int (i:Nat),x])) { s with heap:=h2,toks:=s.toks+1 }:=I.turnedL (ch:=[n+1,n]) kk hf (fun c hc=>by
        simp only [List.mem_cons,List.not_mem_nil,or_false] at hc;rcases hc with rfl | rfl
        · exact ⟨_,b1⟩
        · exact ⟨_,q4⟩) (Nat.le_refl _) ⟨by show 2≤sizeLine; decide,[.int (i:Nat) s.toks,u],.cons ⟨_,rfl⟩ (.cons ru .nil),_,qT,rfl,_,rfl⟩
    refine ⟨.ref s.heap.objs.size,_,I1,rfl,⟨_,rfl,I.hok.fresh (Nat.le_refl _),fun vs hv=>?_⟩,⟨⟨_,b1⟩,⟨_,q4,c4⟩⟩,fun c hc=>?_⟩
    · rw [I.list_inj hv hqa]
      exact ⟨x,hx,rfl⟩
    · have hle:c≤n+1:=by
        simp only [List.mem_cons,List.not_mem_nil,or_false] at hc;rcases hc with rfl | rfl
        · exact Nat.le_refl _
        · exact Nat.le_add_right _ 1
      rw [aj (neT hle)];exact (hf c hc).1
  done:=by
    intro X hP hw hK hc i pins s σ H E I hf st hg;subst hP hw hK;obtain ⟨xs,hqa,hl⟩:=hg;obtain ⟨its,rv,p,hz⟩:=I.list hqa;obtain ⟨⟨old,z1⟩,z4⟩:=st;have l1:=rv.length;refine wpAny_pyNext_enum_end (I.ok.hd hc) z1 z4 p.isList (by simp; omega) fun h' hk=>⟨rfl,?_⟩
    have kk:∀ c o,c∉[n+1,n]→s.heap.get? c=some o→h'.get? c=some o:=fun c o hc e=>by
      simp only [List.mem_cons,List.not_mem_nil,or_false,not_or] at hc;exact hk c o hc.2 e
    have nit:∀ c u,H c=some u→c∉[n+1,n]:=fun c u e z=>by rw [(hf c z).1] at e; cases e
    refine I.step (g':=s.gens) (d':=s.drawn) (t':=s.toks) (ch:=[n+1,n]) (fun c hc=>⟨(hf c hc).2.2.2.1,(hf c hc).2.1,(hf c hc).2.2.2.2.1,(hf c hc).2.2.2.2.2⟩) (fun c o _ _ hc e _=>kk c o hc e) (fun c o _ _ hc e _=>⟨o.slots,kk c o hc e⟩) (fun _ _ _ _ n=>n)
      (fun c o hc e=>⟨o,kk c o hc e⟩) (fun _ _ e=>e) (fun _ _ _ e=>e) (fun _ ps e=>⟨#[],by rw [e]; simp⟩) (fun m hm=>?_) (fun c u e=>?_) I.bare
    · obtain ⟨ob,es,ep,ho,r⟩:=hm
      exact ⟨ob,es,ep,kk _ ob (fun z=>(hf _ z).2.1 rfl) ho,r⟩
    · refine (I.hok c u e).stay (fun d v hd q=>kk d v ?_ q) (fun _ e'=>e') fun _ _ e'=>e'
      rcases hd with z | z
      · rw [z]; exact nit c u e
      · exact nit d _ z
  self:=fun _ _ _ _ _ st h=>let ⟨⟨_,z⟩,_⟩:=st; wpAny_pyIter_enum z h
section
variable {X:Cx} {elts:List Expr} {kt:Nat} {pt:Pos}
noncomputable def yJ (K:W.Frag) (ta:TA):TI:=fun σ H R=>ta σ H fun vs H1=>∃ a,vs=[.ref a]∧(∃ xs,SqL K H1 a xs)∧R (Ite K a) H1
theorem ri {a:Expr} {ta:TA} {p pos:Pos} (hg:Gl X "enumerate") (hm:X.mg "enumerate"=none) (ha:PA X [a] ta) (hs:starEach [a] X.env=[(false,eval a X.env)]:=by rfl) :
  PI X (.Tuple elts kt pt) (.Call (.Name "enumerate" p) [a] [] pos) (yJ X.K ta):=by
 intro pins s σ H R I h;refine Call_ (d9 I hg hm (by rfl:bootBuiltins "enumerate"=some (.type "enumerate")) (PyProof.Rows.callWith_type1 (thn (ha pos pins s σ H _ I h) fun us s1 ⟨vs,H1,I1,r1,q1⟩=>?_) hs rfl));obtain ⟨a,e,⟨xs,ha⟩,q⟩:=q1;subst e;obtain ⟨u,rfl,ru⟩:=r1.one
 cases (show u=Value.ref a from ru)
 obtain ⟨its,_,p1,_⟩:=I1.list ha;have l1:a<s1.heap.objs.size:=let ⟨o,ho,_⟩:=p1.isList; Heap.lt_size ho;refine call_enumerate_list p1.isList fun h' hz h1 hsz hk=>wpAny_pyIter_enum (s:={ s1 with heap:=h' }) hz ?_;refine ⟨s1.heap.objs.size+1,_,_,_,H1,rfl,I1.kept (t':=s1.toks) hk,tD l1,⟨⟨_,hz⟩,h1⟩,fun c hc=>?_,q⟩
 have hle:s1.heap.objs.size≤c:=by
  simp only [List.mem_cons,List.not_mem_nil,or_false] at hc;rcases hc with rfl | rfl
  ·exact Nat.le_add_right _ _
  ·exact Nat.le_refl _
 exact I1.fpOk hle (I1.hok.fresh hle)
end
theorem vy {K:W.Frag} {ta:TA} {σ:St} {H:Hp} {R:It→Hp→Prop} (h:ta σ H fun vs H1=>∃ a,vs=[.ref a]∧(∃ xs,SqL K H1 a xs)∧R (Ite K a) H1):yJ K ta σ H R:=h
theorem kP {K:W.Frag} {σ:St} {H:Hp} {a:Addr} {xs:List V} {g:TG} {tb:TS} {D:dH} (Pv:Nat→St→Hp→Prop) (h0:Pv 0 σ H) (hl:∀ i σ H,i≤xs.length→Pv i σ H→SqL K H a xs)
  (hs:∀ i x σ H T,xs[i]?=some x→Pv i σ H→H T=none→g (.ref T) σ (upd H T (.tup [.int (i:Nat),x])) fun σ2 H2=>tb { D with nx:=Pv (i+1),ct:=Pv (i+1),bk:=D.nx } σ2 H2) (hd:∀ σ H,Pv xs.length σ H→D.nx σ H):wB (Ite K a) g tb D σ H:=by
 refine ⟨fun i m σ H=>i≤xs.length∧m=xs.length - i∧Pv i σ H,⟨_,Nat.zero_le _,rfl,h0⟩,fun i m σ H ⟨hi,hm,p⟩=>?_⟩;by_cases h:i<xs.length
 ·refine .inr ⟨⟨xs,xs[i],hl i σ H hi p,by simp [h]⟩,Pv (i+1),fun σ' H' p'=>⟨xs.length - (i+1),by omega,by omega,rfl,p'⟩,fun x H' y=>?_⟩;obtain ⟨T,rfl,hT,y⟩:=y;obtain ⟨x,hx,rfl⟩:=y xs (hl i σ H hi p);exact hs i x σ H T hx p hT
 ·have e:i=xs.length:=by omega
  subst e;exact .inl ⟨⟨xs,hl _ σ H hi p,Nat.le_refl _⟩,hd σ H p⟩
end L2
open PySem PySem.Spec PyProof.Rows
namespace L2
structure yB (K:W.Frag) (C:Addr) (m:Str) (f:Addr):Prop where
 ga:W.specialIn K (.ref C) "__getattribute__"=some (some (.builtin "type.__getattribute__"))
 rd:W.readsIn K C (.type "type")=true
 at_:W.findCls K (.ref C) (.type "type") m=some (.val (.ref f))
 kp:W.keepIn K (.ref f)=true
section
variable {X:Cx} {CX:CXT} {k:Nat} {f C:Addr} {fd:FuncData} {ps:List Str} {sp:Sp} {dvs:List V} {ds:List Value} {E:XK} {x m:Str} {p pos apos:Pos} {e o:Expr} {es:List Expr} {ta:TE} {t:TA}
theorem uQ {pl:Sem Bool} (hg:Gl X x) (hm:X.mg x=some (.ref C)) (c:yB X.K C m f) (F:a7 X.prog X.w X.K X.mg X.base CX k f fd ps sp) (hr:b7 k X.A) (hb:aL X.K fd ps ds) (hd:Vals dvs ds) (hx:eS CX X E) (ha:PA X (e::es) t)
  (hdb:(x==("__debug__":Str))=false:=by decide)
  (hst:starEach (e::es) X.env=(false,eval e X.env)::starEach es X.env:=by rfl) (hpl:(backTo pos (starEach es X.env)).any (·.1)=false:=by rfl)
  (ht:eval (.Call (.Attribute (.Name x p) m apos) (e::es) [] pos) X.env=(do
   let ov ← eval (.Name x p) X.env
   standAt apos.atName
   let (f,first) ← holding [ov] (getMethod ov m pl)
   callWith pos f first (backTo pos (starEach (e::es) X.env)) (backToKw pos (keywordEach [] X.env))):=by rfl) :
  PE X (.Call (.Attribute (.Name x p) m apos) (e::es) [] pos) (v5 sp dvs E t):=by
 intro pins s σ H Q I h;refine W.methodCall_KW (pl:=pl) (thn ((rh (v:=.ref C) hg hm rfl hdb) pins s σ H (fun x H1=>x=.ref C∧H1=H) I ⟨rfl,rfl⟩) fun u s1 ⟨x,H1,I1,rx,ex,eh⟩=>?_) ht;subst ex; subst eh;obtain rfl:u=Value.ref C:=rx
 refine W.method_cls I1.kIn c.ga (W.cls_value I1.kIn c.rd c.at_ rfl ?_);have I2:=I1.tok (s1.toks+1);refine W.callWith_K (first:=[]) (h₀:=X.base) I.ok.mod.kin c.kp (thn (ha pos pins _ σ H1 _ I2 h) fun us s2 ⟨vs,H2,I3,r,q2⟩=>⟨I3.kIn,?_⟩) hst hpl;exact my (us:=us) (vs:=vs) F hr hb hd hx I3 r q2
end
theorem aI {X:Cx} {s:Stmt} {ss:List Stmt} {r:TS} {C:TS→Prop} (d:PS X s r) (k:∀ r',r'=r→∃ ts,PSs X ss ts∧C (AX r' ts)):∃ ts,PSs X (s::ss) ts∧C ts :=
 let ⟨_,h1,h2⟩:=k r rfl
 ⟨_,aO d h1,h2⟩
theorem dr {X:Cx} {s:Stmt} {r:TS} {C:TS→Prop} (d:PS X s r) (k:∀ r',r'=r→C r'):∃ ts,PSs X [s] ts∧C ts:=⟨_,ai d,k r rfl⟩
theorem Az {r r':TS} {D:dH} {σ:St} {H:Hp} (e:r'=r) (h:r D σ H):r' D σ H:=e ▸ h
theorem ya {t u:TS} {D:dH} {σ:St} {H:Hp} (k:∀ u',u'=u→t { D with nx:=u' D } σ H):AX t u D σ H:=k u rfl
theorem B4 {us:List Value} (h:us.length=1):∃ a0,us=[a0]:=match us,h with | [a0],_=>⟨a0,rfl⟩
theorem B5 {us:List Value} (h:us.length=2):∃ a0 a1,us=[a0,a1]:=match us,h with | [a0,a1],_=>⟨a0,a1,rfl⟩
theorem B6 {us:List Value} (h:us.length=3):∃ a0 a1 a2,us=[a0,a1,a2]:=match us,h with | [a0,a1,a2],_=>⟨a0,a1,a2,rfl⟩
theorem B7 {us:List Value} (h:us.length=4):∃ a0 a1 a2 a3,us=[a0,a1,a2,a3]:=match us,h with | [a0,a1,a2,a3],_=>⟨a0,a1,a2,a3,rfl⟩
theorem B8 {us:List Value} (h:us.length=5):∃ a0 a1 a2 a3 a4,us=[a0,a1,a2,a3,a4]:=match us,h with | [a0,a1,a2,a3,a4],_=>⟨a0,a1,a2,a3,a4,rfl⟩
section
variable {κ:Type} [DecidableEq κ]
noncomputable def bp (kvs:List (κ×V)) (k:κ):Option V:=(kvs.find? fun kv=>decide (kv.1=k)).map (·.2)
noncomputable def b9 (kvs:List (κ×V)) (k:κ) (v:V):List (κ×V) :=
 if (kvs.any fun kv=>decide (kv.1=k))=true then kvs.map (fun kv=>if kv.1=k then (kv.1,v) else kv) else kvs++[(k,v)]
theorem bT {p:κ×V} {r:List (κ×V)} {k:κ} (e:p.1=k):bp (p::r) k=some p.2:=by simp [bp,List.find?_cons,e]
theorem bS {p:κ×V} {r:List (κ×V)} {k:κ} (e:¬ p.1=k):bp (p::r) k=bp r k:=by simp [bp,List.find?_cons,e]
theorem dh (k:κ):∀ kvs:List (κ×V),(kvs.any fun kv=>decide (kv.1=k))=(bp kvs k).isSome
 | []=>rfl
 | p::r=>by
  rw [List.any_cons];by_cases e:p.1=k
  ·simp only [bT e,decide_eq_true e,Bool.true_or,Option.isSome_some]
  ·rw [bS e,decide_eq_false e,Bool.false_or]; exact dh k r
theorem oU (k j:κ) (y:V):∀ kvs:List (κ×V),bp (kvs.map fun kv=>if kv.1=k then (kv.1,y) else kv) j=(bp kvs j).map fun x=>if j=k then y else x
 | []=>rfl
 | p::r=>by
  have ih:=oU k j y r;rw [List.map_cons];by_cases h:p.1=k
  ·rw [if_pos h];by_cases e:p.1=j
   ·rw [bT (p:=(p.1,y)) e,bT e,Option.map_some,if_pos (e.symm.trans h)]
   ·rw [bS (p:=(p.1,y)) e,bS e,ih]
  ·rw [if_neg h];by_cases e:p.1=j
   ·rw [bT (p:=p) e,bT e,Option.map_some,if_neg (fun z=>h (e.trans z))]
   ·rw [bS (p:=p) e,bS e,ih]
theorem lC (k j:κ) (y:V):∀ kvs:List (κ×V),bp kvs k=none→bp (kvs++[(k,y)]) j=if j=k then some y else bp kvs j
 | [],_=>by
  by_cases e:k=j
  ·rw [if_pos e.symm]; exact bT (p:=(k,y)) e
  ·rw [if_neg (fun z=>e z.symm)]; exact bS (p:=(k,y)) e
 | p::r,hn=>by
  rw [List.cons_append];have hk:¬ p.1=k:=fun z=>by rw [bT z] at hn; cases hn
  rw [bS hk] at hn;have ih:=lC k j y r hn;by_cases e:p.1=j
  ·rw [bT e,bT e,if_neg (fun z=>hk (e.trans z))]
  ·rw [bS e,bS e,ih]
theorem fK (kvs:List (κ×V)) (k j:κ) (y:V):bp (b9 kvs k y) j=if j=k then some y else bp kvs j:=by
 unfold b9;by_cases a:(kvs.any fun kv=>decide (kv.1=k))=true
 ·rw [if_pos a,oU];rw [dh] at a;by_cases e:j=k
  ·obtain ⟨x,hx⟩:=Option.isSome_iff_exists.mp a;rw [if_pos e,e,hx,Option.map_some,if_pos rfl]
  ·rw [if_neg e]
   cases bp kvs j with
   | none=>rfl
   | some x=>rw [Option.map_some,if_neg e]
 ·rw [if_neg a];refine lC k j y kvs ?_;rw [dh] at a
  cases q:bp kvs k with
  | none => rfl
  | some x => rw [q] at a; exact (a rfl).elim
theorem cP (kvs:List (κ×V)) (k:κ) (v:V):(b9 kvs k v).length≤kvs.length+1:=by
 unfold b9
 split
 ·rw [List.length_map]; omega
 ·rw [List.length_append,List.length_cons,List.length_nil]; omega
theorem hW {kvs:List (κ×V)} {k:κ} (v:V) (h:bp kvs k=none):b9 kvs k v=kvs++[(k,v)]:=by
 unfold b9;rw [dh,h];exact if_neg (by decide)
theorem dW.isSome_eq {o:Option V} {u:Option Value} (r:dW o u):o.isSome=u.isSome:=by
 cases o with
 | none=>cases u with
  | none => rfl
  | some _ => exact (show False from r).elim
 | some _=>cases u with
  | none => exact (show False from r).elim
  | some _ => rfl
theorem dW.getD {o:Option V} {u:Option Value} {d:V} {d':Value} (r:dW o u) (rd:aQ d d'):aQ (o.getD d) (u.getD d'):=by
 cases o with
 | none=>cases u with
  | none => exact rd
  | some _ => exact (show False from r).elim
 | some _=>cases u with
  | none => exact (show False from r).elim
  | some _ => exact r
theorem KV.val {kvs:List (κ×V)} {vs:List (κ×Value)} (r:KV kvs vs) (k:κ):dW (bp kvs k) (valueAt vs k):=by
 unfold KV at r
 induction r with
 | nil=>exact True.intro
 | @cons p q ps qs h t ih =>
  obtain ⟨h1,h2⟩:=h;by_cases e:p.1=k
  ·have e':q.1=k:=h1.symm.trans e;have b:valueAt (q::qs) k=some q.2:=by simp [valueAt,List.find?_cons,e']
   rw [bT e,b]; exact h2
  ·have e':¬ q.1=k:=fun z=>e (h1.trans z);have b:valueAt (q::qs) k=valueAt qs k:=by simp [valueAt,List.find?_cons,e']
   rw [bS e,b]; exact ih
theorem KV.any {kvs:List (κ×V)} {vs:List (κ×Value)} (r:KV kvs vs) (k:κ):(kvs.any fun kv=>decide (kv.1=k))=vs.any fun kv=>decide (kv.1=k):=by
 unfold KV at r
 induction r with
 | nil=>rfl
 | cons h t ih=>rw [List.any_cons,List.any_cons,ih,h.1]
theorem KV.repl {kvs:List (κ×V)} {vs:List (κ×Value)} (r:KV kvs vs) (k:κ) {y:V} {u:Value} (ry:aQ y u) :
  KV (kvs.map fun kv=>if kv.1=k then (kv.1,y) else kv) (vs.map fun kv=>if kv.1=k then (kv.1,u) else kv):=by
 unfold KV at r ⊢
 induction r with
 | nil=>exact .nil
 | @cons p q ps qs h t ih =>
  rw [List.map_cons,List.map_cons];refine .cons ?_ ih;obtain ⟨h1,h2⟩:=h;by_cases e:p.1=k
  ·rw [if_pos e,if_pos (h1.symm.trans e)]; exact ⟨h1,ry⟩
  ·rw [if_neg e,if_neg (fun z=>e (h1.trans z))]; exact ⟨h1,h2⟩
theorem KV.put {kvs:List (κ×V)} {vs:List (κ×Value)} (r:KV kvs vs) (k:κ) {y:V} {u:Value} (ry:aQ y u):KV (b9 kvs k y) (stored vs k u):=by
 unfold b9 stored;rw [r.any k];by_cases e:(vs.any fun kv=>decide (kv.1=k))=true
 ·rw [if_pos e,if_pos e]; exact r.repl k ry
 ·rw [if_neg e,if_neg e]; exact Paired.snoc r ⟨rfl,ry⟩
theorem KV.length {kvs:List (κ×V)} {vs:List (κ×Value)} (r:KV kvs vs):kvs.length=vs.length:=Paired.length r
end
theorem jI {P:Program} {w:World} {k:Key} {u:Value} (r:aQ (kV k) u):(a8 P w).is k u=true:=by
 cases k with
 | inl i=>obtain ⟨t,e⟩:=(show ∃ t,u=Value.int i t from r); subst e; exact nQ P w i t
 | inr x=>obtain ⟨t,e⟩:=(show ∃ t,u=Value.str x t from r); subst e; exact nR P w x t
theorem kR {P:Program} {w:World}:∀ {ks:List Key} {us:List Value},Vals (ks.map kV) us→ItemsAre (a8 P w) ks us
 | [],_,r=>by rw [List.map_nil] at r; cases r; exact .nil
 | k::ks,_,r=>by
  rw [List.map_cons] at r
  cases r with
  | cons h t => exact .cons (jI h) (kR t)
noncomputable abbrev KT (H:Hp):List (List Key×V)→List (List Key×Addr×Value)→Prop:=Paired fun p q=>p.1=q.1∧H q.2.1=some (.tup (p.1.map kV))∧aQ p.2 q.2.2
theorem KT.val {H:Hp} {kvs:List (List Key×V)} {xs:List (List Key×Addr×Value)} (r:KT H kvs xs) (k:List Key):dW (bp kvs k) ((atKey xs k).map (·.2)):=by
 induction r with
 | nil=>exact True.intro
 | @cons p q ps qs h t ih =>
  obtain ⟨h1,_,h2⟩:=h;by_cases e:p.1=k
  ·have e':q.1=k:=h1.symm.trans e;have b:atKey (q::qs) k=some q.2:=by simp [atKey,List.find?_cons,e']
   rw [bT e,b]; exact h2
  ·have e':¬ q.1=k:=fun z=>e (h1.trans z);have b:atKey (q::qs) k=atKey qs k:=by simp [atKey,List.find?_cons,e']
   rw [bS e,b]; exact ih
theorem KT.repl {H:Hp} {kvs:List (List Key×V)} {xs:List (List Key×Addr×Value)} (r:KT H kvs xs) (k:List Key) {y:V} {u:Value} (ry:aQ y u) :
  KT H (kvs.map fun kv=>if kv.1=k then (kv.1,y) else kv) (xs.map (putAt k u)):=by
 induction r with
 | nil=>exact .nil
 | @cons p q ps qs h t ih =>
  rw [List.map_cons,List.map_cons];refine .cons ?_ ih;obtain ⟨h1,h2,h3⟩:=h;unfold putAt;by_cases e:p.1=k
  ·rw [if_pos e,if_pos (h1.symm.trans e)]; exact ⟨h1,h2,ry⟩
  ·rw [if_neg e,if_neg (fun z=>e (h1.trans z))]; exact ⟨h1,h2,h3⟩
theorem KT.put {H:Hp} {kvs:List (List Key×V)} {xs:List (List Key×Addr×Value)} (r:KT H kvs xs) (k:List Key) {b:Addr} {y:V} {u:Value} (hb:H b=some (.tup (k.map kV))) (ry:aQ y u) :
  KT H (b9 kvs k y) (storedH xs k b u):=by
 have e:(kvs.any fun kv=>decide (kv.1=k))=(atKey xs k).isSome:=by
  rw [dh,(r.val k).isSome_eq,Option.isSome_map]
 unfold b9 storedH;rw [e];by_cases q:(atKey xs k).isSome=true
 ·rw [if_pos q,if_pos q]; exact r.repl k ry
 ·rw [if_neg q,if_neg q]; exact Paired.snoc r ⟨rfl,hb,ry⟩
theorem KT.keeps {H H':Hp} {kvs:List (List Key×V)} {xs:List (List Key×Addr×Value)} (r:KT H kvs xs) (ht:∀ b ys,H b=some (.tup ys)→H' b=some (.tup ys)):KT H' kvs xs :=
 Paired.mapP r fun _ _ z=>⟨z.1,ht _ _ z.2.1,z.2.2⟩
section
variable {P:Program} {w:World} {H:Hp} {h:Heap} {a:Addr}
theorem yZ {u:HO} (ok:HOk P w H h) (e:Rd H a u):bg P w H h a u:=e.ok ok
theorem jA {kvs:List (Key×V)} (ok:HOk P w H h) (e:Rd H a (.dK kvs)):kvs.length≤sizeLine∧(a==sysModules)=false∧∃ vs,KV kvs vs∧h.DictOf (a8 P w) a vs :=
 show bg P w H h a (.dK kvs) from yZ ok e
theorem t9 {kvs:List (Key×V)} (ok:HOk P w H h) (e:H a=some (.dK kvs)):kvs.length≤sizeLine∧(a==sysModules)=false∧∃ vs,KV kvs vs∧h.DictOf (a8 P w) a vs:=jA ok (.inl e)
theorem eW {ks:List Key} (ok:HOk P w H h) (e:H a=some (.tup (ks.map kV))):(tupleKind (a8 P w)).is h ks a:=by
 obtain ⟨_,its,r,o,h1,h2,n,h3⟩:=(show bg P w H h a (.tup (ks.map kV)) from ok a _ e)
 exact ⟨o,its.toArray,n,h1,h2,h3,by simpa using kR r⟩
theorem jC {kvs:List (List Key×V)} (ok:HOk P w H h) (e:Rd H a (.dT kvs)):kvs.length≤sizeLine∧(a==sysModules)=false ∧
  ∃ xs,KT H kvs xs∧h.DictOfH (tupleKind (a8 P w)) a xs:=by
 obtain ⟨z,y,xs,r,o,es,ep,h1,h2,h3,h4,h5⟩:=(show bg P w H h a (.dT kvs) from yZ ok e)
 refine ⟨z,y,xs,r,o,es,ep,h1,h2,h3,h4,fun x hx=>?_,h5⟩
 have all:∀ {l:List (List Key×V)} {m:List (List Key×Addr×Value)},KT H l m→∀ x∈m,(tupleKind (a8 P w)).is h x.1 x.2.1:=by
  intro l m q
  induction q with
  | nil => intro x hx; exact nomatch hx
  | @cons p q ps qs hq t ih =>
   intro x hx;rcases List.mem_cons.mp hx with e | hx
   ·subst e;exact eW ok (by rw [← hq.1]; exact hq.2.1)
   ·exact ih x hx
 exact all r x hx
theorem yG {kvs:List (List Key×V)} (ok:HOk P w H h) (e:H a=some (.dT kvs)):kvs.length≤sizeLine∧(a==sysModules)=false ∧
  ∃ xs,KT H kvs xs∧h.DictOfH (tupleKind (a8 P w)) a xs:=jC ok (.inl e)
end
noncomputable def dG (H:Hp) (a:Addr) (y:V) (r:Option V):Prop :=
 (∃ kvs k,Rd H a (.dK kvs)∧y=kV k∧r=bp kvs k)∨∃ kvs k b,Rd H a (.dT kvs)∧y=.ref b∧H b=some (.tup (k.map kV))∧r=bp kvs k
noncomputable def jr (H:Hp) (a:Addr) (y v:V) (H':Hp):Prop :=
 (∃ kvs k,H a=some (.dK kvs)∧y=kV k∧kvs.length<sizeLine∧H'=upd H a (.dK (b9 kvs k v))) ∨
 ∃ kvs k b,H a=some (.dT kvs)∧y=.ref b∧H b=some (.tup (k.map kV))∧kvs.length<sizeLine∧H'=upd H a (.dT (b9 kvs k v))
theorem dG.k {H:Hp} {a:Addr} {kvs:List (Key×V)} {k:Key} (e:H a=some (.dK kvs)):dG H a (kV k) (bp kvs k):=.inl ⟨kvs,k,.inl e,rfl,rfl⟩
theorem dG.t {H:Hp} {a b:Addr} {kvs:List (List Key×V)} {k:List Key} (e:H a=some (.dT kvs)) (eb:H b=some (.tup (k.map kV))):dG H a (.ref b) (bp kvs k):=.inr ⟨kvs,k,b,.inl e,rfl,eb,rfl⟩
theorem jr.k {H:Hp} {a:Addr} {kvs:List (Key×V)} {k:Key} {v:V} (e:H a=some (.dK kvs)) (hl:kvs.length<sizeLine):jr H a (kV k) v (upd H a (.dK (b9 kvs k v))):=.inl ⟨kvs,k,e,rfl,hl,rfl⟩
theorem jr.t {H:Hp} {a b:Addr} {kvs:List (List Key×V)} {k:List Key} {v:V} (e:H a=some (.dT kvs)) (eb:H b=some (.tup (k.map kV))) (hl:kvs.length<sizeLine) :
  jr H a (.ref b) v (upd H a (.dT (b9 kvs k v))):=.inr ⟨kvs,k,b,e,rfl,eb,hl,rfl⟩
section
variable {X:Cx} {pins:List (Addr×Obj)} {σ:St} {H:Hp} {s:Shared} {a:Addr} {y v:V} {u r:Value} {o:Option V} {A:Around} {E:Value→Shared→Prop}
theorem Inv.big (I:Inv X pins σ H s):sysModules<s.heap.objs.size:=by
 have h:mainGlobals<s.heap.objs.size:=(I.mod.glob.keeps I.bk).lt;exact Nat.lt_trans (by decide) h
theorem rT {Q:Value→Shared→Prop} (hu:A.units+1<cLine) (I:Inv X pins σ H s) (g:dG H a y (some v)) (ry:aQ y u) (h:∀ w' s',Inv X pins σ H s'→aQ v w'→Q w' s') :
  wpAny (model X.prog X.w) A (getItem (.ref a) u) Q E s:=by
 rcases g with ⟨kvs,k,e,ey,l⟩ | ⟨kvs,k,b,e,ey,eb,l⟩
 ·subst ey;obtain ⟨z,hd,vs,rel,dd⟩:=jA I.hok e;obtain ⟨w',hw,rw'⟩:=dW.some_of (v:=v) (o:=valueAt vs k) (by rw [l]; exact rel.val k);exact wpAny_getItem_of (jI ry) dd.mapOf hw (h w' _ (I.tok _) rw')
 ·subst ey
  cases (show u=Value.ref b from ry)
  obtain ⟨z,hd,xs,rel,dd⟩:=jC I.hok e;obtain ⟨w',hw,rw'⟩:=dW.some_of (v:=v) (o:=(atKey xs k).map (·.2)) (by rw [l]; exact rel.val k);obtain ⟨p,hp,hp2⟩:=Option.map_eq_some_iff.mp hw;refine wpAny_getItem_heap (tupleKind_room_in1 hu) (eW I.hok eb) dd hp ?_;rw [hp2];exact h w' _ (I.tok _) rw'
theorem BY {Q:Value→Shared→Prop} (hu:A.units+1<cLine) (I:Inv X pins σ H s) (g:dG H a y o) (ry:aQ y u) (h:∀ s',Inv X pins σ H s'→Q (.bool o.isSome) s') :
  wpAny (model X.prog X.w) A (compareOp .In u (.ref a)) Q E s:=by
 rcases g with ⟨kvs,k,e,ey,l⟩ | ⟨kvs,k,b,e,ey,eb,l⟩
 ·subst ey;obtain ⟨z,hd,vs,rel,dd⟩:=jA I.hok e;refine wpAny_in_of (jI ry) hd dd.mapOf ?_;rw [← (rel.val k).isSome_eq,← l];exact h _ (I.tok _)
 ·subst ey
  cases (show u=Value.ref b from ry)
  obtain ⟨z,hd,xs,rel,dd⟩:=jC I.hok e;refine wpAny_in_heap (tupleKind_room_in1 hu) (eW I.hok eb) hd dd ?_;have q:=(rel.val k).isSome_eq;rw [Option.isSome_map] at q;rw [← q,← l];exact h _ (I.tok _)
theorem wO {Q:Value→Shared→Prop} (hu:A.units+1<cLine) (I:Inv X pins σ H s) (g:dG H a y o) (ry:aQ y u) (h:∀ s',Inv X pins σ H s'→Q (.bool (!o.isSome)) s') :
  wpAny (model X.prog X.w) A (compareOp .NotIn u (.ref a)) Q E s:=by
 rcases g with ⟨kvs,k,e,ey,l⟩ | ⟨kvs,k,b,e,ey,eb,l⟩
 ·subst ey;obtain ⟨z,hd,vs,rel,dd⟩:=jA I.hok e;refine wpAny_notIn_of (jI ry) hd dd.mapOf ?_;rw [← (rel.val k).isSome_eq,← l];exact h _ (I.tok _)
 ·subst ey
  cases (show u=Value.ref b from ry)
  obtain ⟨z,hd,xs,rel,dd⟩:=jC I.hok e;refine wpAny_notIn_heap (tupleKind_room_in1 hu) (eW I.hok eb) hd dd ?_;have q:=(rel.val k).isSome_eq;rw [Option.isSome_map] at q;rw [← q,← l];exact h _ (I.tok _)
theorem i6 {h':Heap} {t':Nat} {ob:HO} (I:Inv X pins σ H s) (mu:Mut (H a)) (hs:Heap.SameBut a s.heap h') (he:∃ q,h'.get? a=some q) (new:bg X.prog X.w (upd H a ob) h' a ob) :
  Inv X pins σ (upd H a ob) { s with heap:=h',toks:=t' } :=
 I.write (x:=a) (e:=a) mu (.inl rfl) (fun b q hb z=>(hs.2 b hb).trans z) he new
theorem zC {P:Program} {w:World} {H':Hp} {h':Heap} {kvs:List (Key×V)} {vs:List (Key×Value)} (z:kvs.length≤sizeLine) (hd:(a==sysModules)=false) (rel:KV kvs vs) (dd:h'.DictOf (a8 P w) a vs) :
  bg P w H' h' a (.dK kvs):=⟨z,hd,vs,rel,dd⟩
theorem rV {H':Hp} {Q:Unit→Shared→Prop} (hu:A.units+1<cLine) (I:Inv X pins σ H s) (g:jr H a y v H') (ry:aQ y u) (rv:aQ v r) (h:∀ s',Inv X pins σ H' s'→Q () s') :
  wpAny (model X.prog X.w) A (setItem (.ref a) u r) Q E s:=by
 rcases g with ⟨kvs,k,e,ey,l,eH⟩ | ⟨kvs,k,b,e,ey,eb,l,eH⟩
 ·subst ey eH;obtain ⟨z,hd,vs,rel,dd⟩:=t9 I.hok e;have hz:vs.length≤sizeLine:=by rw [← rel.length]; exact z
  have hl:(b9 kvs k v).length≤sizeLine:=by have:=cP kvs k v; omega
  refine wpAny_setItem_pairs (hsz:=hz) (jI ry) dd fun h' dd' hs=>h _ ?_;have he:∃ q,h'.get? a=some q:=let ⟨q,_,_,hq,_⟩:=dd'; ⟨q,hq⟩;exact i6 I (by rw [e]; exact True.intro) hs he (zC hl hd (rel.put k rv) dd')
 ·subst ey eH
  cases (show u=Value.ref b from ry)
  obtain ⟨z,hd,xs,rel,dd⟩:=yG I.hok e;have hz:xs.length≤sizeLine:=by rw [← Paired.length rel]; exact z
  have hl:(b9 kvs k v).length≤sizeLine:=by have:=cP kvs k v; omega
  refine wpAny_setItem_heap (hsz:=hz) (tupleKind_room_in1 hu) (eW I.hok eb) dd fun h' dd' hs=>h _ ?_;obtain ⟨q,es,ep,hq,h2,h3,h4,_,h5⟩:=dd';refine i6 I (by rw [e]; exact True.intro) hs ⟨q,hq⟩ ⟨hl,hd,_,(rel.put k eb rv).keeps fun c ys ec=>?_,q,es,ep,hq,h2,h3,h4,h5⟩;rw [aj (cm ec e (fun z=>nomatch z))];exact ec
end
noncomputable def wG (i:Expr):Prop:=∀ ov iv,subscripted i false ov iv=operate [ov,iv] (getItem ov iv)
theorem mX {prog:Program} {w:World} {A:Around} {E:Value→Shared→Prop} {s:Shared} {env:Env} {value slice:Expr} {pos:Pos} {T id:String} {Q:Value→Shared→Prop}
  (hl:typeLookup (.type T) "__getitem__"=pure (some (.builtin id))) (hs:wG slice)
  (h:wpAny (model prog w) A (eval value env) (fun o s₁=>wpAny (model prog w) A (eval slice env) (fun i s₂=>s₂.TypeIs o T∧wpAny (model prog w) A (getItem o i) Q E s₂) E s₁) E s) :
  wpAny (model prog w) A (eval (.Subscript value slice pos) env) Q E s:=by
 refine Subscript_ (wpAny_mono h (fun o s₁ h₁=>wpAny_mono h₁ (fun i s₂ h₂=>?_) fun _ _ x=>x) fun _ _ x=>x);obtain ⟨hT,h₂⟩:=h₂;unfold subscriptTail;refine wpAny_bind ?_;rw [getitemInPython_of_ne hT.not_modules];refine wpAny_bind (wpAny_specialOf hT hl ?_)
 have fin:wpAny (model prog w) A (subscripted slice false o i) (fun r s₃=>wpAny (model prog w) A (letTemporaryGo value o r >>= fun _=>pure r) Q E s₃) E s₂:=by
  rw [hs o i];exact wpAny_operating (wpAny_mono h₂ (fun r s₃ h₃=>wpAny_bind (wpAny_letTemporaryGo (wpAny_pure h₃))) fun _ _ x=>x)
 first
  | exact wpAny_pure (wpAny_bind fin)
  | exact wpAny_bind (wpAny_pure (wpAny_bind fin))
  | exact wpAny_bind fin
theorem nC {X:Cx} {pins:List (Addr×Obj)} {σ:St} {H:Hp} {s:Shared} {a:Addr} {y:V} {o:Option V} (I:Inv X pins σ H s) (g:dG H a y o):s.TypeIs (.ref a) "dict":=by
 rcases g with ⟨kvs,k,e,_,_⟩ | ⟨kvs,k,b,e,_,_,_⟩
 ·obtain ⟨_,_,vs,_,dd⟩:=jA I.hok e;exact dd.typeIs
 ·obtain ⟨_,_,xs,_,dd⟩:=jC I.hok e;exact dd.typeIs
noncomputable def za (td ty:TE):TE:=fun σ H Q=>td σ H fun x H1=>ty σ H1 fun y H2=>∃ a v,x=.ref a∧dG H2 a y (some v)∧Q v H2
noncomputable def BI (ty td:TE):TE:=fun σ H Q=>ty σ H fun y H1=>td σ H1 fun x H2=>∃ a o,x=.ref a∧dG H2 a y o∧Q (.bl o.isSome) H2
noncomputable def rB (ty td:TE):TE:=fun σ H Q=>ty σ H fun y H1=>td σ H1 fun x H2=>∃ a o,x=.ref a∧dG H2 a y o∧Q (.bl (!o.isSome)) H2
noncomputable def y6 (td ty tv:TE):TS:=fun D σ H=>tv σ H fun v H1=>td σ H1 fun x H2=>ty σ H2 fun y H3=>∃ a H4,x=.ref a∧jr H3 a y v H4∧D.nx σ H4
section
variable {X:Cx} {o i e value:Expr} {pos pos' tpos:Pos} {td ty tv:TE}
theorem rf (hu:X.A.units+1<cLine) (ho:PE X o td) (hi:PE X i ty) (hs:wG i):PE X (.Subscript o i pos) (za td ty):=by
 intro pins s σ H Q I h;refine mX PySem.F.slot_dict_getitem.lookup hs (thn (ho pins s σ H _ I h) fun u s1 ⟨x,H1,I1,rx,q1⟩=>thn (hi pins s1 σ H1 _ I1 q1) fun iv s2 ⟨y,H2,I2,ry,a,v,ex,g,q2⟩=>?_);subst ex;obtain rfl:u=Value.ref a:=rx
 exact ⟨nC I2 g,rT hu I2 g ry fun w' s3 I3 rw'=>⟨v,H2,I3,rw',q2⟩⟩
theorem Ai (hu:X.A.units+1<cLine) (hi:PE X i ty) (ho:PE X o td):PC X .In i o (BI ty td):=by
 intro pins s σ H Q I h;refine thn (hi pins s σ H _ I h) fun iv s1 ⟨y,H1,I1,ry,q1⟩=>thn (ho pins s1 σ H1 _ I1 q1) fun u s2 ⟨x,H2,I2,rx,a,ov,ex,g,q2⟩=>?_;subst ex;obtain rfl:u=Value.ref a:=rx
 exact BY hu I2 g ry fun s3 I3=>⟨.bl ov.isSome,H2,I3,rfl,q2⟩
theorem kY (hu:X.A.units+1<cLine) (hi:PE X i ty) (ho:PE X o td):PC X .NotIn i o (rB ty td):=by
 intro pins s σ H Q I h;refine thn (hi pins s σ H _ I h) fun iv s1 ⟨y,H1,I1,ry,q1⟩=>thn (ho pins s1 σ H1 _ I1 q1) fun u s2 ⟨x,H2,I2,rx,a,ov,ex,g,q2⟩=>?_;subst ex;obtain rfl:u=Value.ref a:=rx
 exact wO hu I2 g ry fun s3 I3=>⟨.bl (!ov.isSome),H2,I3,rfl,q2⟩
theorem jh (hu:X.A.units+1<cLine) (ho:PE X o td) (hi:PE X i ty) (hv:PE X value tv) (hs:swapsWith value (some (.Subscript o i pos')) pos.line X.env=pure false) :
  PS X (.Assign [.Subscript o i pos'] value pos) (y6 td ty tv):=by
 intro pins s σ H D I h;refine wpAny_Assign_Subscript (thn (hv pins s σ H _ I h) fun r s1 ⟨v,H1,I1,rv,q1⟩=>thn (ho pins s1 σ H1 _ I1 q1) fun u s2 ⟨x,H2,I2,rx,q2⟩=>thn (hi pins s2 σ H2 _ I2 q2) fun iv s3 ⟨y,H3,I3,ry,a,H4,ex,g,q3⟩=>?_) hs;subst ex;obtain rfl:u=Value.ref a:=rx
 exact rV hu I3 g ry rv fun s4 I4=>⟨σ,H4,I4,q3⟩
end
theorem t6 {P:Program} {w:World} {H:Hp} (h:Heap) (hb:sysModules<h.objs.size):bg P w H (h.push { cls:=.type "dict",data:=.dict #[] }) h.objs.size (.dK []) :=
 ⟨Nat.zero_le _,beq_eq_false_iff_ne.mpr (Ne.symm (Nat.ne_of_lt hb)),[],.nil,Heap.DictOf.new h⟩
theorem nG {P:Program} {w:World} {H:Hp} (h:Heap) (hb:sysModules<h.objs.size):bg P w H (h.push { cls:=.type "dict",data:=.dict #[] }) h.objs.size (.dT []) :=
 ⟨Nat.zero_le _,beq_eq_false_iff_ne.mpr (Ne.symm (Nat.ne_of_lt hb)),[],.nil,_,#[],0,Heap.get?_push_size _ rfl,⟨rfl,rfl,rfl⟩,rfl,rfl,List.nodup_nil⟩
noncomputable def wb:TE:=fun _ H Q=>∀ p,H p=none→Q (.ref p) (upd H p (.dK []))
noncomputable def wc:TE:=fun _ H Q=>∀ p,H p=none→Q (.ref p) (upd H p (.dT []))
section
variable {X:Cx} {pos:Pos}
theorem uU:PE X (.Dict [] [] pos) wb:=fun pins s σ H Q I h =>
 wpAny_Dict_empty ⟨.ref s.heap.objs.size,_,I.laid (a:=s.heap.objs.size) (o:=.dK []) (t':=s.toks) (fun _ _ q=>Heap.get?_push_of_some _ q) (Nat.le_refl _) (t6 s.heap I.big),rfl,h _ (I.hok.fresh (Nat.le_refl _))⟩
theorem jP:PE X (.Dict [] [] pos) wc:=fun pins s σ H Q I h =>
 wpAny_Dict_empty ⟨.ref s.heap.objs.size,_,I.laid (a:=s.heap.objs.size) (o:=.dT []) (t':=s.toks) (fun _ _ q=>Heap.get?_push_of_some _ q) (Nat.le_refl _) (nG s.heap I.big),rfl,h _ (I.hok.fresh (Nat.le_refl _))⟩
end
noncomputable def wj:List (TE×TE)→St→Hp→(List (V×V)→Hp→Prop)→Prop
 | [],_,H,Q=>Q [] H
 | (tk,tv)::r,σ,H,Q=>tk σ H fun x H1=>tv σ H1 fun y H2=>wj r σ H2 fun ps H3=>Q ((x,y)::ps) H3
noncomputable abbrev VV:List (V×V)→List (Value×Value)→Prop:=Paired fun p q=>aQ p.1 q.1∧aQ p.2 q.2
noncomputable def PPs (X:Cx) (pos:Pos) (keys:List (Option Expr)) (values:List Expr) (trs:List (TE×TE)):Prop :=
 ∀ (pins:List (Addr×Obj)) (s:Shared) (σ:St) (H:Hp) (Q:List (V×V)→Hp→Prop),Inv X pins σ H s→wj trs σ H Q →
  wpAny (model X.prog X.w) X.A (evalPairs (pairTrees keys values X.env pos)) (fun vs s'=>∃ ps H',Inv X pins σ H' s'∧VV ps vs∧Q ps H') X.xe s
theorem xy {X:Cx} {pos:Pos}:PPs X pos [] [] []:=fun pins s σ H Q I h=>pairTrees_nil_walk ⟨[],H,I,.nil,h⟩
theorem u6 {X:Cx} {pos:Pos} {k v:Expr} {ks:List (Option Expr)} {vs:List Expr} {tk tv:TE} {trs:List (TE×TE)} (hk:PE X k tk) (hv:PE X v tv) (hr:PPs X pos ks vs trs) :
  PPs X pos (some k::ks) (v::vs) ((tk,tv)::trs):=fun pins s σ H Q I h =>
 pairTrees_cons_walk (thn (hk pins s σ H _ I h) fun u s1 ⟨x,H1,I1,rx,q1⟩=>thn (hv pins s1 σ H1 _ I1 q1) fun w2 s2 ⟨y,H2,I2,ry,q2⟩ =>
  thn (hr pins s2 σ H2 _ I2 q2) fun ws s3 ⟨ps,H3,I3,rel,q3⟩=>⟨(x,y)::ps,H3,I3,.cons ⟨rx,ry⟩ rel,q3⟩)
structure M2 (X:Cx) (o:Expr) (m:Str) (apos:Pos) (e f:Expr) (cpos:Pos):Prop where
 base:attributeBase o m X.env (eval o X.env)=eval o X.env
 few:((backTo cpos (starEach [e,f] X.env)).all (fun x=>!x.1)&&(backToKw cpos (keywordEach [] X.env)).all (fun x=>x.1.isSome)
  && decide (([e,f]:List Expr).length+([]:List Keyword).length+(if ([]:List Keyword).isEmpty then 0 else 1)<30))=true
 line:(apos.endLine==cpos.line)=true
 trees:backTo cpos (starEach [e,f] X.env)=[(false,eval e X.env),(false,eval f X.env)]
noncomputable def IsD (H:Hp) (a:Addr):Prop:=(∃ kvs,Rd H a (.dK kvs))∨∃ kvs,Rd H a (.dT kvs)
theorem zM {X:Cx} {pins:List (Addr×Obj)} {σ:St} {H:Hp} {s:Shared} {a:Addr} (I:Inv X pins σ H s) (d:IsD H a) :
  s.TypeIs (.ref a) "dict"∧(∀ b,Value.ref a=.ref b→∃ ob,s.heap.get? b=some ob∧ob.dict=none)∧(a==sysModules)=false:=by
 rcases d with ⟨kvs,e⟩ | ⟨kvs,e⟩
 ·obtain ⟨_,hd,vs,_,dd⟩:=jA I.hok e;refine ⟨dd.typeIs,fun b q=>?_,hd⟩
  cases q;obtain ⟨ob,_,_,h1,h2,_⟩:=dd;exact ⟨ob,h1,h2.2.1⟩
 ·obtain ⟨_,hd,xs,_,dd⟩:=jC I.hok e;refine ⟨dd.typeIs,fun b q=>?_,hd⟩
  cases q;obtain ⟨ob,_,_,h1,h2,_⟩:=dd;exact ⟨ob,h1,h2.2.1⟩
section
variable {X:Cx} {pins:List (Addr×Obj)} {σ:St} {H:Hp} {s:Shared} {a:Addr} {y d:V} {u r:Value} {o:Option V} {A:Around} {E:Value→Shared→Prop}
theorem zB {Q:Value→Shared→Prop} (hu:A.units+1<cLine) (I:Inv X pins σ H s) (g:dG H a y o) (ry:aQ y u) (rd:aQ d r) (h:∀ w' s',Inv X pins σ H s'→aQ (o.getD d) w'→Q w' s') :
  wpAny (model X.prog X.w) A (call (.builtin "dict.get") [.ref a,u,r]) Q E s:=by
 rcases g with ⟨kvs,k,e,ey,l⟩ | ⟨kvs,k,b,e,ey,eb,l⟩
 ·subst ey;obtain ⟨z,hd,vs,rel,dd⟩:=jA I.hok e;refine call_meetsIn PySem.F.slot_dict_get dd.typeIs PySem.F.entry_dict_get (PySem.F.args_dict_get_3 _ _ _) (meets_dict_get_default (a8 X.prog X.w) a (jI ry) hd r) ⟨_,dd.mapOf,h _ _ (I.tok _) ?_⟩;rw [l];exact (rel.val k).getD rd
 ·subst ey
  cases (show u=Value.ref b from ry)
  obtain ⟨z,hd,xs,rel,dd⟩:=jC I.hok e;refine call_meetsIn PySem.F.slot_dict_get dd.typeIs PySem.F.entry_dict_get (PySem.F.args_dict_get_3 _ _ _) (meetsH_dict_get_default (tupleKind (a8 X.prog X.w)) a b hd r) ⟨tupleKind_room_in1 hu,k,xs,eW I.hok eb,dd,h _ _ (I.tok _) ?_⟩;rw [l];exact (rel.val k).getD rd
end
noncomputable def v9 (td ty tx:TE):TE:=fun σ H Q=>td σ H fun x H1=>∃ a,x=.ref a∧IsD H1 a∧ty σ H1 fun y H2=>tx σ H2 fun z H3=>∃ o,dG H3 a y o∧Q (o.getD z) H3
section
variable {X:Cx} {o e f:Expr} {apos cpos:Pos} {td ty tx:TE}
theorem uS (hu:X.A.units+1<cLine) (ho:PE X o td) (he:PE X e ty) (hf:PE X f tx) (m:M2 X o "get" apos e f cpos):PE X (.Call (.Attribute o "get" apos) [e,f] [] cpos) (v9 td ty tx):=by
 intro pins s σ H Q I h;refine wpAny_Call_method m.base m.few m.line PySem.F.plainAttrs_dict PySem.F.slot_dict_get PySem.F.type_dict_get (thn (ho pins s σ H _ I h) fun u s1 ⟨x,H1,I1,rx,a,ex,d,q1⟩=>?_);subst ex;obtain rfl:u=Value.ref a:=rx
 obtain ⟨t1,t2,_⟩:=zM I1 d;refine ⟨t1,t2,?_⟩;rw [m.trees];refine Calls.callWith_builtin rfl (Calls.evalArgs_plain (Calls.spliced_cons (thn (he pins s1 σ H1 _ I1 q1) fun iv s2 ⟨y,H2,I2,ry,q2⟩ =>
  Calls.spliced_cons (thn (hf pins s2 σ H2 _ I2 q2) fun fv s3 ⟨z,H3,I3,rz,ov,g,q3⟩=>Calls.spliced_nil ?_))))
 exact zB hu I3 g ry rz fun w' s4 I4 rw'=>⟨_,H3,I4,rw',q3⟩
end
theorem BF (x y:Int):SeqAt.shaped (.tuple [.int x,.int y])=true:=by rfl
theorem BZ (x y x' y':Int):PyData.eqv (.tuple [.int x,.int y]) (.tuple [.int x',.int y'])=decide ((x,y)=(x',y')):=by
 simp only [PyData.eqv,PyData.eqvAll];by_cases h1:x=x'<;>by_cases h2:y=y'<;>simp [h1,h2]
theorem BC {H:Hp} {a:Addr} {x y:Int} (h:H a=some (.tup [.int x,.int y])):Rep H (.tuple [.int x,.int y]) (.ref a):=by
 simp only [Rep,RepL];exact ⟨a,_,rfl,h,_,_,rfl,rfl,_,_,rfl,rfl,rfl⟩
theorem vD {H:Hp} {Q:VK} {a b:Addr} {x y x' y':Int} (ha:H a=some (.tup [.int x,.int y])) (hb:H b=some (.tup [.int x',.int y'])) (q:Q (.bl (!decide ((x,y)=(x',y')))) H):Aq true (.ref a) (.ref b) H Q :=
 ⟨_,_,BC ha,BC hb,BF _ _,BF _ _,by rw [if_pos rfl,BZ]; exact q⟩
theorem vq {σ:St} {H:Hp} {Q:VK} (h:∀ p,H p=none→Q (.ref p) (upd H p (.dT []))):wc σ H Q:=h
theorem xK {td ty tv:TE} {D:dH} {σ:St} {H:Hp} (h:tv σ H fun v H1=>td σ H1 fun x H2=>ty σ H2 fun y H3=>∃ a H4,x=.ref a∧jr H3 a y v H4∧D.nx σ H4):y6 td ty tv D σ H:=h
theorem AA {ty td:TE} {σ:St} {H:Hp} {Q:VK} (h:ty σ H fun y H1=>td σ H1 fun x H2=>∃ a o,x=.ref a∧dG H2 a y o∧Q (.bl o.isSome) H2):BI ty td σ H Q:=h
theorem sQ {ty td:TE} {σ:St} {H:Hp} {Q:VK} (h:ty σ H fun y H1=>td σ H1 fun x H2=>∃ a o,x=.ref a∧dG H2 a y o∧Q (.bl (!o.isSome)) H2):rB ty td σ H Q:=h
theorem uE:typeLookup (.type "list_reverseiterator") "__len__"=pure none:=by rw [typeLookup_type,builtinLookup_eq_fast]; kernel_rfl
theorem wY:typeLookup (.type "list_reverseiterator") "__length_hint__"=pure (some (.builtin "list_reverseiterator.__length_hint__")):=by rw [typeLookup_type,builtinLookup_eq_fast]; kernel_rfl
section
variable {prog:Program} {w:World} {A:Around} {E:Value→Shared→Prop} {s:Shared} {R:Result→Shared→Prop} {I:Addr} {fp wr:List Addr} {G:Array GenState→Array GenState→Prop} {n:Nat} {P:Nat→Value→Prop} {St:Nat→Shared→Prop}
theorem zD (W:WalksS prog w A.in1 I fp wr G n P St) (hT:∀ i s,St i s→s.TypeIs (.ref I) "list_reverseiterator") (S:Addr) (res:Value) (c₀:Nat) (st0:St 0 s) (nS:S∉fp) (hI:I∈fp) (oS:s.heap.get? S=some { cls:=.type "list",data:=.seq #[] c₀ }) (hn:n≤sizeLine)
  (k:∀ s' acc' c',Moved (S::wr) G s s'→s'.heap.get? S=some { cls:=.type "list",dict:=none,data:=.seq acc' c',slots:=#[] }→ItemsOf P acc' n→R (.ok (.ret res)) s') :
  wpAny (model prog w) A.in1 (Builtin.List.listExtendWith (.ref S) (.ref I) res) (fun fin s'=>match fin with | .done f=>R (.ok f) s' | .again c'=>c'.quiet=true∧codeAny (model prog w) A c' R s') (fun e s'=>R (.error e) s') s:=by
 have nSI:S≠I:=fun e=>nS (e ▸ hI)
 (unfold Builtin.List.listExtendWith; refine wpAny_bind (wpAny_typeOf (hT 0 _ st0) ?_))
 have b1:Builtin.List.listSameRef (.ref S) (.ref I)=false:=by simp [Builtin.List.listSameRef,nSI]
 have b2:(Value.type "list_reverseiterator"==Value.type "list")=false:=by decide
 have b3:(Value.type "list_reverseiterator"==Value.type "tuple")=false:=by decide
 (simp only [b1,b2,b3,Bool.or_false,Bool.false_eq_true,if_false]; refine wpAny_bind (W.self 0 _ _ _ st0 (wpAny_bind (wpAny_holding ?_))))
 (unfold Builtin.List.listLengthHint; refine wpAny_bind (wpAny_specialOf (hT 0 _ st0) uE ?_); show wpAny _ A.in1 (specialOf (Value.ref I) (Str.ofString "__length_hint__") >>= _) _ _ _; refine wpAny_bind (wpAny_specialOf (hT 0 _ st0) wY ?_))
 generalize hid:("list_reverseiterator.__length_hint__":String)=id0
 (wp_delta; rw [show splitId id0=some ("list_reverseiterator","__length_hint__") from by subst hid; decide +kernel]; subst hid)
 (refine wpAny_bind (wpAny_isInstance (T:="list_reverseiterator") (b:=true) (hT 0 _ st0) (by rw [isSubtype_type]; kernel_rfl) ?_); refine wpAny_pure ?_; rw [if_neg (by decide)])
 exact wpAny_pure ⟨plainId_quiet F.plain_extend_loop _,codeAny_extend_loopS W hn _ nS _ n 0 _ _ _ rfl (Nat.zero_le _) st0 oS (ItemsOf.nil P) fun s' acc' c' hm hS' hacc=>k s' acc' c' hm hS' hacc⟩
theorem w6 (W:WalksS prog w A.in1 I fp wr G n P St) (hT:∀ i s,St i s→s.TypeIs (.ref I) "list_reverseiterator") (S:Addr) (st0:St 0 s) (nS:S∉fp) (hI:I∈fp) (oS:s.heap.get? S=some { cls:=.type "list",data:=.seq #[] }) (hn:n≤sizeLine)
  (k:∀ s' acc' c',Moved (S::wr) G s s'→s'.heap.get? S=some { cls:=.type "list",dict:=none,data:=.seq acc' c',slots:=#[] }→ItemsOf P acc' n→R (.ok (.ret .none)) s') :
  wpAny (model prog w) A.in1 (Builtin.«list.__init__» ⟨[.ref S,.ref I],[]⟩) (fun fin s'=>match fin with | .done f=>R (.ok f) s' | .again c'=>c'.quiet=true∧codeAny (model prog w) A c' R s') (fun e s'=>R (.error e) s') s:=by
 (show wpAny _ A.in1 (do let old ← Builtin.List.listItems (.ref S); Builtin.List.listUpdate (.ref S) (fun _=>#[]); letGo old.toList.reverse; Builtin.List.listExtendWith (.ref S) (.ref I) .none) _ _ s; refine wpAny_bind ?_; unfold Builtin.List.listItems; refine wpAny_bind (wpAny_seqItems oS rfl (wpAny_pure ?_)))
 (show wpAny _ A.in1 (updateSeq S (fun _=>#[]) >>= fun _=>letGo (#[]:Array Value).toList.reverse >>= fun _=>Builtin.List.listExtendWith (.ref S) (.ref I) .none) _ _ s; refine wpAny_bind (wpAny_updateSeq oS rfl ?_))
 have oS2:=Heap.get?_update_self (Obj.mapSeq (fun _=>(#[]:Array Value))) oS rfl;have cW:∀ b o,b≠S→s.heap.get? b=some o→(s.heap.update S (Obj.mapSeq (fun _=>(#[]:Array Value)))).get? b=some o:=fun b o hb e=>(Heap.get?_update_other _ _ (Ne.symm hb)).trans e;refine wpAny_bind (wpAny_letGo (zD W hT S .none _ (W.frame 0 s _ s.toks st0 (Nat.le_refl _) fun b hb o e=>cW b o (fun h=>nS (h ▸ hb)) e) nS hI oS2 hn fun s' acc' c' hm hS' hacc=>?_));exact k s' acc' c' (Moved.trans W.gtrans ((Moved.refl W.grefl).then_heap (Nat.le_refl _) fun b o hb e=>cW b o (fun h=>hb (h ▸ List.mem_cons_self)) e) hm) hS' hacc
theorem lS {Q:Value→Shared→Prop} (W:WalksS prog w A.in1.in1 I fp wr G n P St) (hT:∀ i s,St i s→s.TypeIs (.ref I) "list_reverseiterator") (st0:St 0 s) (hfp:∀ b∈fp,b<s.heap.objs.size) (hI:I∈fp) (hn:n≤sizeLine)
  (k:∀ s' acc' c',Moved (s.heap.objs.size::wr) G { s with heap:=s.heap.push { cls:=.type "list",data:=.seq #[] } } s'→s'.heap.get? s.heap.objs.size=some { cls:=.type "list",dict:=none,data:=.seq acc' c',slots:=#[] }→ItemsOf P acc' n→Q (.ref s.heap.objs.size) s') :
  wpAny (model prog w) A (call (.type "list") [.ref I]) Q E s:=by
 have nS:s.heap.objs.size∉fp:=fun hm=>Nat.lt_irrefl _ (hfp _ hm);refine callType_codes (Q₁:=fun obj s₁=>obj=.ref s.heap.objs.size∧s₁={ s with heap:=s.heap.push { cls:=.type "list",data:=.seq #[] } }) F.called_list (F.typeCall_list_1 _) F.entry_list_init (code_list_new _ ⟨rfl,rfl⟩) fun obj s₁ h₁=>?_;obtain ⟨rfl,rfl⟩:=h₁;have oS:(s.heap.push { cls:=.type "list",data:=.seq #[] }).get? s.heap.objs.size=some { cls:=.type "list",data:=.seq #[] }:=Heap.get?_push_size _ rfl;refine ⟨⟨_,oS,rfl⟩,F.args_list_init_2 _ _,w6 W hT _ (W.frame 0 s _ s.toks st0 (Nat.le_refl _) fun b _ o e=>Heap.get?_push_of_some _ e) nS hI oS hn fun s' acc' c' hm hS' hacc=>⟨rfl,k s' acc' c' hm hS' hacc⟩⟩
end
noncomputable def zh (K:W.Frag) (te:TE):TE:=fun σ H Q=>te σ H fun x H1=>∃ p ys,x=.ref p∧SqL K H1 p ys∧∀ l,H1 l=none→Q (.ref l) (upd H1 l (.lst ys.reverse))
theorem sf {its:List Value} {acc:Array Value} (h:ItemsOf (fun i v=>its.toArray[its.toArray.size - 1 - i]?=some v) acc its.toArray.size):acc.toList=its.reverse:=by
 obtain ⟨h1,h2⟩:=h;apply List.ext_getElem?;intro i;by_cases hi:i<its.length
 ·have hs:i<acc.size:=by rw [h1]; simpa using hi
  have:=h2 i acc[i] (by simp [hs])
  rw [List.getElem?_reverse hi,Array.getElem?_toList,Array.getElem?_eq_getElem hs,← this];simp
 ·rw [List.getElem?_eq_none (by rw [Array.length_toList,h1]; simp; omega),List.getElem?_eq_none (by rw [List.length_reverse]; omega)]
noncomputable def Br (K:W.Frag) (x:V) (H:Hp) (Q:VK):Prop:=∃ p ys,x=.ref p∧SqL K H p ys∧∀ l,H l=none→Q (.ref l) (upd H l (.lst ys.reverse))
theorem x8 {K:W.Frag} {te:TE} {σ:St} {H:Hp} {Q:VK} (h:te σ H fun x H1=>Br K x H1 Q):zh K te σ H Q:=h
theorem AQ {K:W.Frag} {a:Addr} {ys:List V} {H:Hp} {Q:VK} (e:H a=some (.lst ys)) (h:∀ l,H l=none→Q (.ref l) (upd H l (.lst ys.reverse))):Br K (.ref a) H Q:=⟨a,ys,rfl,SqL.of e,h⟩
section
variable {X:Cx}
theorem _root_.L2.Vals.rev {xs:List V} {vs:List Value} (h:Vals xs vs):Vals xs.reverse vs.reverse:=by
 induction h with
 | nil=>exact .nil
 | cons a b ih=>rw [List.reverse_cons,List.reverse_cons]; exact ih.append (.cons a .nil)
theorem xu {e:Expr} {te:TE} {p p2 pos pos2:Pos} (K:W.Frag) (hK:X.K=K) (hc:X.calm=true) (hg:Gl X "list") (hm:X.mg "list"=none) (hg2:Gl X "reversed") (hm2:X.mg "reversed"=none) (ha:PE X e te)
  (hs:starEach [.Call (.Name "reversed" p2) [e] [] pos2] X.env=[(false,eval (.Call (.Name "reversed" p2) [e] [] pos2) X.env)]:=by rfl) (hs2:starEach [e] X.env=[(false,eval e X.env)]:=by rfl) :
  PE X (.Call (.Name "list" p) [.Call (.Name "reversed" p2) [e] [] pos2] [] pos) (zh K te):=by
 subst hK;intro pins s σ H Q I h;refine wpAny_Call_Name_kw (d9 I hg hm (by rfl) ?_ (by decide) (by decide));refine PyProof.Rows.callWith_type1 ?_ hs (by rfl);rw [hs];refine Calls.spliced_cons (wpAny_Call_Name_kw (d9 I hg2 hm2 (by rfl) ?_ (by decide) (by decide)));refine PyProof.Rows.callWith_type1 ?_ hs2 (by rfl);rw [hs2];refine Calls.spliced_cons (thn (ha pins s σ H _ I h) fun v s1 ⟨x,H1,I1,r1,a,ys,hx,hl,q1⟩=>Calls.spliced_nil ?_);subst hx
 cases r1;obtain ⟨its,r,pl,hz⟩:=I1.list hl;have hlen:=r.length;refine call_reversed_list pl.isList (Calls.spliced_nil ?_);have alt:a<s1.heap.objs.size:=by obtain ⟨o,ho,_⟩:=pl.isList; exact Heap.lt_size ho
 have I2:Inv X pins σ H1 { s1 with heap:=s1.heap.push (revObj a ((its.toArray.size:Int) - 1)) }:=I1.kept (t':=s1.toks) fun b ob q=>Heap.get?_push_of_some _ q;have hne:a≠s1.heap.objs.size:=Nat.ne_of_lt alt;refine lS (Walks.listRev (A:=X.A.in1.in1) (I.ok.hd hc) s1.heap.objs.size a hne its.toArray).toS (fun i s' st=>st.2.1.typeIs) ?_ ?_ (by simp) (by simp only [List.size_toArray]; omega) ?_
 ·refine ⟨Nat.zero_le _,⟨_,Heap.get?_push_size _ rfl,rfl,?_⟩,?_⟩
  ·simp [revObj]
  ·exact pl.isList.at fun o e=>Heap.get?_push_of_some _ e
 ·intro b hb
  show b<(s1.heap.push _).objs.size
  rw [Heap.size_push];rcases List.mem_cons.mp hb with z | z
  ·rw [z]; exact Nat.lt_succ_self _
  ·rw [show b=a from by simpa using z]; exact Nat.lt_succ_of_lt alt
 ·intro s' acc' c' hm' hS' hacc;have hi:=sf hacc;have e1:=hm'.gens;have e2:=hm'.drawn;have e3:=hm'.os;have kp:=hm'.heap;obtain ⟨h',g',d',t',o'⟩:=s';dsimp only at e1 e2 e3 kp hS' ⊢;subst e1 e2 e3;have es:(s1.heap.push (revObj a ((its.toArray.size:Int) - 1))).objs.size=s1.heap.objs.size+1:=Heap.size_push ..;rw [es] at hS' kp ⊢;have keep:∀ b u,s1.heap.get? b=some u→h'.get? b=some u:=fun b u e=>by
   have hb:=Heap.lt_size e;refine kp b u (fun z=>?_) (Heap.get?_push_of_some _ (Heap.get?_push_of_some _ e));rcases List.mem_cons.mp z with z | z
   ·rw [z] at hb; exact absurd hb (Nat.not_lt.mpr (Nat.le_succ _))
   ·rw [show b=s1.heap.objs.size from by simpa using z] at hb; exact Nat.lt_irrefl _ hb
  refine ⟨.ref _,_,I1.laid (t':=t') (o:=.lst ys.reverse) keep (Nat.le_succ _) ?_,rfl,q1 _ (I1.hok.fresh (Nat.le_succ _))⟩;refine ⟨by rw [List.length_reverse]; exact hz,its.reverse,c',r.rev,?_⟩;rw [← hi];exact hS'
end
end L2
set_option maxHeartbeats 1000000
namespace NR
noncomputable def sm:Nat→(Nat→Int)→Int
 | 0,_=>0
 | n+1,f=>sm n f+f n
noncomputable def ib (p:Prop) [Decidable p]:Int:=if p then 1 else 0
section
variable {n:Nat} {e d:Int→Int} {X Y:Nat→Int}
noncomputable def s1 (X Y:Nat→Int) (i k:Nat):Int:=ib (Y (i+1)<Y (k+1)∨(Y (i+1)=Y (k+1)∧X (i+1)<X (k+1)))
noncomputable def s2 (X Y:Nat→Int) (i k:Nat):Int:=ib (Y i<Y k∨(Y i=Y k∧X (i+1)<X (k+1)))
noncomputable def Up (d:Int→Int) (X:Nat→Int) (i:Nat):Prop:=d (X (i+1))=1
instance (d:Int→Int) (X:Nat→Int) (i:Nat):Decidable (Up d X i):=inferInstanceAs (Decidable (_=_))
end
end NR
namespace Ts
open PySem PyProof.Rows
noncomputable def l0:Bool→Keyed→Array Keyed→Nat→Nat→Nat→StateT SortSt Sem (Option Nat):=sortPriv% PySem.Builtin.gallop
noncomputable def nP:Array Keyed→Array Keyed→StateT SortSt Sem (Array Keyed):=sortPriv% PySem.Builtin.mergeLo
noncomputable def nO:Array Keyed→Array Keyed→StateT SortSt Sem (Array Keyed):=sortPriv% PySem.Builtin.mergeHi
structure cS (lt:Keyed→Keyed→Bool):Prop where
 asym:∀ {x y},lt x y=true→lt y x=false
 tr:∀ {x y z},lt y x=false→lt z y=false→lt z x=false
noncomputable def Le (lt:Keyed→Keyed→Bool) (x y:Keyed):Prop:=lt y x=false
theorem cS.le_refl {lt:Keyed→Keyed→Bool} (L:cS lt) (x:Keyed):Le lt x x:=by
 unfold Le
 cases h:lt x x with
 | false=>rfl
 | true=>rw [L.asym h] at h; cases h
theorem cS.of_lt {lt:Keyed→Keyed→Bool} (L:cS lt) {x y:Keyed} (h:lt x y=true):Le lt x y:=L.asym h
theorem cS.trans {lt:Keyed→Keyed→Bool} (L:cS lt) {x y z:Keyed} (h:Le lt x y) (h':Le lt y z):Le lt x z:=L.tr h h'
section
variable {M:Model} {A:Around} {E:Value→Shared→Prop} {s:Shared}
noncomputable def iw (M:Model) (A:Around) (E:Value→Shared→Prop) (s:Shared) (κ:SortKind) (S:Keyed→Prop) (lt:Keyed→Keyed→Bool):Prop :=
 ∀ (x y:Keyed) (st:SortSt) (Q:Option Bool→SortSt→Prop),S x→S y→kindOf st=κ→Q (some (lt x y)) st→wpS M A E s (lt' x y) Q st
theorem aC {arr:Array Keyed} {i:Nat} {x:Keyed} {Q:Keyed→SortSt→Prop} {st:SortSt} (h:arr[i]?=some x) (q:Q x st):wpS M A E s (elem' arr i) Q st:=by
 rw [elem'_eq,h];exact wpS_pure q
structure Cut (b:Nat→Bool) (n k:Nat):Prop where
 le:k≤n
 yes:∀ i,i<k→b i=true
 no:∀ i,k≤i→i<n→b i=false
theorem qz {κ:SortKind} {S:Keyed→Prop} {lt:Keyed→Keyed→Bool} (H:iw M A E s κ S lt) {left:Bool} {key:Keyed} {arr:Array Keyed} {b n hint:Nat} {Q:Option Nat→SortSt→Prop} {st:SortSt} {at_:Nat→Keyed}
    (hk:kindOf st=κ) (sk:S key) (ha:∀ i,i<n→arr[b+i]?=some (at_ i)∧S (at_ i)) (hh:hint<n)
    (anti:∀ i j,i≤j→j<n→(if left then lt (at_ j) key else !lt key (at_ j))=true→(if left then lt (at_ i) key else !lt key (at_ i))=true)
    (h:∀ k,Cut (fun i=>if left then lt (at_ i) key else !lt key (at_ i)) n k→Q (some k) st):wpS M A E s (l0 left key arr b n hint) Q st:=by
  unfold l0;have bey:∀ (i:Nat) (Q:Option Bool→SortSt→Prop),i<n→Q (some (if left then lt (at_ i) key else !lt key (at_ i))) st→wpS M A E s (do
      let x ← elem' arr (b+i)
      if left then lt' x key else return (← lt' key x).map (!·)) Q st:=by
    intro i Q hi q;refine wpS_bind (aC (ha i hi).1 ?_)
    cases left with
    | true=>exact H _ _ _ _ (ha i hi).2 sk hk q
    | false=>exact wpS_bind (H _ _ _ _ sk (ha i hi).2 hk (wpS_pure q))
  generalize hB:(fun i=>if left then lt (at_ i) key else !lt key (at_ i))=B at h;have hB':∀ i,(if left then lt (at_ i) key else !lt key (at_ i))=B i:=fun i=>by rw [← hB]
  simp only [hB'] at bey anti;refine wpS_bind (bey hint _ hh ?_);dsimp only;by_cases hr:B hint=true
  · rw [if_pos hr]
    refine wpS_bind (wpS_mono (wpS_forRange (I:=fun x (c:Option (Option Nat)×Nat×Nat) st'=>st=st'∧c.1=none∧x+1≤c.2.2∧c.2.1<c.2.2∧c.2.1<n - hint∧B (hint+c.2.1)=true)
      (Q:=fun (c:Option (Option Nat)×Nat×Nat) st'=>st=st'∧c.1=none∧c.2.1<c.2.2∧c.2.1<n - hint∧B (hint+c.2.1)=true∧(c.2.2<n - hint→B (hint+c.2.2)=false)) ?step ?fin ⟨rfl,rfl,Nat.le_refl _,Nat.zero_lt_one,by show 0<n - hint; omega,hr⟩) ?post)
    case fin =>
      rintro ⟨c1,l,o⟩ st' ⟨rfl,e,h1,h2,h3,h4⟩;dsimp only at e h1 h2 h3 h4 ⊢;exact ⟨rfl,e,h2,h3,h4,fun z=>by omega⟩
    case step =>
      rintro x ⟨c1,l,o⟩ st' _ hx ⟨rfl,e,h1,h2,h3,h4⟩;dsimp only at e h1 h2 h3 h4 ⊢;by_cases ho:o≥n - hint
      · rw [if_pos ho]
        exact wpS_pure ⟨rfl,rfl,h2,h3,h4,fun z=>by dsimp only at z; omega⟩
      · rw [if_neg ho]
        refine wpS_bind (bey _ _ (by omega) ?_);dsimp only
        cases hb:B (hint+o) with
        | false=>exact wpS_pure ⟨rfl,rfl,h2,h3,h4,fun _=>hb⟩
        | true=>exact wpS_pure ⟨rfl,rfl,by show x+1+1≤2*o+1; omega,by show o<2*o+1; omega,by show o<n - hint; omega,hb⟩
    case post =>
      rintro ⟨c1,l,o⟩ st' ⟨rfl,e,h2,h3,h4,h5⟩;dsimp only at e h2 h3 h4 h5 ⊢;subst e;dsimp only;refine wpS_bind (wpS_mono (wpS_forRange (I:=fun x (c:Option (Option Nat)×Nat×Nat) st'=>st=st'∧c.1=none∧c.2.1≤c.2.2∧c.2.2≤n∧c.2.2 - c.2.1+x≤n∧(∀ i,i<c.2.1→B i=true)∧(∀ i,c.2.2≤i→i<n→B i=false))
        (Q:=fun (c:Option (Option Nat)×Nat×Nat) st'=>st=st'∧c.1=none∧c.2.1=c.2.2∧c.2.2≤n∧(∀ i,i<c.2.1→B i=true)∧(∀ i,c.2.2≤i→i<n→B i=false)) ?step ?fin ?init) ?post)
      case init =>
        refine ⟨rfl,rfl,by dsimp only; omega,by dsimp only; omega,by dsimp only; omega,fun i hi=>?_,fun i hi hn=>?_⟩
        · dsimp only at hi
          exact anti i (hint+l) (by omega) (by omega) h4
        · dsimp only at hi
          have h6:=h5 (by omega)
          cases hb:B i with
          | false=>rfl
          | true=>rw [anti (hint+o) i (by omega) hn hb] at h6; cases h6
      case fin =>
        rintro ⟨c1,lo,hi⟩ st' ⟨rfl,e,h1,h2,h3,h4,h5⟩;dsimp only at e h1 h2 h3 h4 h5 ⊢;exact ⟨rfl,e,by omega,h2,h4,h5⟩
      case step =>
        rintro x ⟨c1,lo,hi⟩ st' _ hx ⟨rfl,e,h1,h2,h3,h4,h5⟩;dsimp only at e h1 h2 h3 h4 h5 ⊢;by_cases hd:lo≥hi
        · rw [if_pos hd]
          exact wpS_pure ⟨rfl,rfl,by show lo=hi; omega,h2,h4,h5⟩
        · rw [if_neg hd]
          refine wpS_bind (bey _ _ (by omega) ?_);dsimp only
          cases hb:B (lo+(hi - lo) / 2) with
          | true =>
            refine wpS_pure ⟨rfl,rfl,by show lo+(hi - lo) / 2+1≤hi; omega,h2,by show hi - (lo+(hi - lo) / 2+1)+(x+1)≤n; omega,fun i hi'=>?_,h5⟩;dsimp only at hi';exact anti i _ (by omega) (by omega) hb
          | false =>
            refine wpS_pure ⟨rfl,rfl,by show lo≤lo+(hi - lo) / 2; omega,by show lo+(hi - lo) / 2≤n; omega,by show lo+(hi - lo) / 2 - lo+(x+1)≤n; omega,h4,fun i hi' hn=>?_⟩;dsimp only at hi'
            cases hb2:B i with
            | false=>rfl
            | true=>rw [anti _ i (by omega) hn hb2] at hb; cases hb
      case post =>
        rintro ⟨c1,lo,hi⟩ st' ⟨rfl,e,h1,h2,h4,h5⟩;dsimp only at e h1 h2 h4 h5 ⊢;subst e h1;exact wpS_pure (h _ ⟨h2,h4,h5⟩)
  · rw [if_neg hr]
    have hr':B hint=false:=by simpa using hr
    refine wpS_bind (wpS_mono (wpS_forRange (I:=fun x (c:Option (Option Nat)×Nat×Nat) st'=>st=st'∧c.1=none∧x+1≤c.2.2∧c.2.1<c.2.2∧c.2.1≤hint∧B (hint - c.2.1)=false)
      (Q:=fun (c:Option (Option Nat)×Nat×Nat) st'=>st=st'∧c.1=none∧c.2.1<c.2.2∧c.2.1≤hint∧B (hint - c.2.1)=false∧(c.2.2≤hint→B (hint - c.2.2)=true)) ?step ?fin ⟨rfl,rfl,Nat.le_refl _,Nat.zero_lt_one,by show 0≤hint; omega,hr'⟩) ?post)
    case fin =>
      rintro ⟨c1,l,o⟩ st' ⟨rfl,e,h1,h2,h3,h4⟩;dsimp only at e h1 h2 h3 h4 ⊢;exact ⟨rfl,e,h2,h3,h4,fun z=>by omega⟩
    case step =>
      rintro x ⟨c1,l,o⟩ st' _ hx ⟨rfl,e,h1,h2,h3,h4⟩;dsimp only at e h1 h2 h3 h4 ⊢;by_cases ho:o≥hint+1
      · rw [if_pos ho]
        exact wpS_pure ⟨rfl,rfl,h2,h3,h4,fun z=>by dsimp only at z; omega⟩
      · rw [if_neg ho]
        refine wpS_bind (bey _ _ (by omega) ?_);dsimp only
        cases hb:B (hint - o) with
        | true=>exact wpS_pure ⟨rfl,rfl,h2,h3,h4,fun _=>hb⟩
        | false=>exact wpS_pure ⟨rfl,rfl,by show x+1+1≤2*o+1; omega,by show o<2*o+1; omega,by show o≤hint; omega,hb⟩
    case post =>
      rintro ⟨c1,l,o⟩ st' ⟨rfl,e,h2,h3,h4,h5⟩;dsimp only at e h2 h3 h4 h5 ⊢;subst e;dsimp only;refine wpS_bind (wpS_mono (wpS_forRange (I:=fun x (c:Option (Option Nat)×Nat×Nat) st'=>st=st'∧c.1=none∧c.2.1≤c.2.2∧c.2.2≤n∧c.2.2 - c.2.1+x≤n∧(∀ i,i<c.2.1→B i=true)∧(∀ i,c.2.2≤i→i<n→B i=false))
        (Q:=fun (c:Option (Option Nat)×Nat×Nat) st'=>st=st'∧c.1=none∧c.2.1=c.2.2∧c.2.2≤n∧(∀ i,i<c.2.1→B i=true)∧(∀ i,c.2.2≤i→i<n→B i=false)) ?step ?fin ?init) ?post)
      case init =>
        refine ⟨rfl,rfl,by dsimp only; omega,by dsimp only; omega,by dsimp only; omega,fun i hi=>?_,fun i hi hn=>?_⟩
        · dsimp only at hi
          have h6:=h5 (by omega);exact anti i (hint - o) (by omega) (by omega) h6
        · dsimp only at hi
          cases hb:B i with
          | false=>rfl
          | true=>rw [anti (hint - l) i (by omega) hn hb] at h4; cases h4
      case fin =>
        rintro ⟨c1,lo,hi⟩ st' ⟨rfl,e,h1,h2,h3,h4,h5⟩;dsimp only at e h1 h2 h3 h4 h5 ⊢;exact ⟨rfl,e,by omega,h2,h4,h5⟩
      case step =>
        rintro x ⟨c1,lo,hi⟩ st' _ hx ⟨rfl,e,h1,h2,h3,h4,h5⟩;dsimp only at e h1 h2 h3 h4 h5 ⊢;by_cases hd:lo≥hi
        · rw [if_pos hd]
          exact wpS_pure ⟨rfl,rfl,by show lo=hi; omega,h2,h4,h5⟩
        · rw [if_neg hd]
          refine wpS_bind (bey _ _ (by omega) ?_);dsimp only
          cases hb:B (lo+(hi - lo) / 2) with
          | true =>
            refine wpS_pure ⟨rfl,rfl,by show lo+(hi - lo) / 2+1≤hi; omega,h2,by show hi - (lo+(hi - lo) / 2+1)+(x+1)≤n; omega,fun i hi'=>?_,h5⟩;dsimp only at hi';exact anti i _ (by omega) (by omega) hb
          | false =>
            refine wpS_pure ⟨rfl,rfl,by show lo≤lo+(hi - lo) / 2; omega,by show lo+(hi - lo) / 2≤n; omega,by show lo+(hi - lo) / 2 - lo+(x+1)≤n; omega,h4,fun i hi' hn=>?_⟩;dsimp only at hi'
            cases hb2:B i with
            | false=>rfl
            | true=>rw [anti _ i (by omega) hn hb2] at hb; cases hb
      case post =>
        rintro ⟨c1,lo,hi⟩ st' ⟨rfl,e,h1,h2,h4,h5⟩;dsimp only at e h1 h2 h4 h5 ⊢;subst e h1;exact wpS_pure (h _ ⟨h2,h4,h5⟩)
end
end Ts
namespace Ts
open PySem PyProof.Rows
section
variable {M:Model} {A:Around} {E:Value→Shared→Prop} {s:Shared}
theorem dU {κ:SortKind} {S:Keyed→Prop} {lt:Keyed→Keyed→Bool} (L:cS lt) (H:iw M A E s κ S lt) {left:Bool} {key:Keyed} {arr:Array Keyed} {b n hint:Nat} {Q:Option Nat→SortSt→Prop} {st:SortSt}
  (hk:kindOf st=κ) (sk:S key) (hn:b+n≤arr.size) (hS:∀ x∈(arr.toList.drop b).take n,S x) (hs:((arr.toList.drop b).take n).Pairwise (Le lt)) (hh:hint<n)
  (h:∀ k,k≤n→(∀ x∈(arr.toList.drop b).take k,Le lt x key)→(∀ x∈((arr.toList.drop b).take n).drop k,Le lt key x)→Q (some k) st):wpS M A E s (l0 left key arr b n hint) Q st:=by
 have hlen:((arr.toList.drop b).take n).length=n:=by rw [List.length_take,List.length_drop,Array.length_toList]; omega
 have hat:∀ i,i<n→arr[b+i]?=((arr.toList.drop b).take n)[i]?:=by
  intro i hi;rw [List.getElem?_take_of_lt hi,List.getElem?_drop,Array.getElem?_toList]
 generalize hX:(arr.toList.drop b).take n=X at hS hs hlen hat h;have hat':∀ i (hi:i<n),X[i]?=some (X[i]?.getD key):=fun i hi=>by rw [List.getElem?_eq_getElem (by omega)]; rfl
 have mono:∀ i j,i≤j→j<n→Le lt (X[i]?.getD key) (X[j]?.getD key):=by
  intro i j hij hj;rcases Nat.lt_or_eq_of_le hij with hlt | rfl
  ·have:=(List.pairwise_iff_getElem.mp hs) i j (by omega) (by omega) hlt
   rw [List.getElem?_eq_getElem (by omega),List.getElem?_eq_getElem (by omega)];exact this
  ·exact L.le_refl _
 refine qz H (at_:=fun i=>X[i]?.getD key) hk sk (fun i hi=>⟨by rw [hat i hi]; exact hat' i hi,hS _ (List.mem_of_getElem? (hat' i hi))⟩) hh ?_ ?_
 ·intro i j hij hj
  cases left with
  | true =>
   show lt _ key=true→lt _ key=true
   intro z
   cases hb:lt (X[i]?.getD key) key with
   | true=>rfl
   | false =>
    have:lt (X[j]?.getD key) key=false:=L.trans hb (mono i j hij hj)
    rw [this] at z; cases z
  | false =>
   show (!lt key _)=true→(!lt key _)=true
   intro z;have z:lt key (X[j]?.getD key)=false:=by simpa using z
   have:lt key (X[i]?.getD key)=false:=L.trans (mono i j hij hj) z
   rw [this]; rfl
 ·intro k c;refine h k c.le (fun x hx=>?_) (fun x hx=>?_)
  ·obtain ⟨i,hi⟩:=List.mem_iff_getElem?.mp hx
   have hik:i<k:=by
    have:=(List.getElem?_eq_some_iff.mp hi).1
    rw [List.length_take] at this; omega
   have e:X[i]?=some x:=by rw [← hX,List.getElem?_take_of_lt (by have:=c.le; omega),← hi,List.getElem?_take_of_lt hik]
   have:=c.yes i hik
   cases left with
   | true =>
    have this:lt (X[i]?.getD key) key=true:=this;rw [e] at this;exact L.asym this
   | false =>
    have this:(!lt key (X[i]?.getD key))=true:=this;rw [e] at this
    show lt key x=false
    simpa using this
  ·obtain ⟨i,hi⟩:=List.mem_iff_getElem?.mp hx;rw [List.getElem?_drop] at hi;have hin:k+i<n:=by rw [← hlen]; exact (List.getElem?_eq_some_iff.mp hi).1
   have:=c.no (k+i) (by omega) hin
   cases left with
   | true =>
    have this:lt (X[k+i]?.getD key) key=false:=this;rw [hi] at this;exact this
   | false =>
    have this:(!lt key (X[k+i]?.getD key))=false:=this;rw [hi] at this;exact L.asym (by simpa using this)
end
structure Mg (lt:Keyed→Keyed→Bool) (a b out:List Keyed) (ia ib:Nat):Prop where
 perm:(out++(a.drop ia++b.drop ib)).Perm (a++b)
 srt:out.Pairwise (Le lt)
 le_:∀ x∈out,∀ y∈a.drop ia++b.drop ib,Le lt x y
noncomputable def Res (lt:Keyed→Keyed→Bool) (a b r:List Keyed):Prop:=r.Perm (a++b)∧r.Pairwise (Le lt)
theorem Mg.a {lt:Keyed→Keyed→Bool} {a b out:List Keyed} {ia ib:Nat} (m:Mg lt a b out ia ib) (hA:a.Pairwise (Le lt)) (k:Nat) (h:∀ x∈(a.drop ia).take k,∀ y∈b.drop ib,Le lt x y) :
  Mg lt a b (out++(a.drop ia).take k) (ia+k) ib:=by
 have e:a.drop ia=(a.drop ia).take k++a.drop (ia+k):=by rw [← List.drop_drop,List.take_append_drop]
 have hA':=List.Pairwise.sublist (List.drop_sublist ia a) hA;rw [e,List.pairwise_append] at hA';refine ⟨?_,?_,?_⟩
 ·have:=m.perm
  rw [e] at this;rw [List.append_assoc];rw [List.append_assoc] at this;exact this
 ·rw [List.pairwise_append];refine ⟨m.srt,hA'.1,fun x hx y hy=>m.le_ x hx y (List.mem_append_left _ (List.mem_of_mem_take hy))⟩
 ·intro x hx y hy;rcases List.mem_append.mp hx with hx | hx
  ·refine m.le_ x hx y ?_;rcases List.mem_append.mp hy with hy | hy
   ·exact List.mem_append_left _ (by rw [e]; exact List.mem_append_right _ hy)
   ·exact List.mem_append_right _ hy
  ·rcases List.mem_append.mp hy with hy | hy
   ·exact hA'.2.2 x hx y hy
   ·exact h x hx y hy
theorem Mg.b {lt:Keyed→Keyed→Bool} {a b out:List Keyed} {ia ib:Nat} (m:Mg lt a b out ia ib) (hB:b.Pairwise (Le lt)) (k:Nat) (h:∀ x∈(b.drop ib).take k,∀ y∈a.drop ia,Le lt x y) :
  Mg lt a b (out++(b.drop ib).take k) ia (ib+k):=by
 have e:b.drop ib=(b.drop ib).take k++b.drop (ib+k):=by rw [← List.drop_drop,List.take_append_drop]
 have hB':=List.Pairwise.sublist (List.drop_sublist ib b) hB;rw [e,List.pairwise_append] at hB';refine ⟨?_,?_,?_⟩
 ·have:=m.perm
  refine List.Perm.trans ?_ this;rw [List.append_assoc];refine List.Perm.append_left _ ?_;refine (List.perm_append_comm_assoc _ _ _).trans ?_;rw [← e]
 ·rw [List.pairwise_append];refine ⟨m.srt,hB'.1,fun x hx y hy=>m.le_ x hx y (List.mem_append_right _ (List.mem_of_mem_take hy))⟩
 ·intro x hx y hy;rcases List.mem_append.mp hx with hx | hx
  ·refine m.le_ x hx y ?_;rcases List.mem_append.mp hy with hy | hy
   ·exact List.mem_append_left _ hy
   ·exact List.mem_append_right _ (by rw [e]; exact List.mem_append_right _ hy)
  ·rcases List.mem_append.mp hy with hy | hy
   ·exact h x hx y hy
   ·exact hB'.2.2 x hx y hy
theorem Mg.endB {lt:Keyed→Keyed→Bool} {a b out:List Keyed} {ia ib:Nat} (m:Mg lt a b out ia ib) (hA:a.Pairwise (Le lt)) (h:b.length≤ib):Res lt a b (out++a.drop ia++b.drop ib):=by
 have p:=m.perm;have q:=m.le_;rw [List.drop_of_length_le h,List.append_nil] at p q;rw [List.drop_of_length_le h,List.append_nil];exact ⟨p,List.pairwise_append.mpr ⟨m.srt,List.Pairwise.sublist (List.drop_sublist _ _) hA,q⟩⟩
theorem Mg.endA {lt:Keyed→Keyed→Bool} {a b out:List Keyed} {ia ib:Nat} (m:Mg lt a b out ia ib) (hB:b.Pairwise (Le lt)) (h:a.length≤ia):Res lt a b (out++a.drop ia++b.drop ib):=by
 have p:=m.perm;have q:=m.le_;rw [List.drop_of_length_le h,List.nil_append] at p q;rw [List.drop_of_length_le h,List.append_nil];exact ⟨p,List.pairwise_append.mpr ⟨m.srt,List.Pairwise.sublist (List.drop_sublist _ _) hB,q⟩⟩
theorem Mg.last {lt:Keyed→Keyed→Bool} {a b out:List Keyed} {ia ib:Nat} (m:Mg lt a b out ia ib) (hA:a.Pairwise (Le lt)) (hB:b.Pairwise (Le lt)) (h:∀ y∈b.drop ib,∀ x∈a.drop ia,Le lt y x):Res lt a b (out++b.drop ib++a.drop ia):=by
 refine ⟨?_,?_⟩
 ·rw [List.append_assoc];exact (List.Perm.append_left _ List.perm_append_comm).trans m.perm
 ·rw [List.append_assoc,List.pairwise_append,List.pairwise_append];refine ⟨m.srt,⟨List.Pairwise.sublist (List.drop_sublist _ _) hB,List.Pairwise.sublist (List.drop_sublist _ _) hA,h⟩,fun x hx y hy=>m.le_ x hx y ?_⟩;rcases List.mem_append.mp hy with hy | hy
  ·exact List.mem_append_right _ hy
  ·exact List.mem_append_left _ hy
structure Sim (st st':SortSt):Prop where
 kind:kindOf st'=kindOf st
 arr:arrOf st'=arrOf st
 pend:pendingOf st'=pendingOf st
 failed:failedOf st'=failedOf st
theorem Sim.refl (st:SortSt):Sim st st:=⟨rfl,rfl,rfl,rfl⟩
theorem Sim.trans {a b c:SortSt} (x:Sim a b) (y:Sim b c):Sim a c:=⟨y.kind.trans x.kind,y.arr.trans x.arr,y.pend.trans x.pend,y.failed.trans x.failed⟩
theorem fO {l:List Keyed} {i:Nat} (h:i<l.length):(l.drop i).take 1=[l[i]]:=by
 rw [List.drop_eq_getElem_cons h,List.take_succ_cons,List.take_zero]
theorem dv (a:Array Keyed) (i k:Nat) (h:i+k≤a.size):(a.extract i (i+k)).toList=(a.toList.drop i).take k:=by
 rw [Array.toList_extract,List.extract_eq_drop_take]
 congr 1
 omega
theorem aU (a:Array Keyed) (i:Nat):(a.extract i a.size).toList=a.toList.drop i:=by
 rw [Array.toList_extract,List.extract_eq_drop_take,List.take_of_length_le];rw [List.length_drop,Array.length_toList]; omega
end Ts
namespace Ts
open PySem PyProof.Rows
theorem fR {lt:Keyed→Keyed→Bool} (L:cS lt) {l:List Keyed} (hl:l.Pairwise (Le lt)) {i:Nat} (h:i<l.length) {x:Keyed} (hx:Le lt x l[i]):∀ y∈l.drop i,Le lt x y:=by
 intro y hy;have h2:=List.Pairwise.sublist (List.drop_sublist i l) hl;rw [List.drop_eq_getElem_cons h] at h2 hy;rcases List.mem_cons.mp hy with rfl | hy
 ·exact hx
 ·exact L.trans hx ((List.pairwise_cons.mp h2).1 y hy)
theorem Mg.pushA {lt:Keyed→Keyed→Bool} (L:cS lt) {a b out:List Keyed} {ia ib:Nat} (m:Mg lt a b out ia ib) (hA:a.Pairwise (Le lt)) (h:ia<a.length) (hle:∀ y∈b.drop ib,Le lt a[ia] y):Mg lt a b (out++[a[ia]]) (ia+1) ib:=by
 have:=m.a hA 1 (by
  intro x hx y hy;rw [fO h] at hx;rw [List.mem_singleton.mp hx];exact hle y hy)
 rw [fO h] at this;exact this
theorem Mg.pushB {lt:Keyed→Keyed→Bool} (L:cS lt) {a b out:List Keyed} {ia ib:Nat} (m:Mg lt a b out ia ib) (hB:b.Pairwise (Le lt)) (h:ib<b.length) (hle:∀ y∈a.drop ia,Le lt b[ib] y):Mg lt a b (out++[b[ib]]) ia (ib+1):=by
 have:=m.b hB 1 (by
  intro x hx y hy;rw [fO h] at hx;rw [List.mem_singleton.mp hx];exact hle y hy)
 rw [fO h] at this;exact this
noncomputable abbrev CS1:=Option (Array Keyed)×Array Keyed×Nat×Nat×Nat
noncomputable abbrev CS2:=Option (Array Keyed)×Array Keyed×Nat×Nat×Nat×Nat
noncomputable abbrev CS3:=Option (Array Keyed)×Array Keyed×Nat×Nat×Nat×Nat×Nat
section
variable {M:Model} {A:Around} {E:Value→Shared→Prop} {s:Shared}
theorem oX {κ:SortKind} {S:Keyed→Prop} {lt:Keyed→Keyed→Bool} (L:cS lt) (H:iw M A E s κ S lt) {a b:Array Keyed} {Q:Array Keyed→SortSt→Prop} {st:SortSt} (hk:kindOf st=κ)
  (hA:a.toList.Pairwise (Le lt)) (hB:b.toList.Pairwise (Le lt)) (sA:∀ x∈a.toList,S x) (sB:∀ x∈b.toList,S x) (na:0<a.size) (nb:0<b.size)
  (h0:∀ x∈a.toList,Le lt b[0] x) (hl:∀ y∈b.toList,∀ x∈a.toList.drop (a.size - 1),Le lt y x)
  (h:∀ r st',Sim st st'→Res lt a.toList b.toList r.toList→Q r st'):wpS M A E s (nP a b) Q st:=by
 have lA:a.toList.length=a.size:=Array.length_toList;have lB:b.toList.length=b.size:=Array.length_toList;have atA:∀ i (hi:i<a.size),a[i]?=some a[i]:=fun i hi=>getElem?_pos a i hi;have atB:∀ i (hi:i<b.size),b[i]?=some b[i]:=fun i hi=>getElem?_pos b i hi;have memA:∀ i (hi:i<a.size),S a[i]:=fun i hi=>sA _ (Array.getElem_mem_toList hi);have memB:∀ i (hi:i<b.size),S b[i]:=fun i hi=>sB _ (Array.getElem_mem_toList hi)
 have m0:Mg lt a.toList b.toList [b[0]] 0 1:=by
  have:=Mg.pushB L (lt:=lt) (a:=a.toList) (b:=b.toList) (out:=[]) (ia:=0) (ib:=0) ⟨List.Perm.refl _,List.Pairwise.nil,fun x hx=>nomatch hx⟩ hB (by omega) (fun y hy=>h0 y hy)
  exact this
 have last:∀ {out:List Keyed} {ia ib:Nat},Mg lt a.toList b.toList out ia ib→ia+1=a.size→Res lt a.toList b.toList (out++b.toList.drop ib++a.toList.drop ia):=by
  intro out ia ib m e;refine m.last hA hB fun y hy x hx=>hl y (List.mem_of_mem_drop hy) x ?_;rw [← e,Nat.add_sub_cancel]; exact hx
 unfold nP;refine wpS_bind (wpS_lift (wpAny_rule ⟨rfl,?_⟩));dsimp only;refine wpS_bind (aC (atB 0 nb) ?_);by_cases c1:(1==b.size)=true
 ·rw [if_pos c1];refine wpS_pure (h _ _ (Sim.refl _) ?_);rw [Array.toList_append,Array.toList_append,aU,aU];exact m0.endB hA (by have:=beq_iff_eq.mp c1; omega)
 rw [if_neg c1];have c1:1≠b.size:=fun e=>c1 (beq_iff_eq.mpr e);by_cases c2:(0+1==a.size)=true
 ·rw [if_pos c2];refine wpS_pure (h _ _ (Sim.refl _) ?_);rw [Array.toList_append,Array.toList_append,aU,aU];exact last m0 (beq_iff_eq.mp c2)
 rw [if_neg c2];have c2:0+1≠a.size:=fun e=>c2 (beq_iff_eq.mpr e);refine wpS_bind (wpS_get ?_);refine wpS_bind (wpS_mono (wpS_forRange
  (I:=fun X (c:CS1) st'=>Sim st st'∧c.1=none∧Mg lt a.toList b.toList c.2.1.toList c.2.2.1 c.2.2.2.1∧c.2.2.1+1<a.size∧c.2.2.2.1<b.size∧X+1≤c.2.2.1+c.2.2.2.1)
  (Q:=fun (c:CS1) st'=>Sim st st'∧∃ r,c.1=some r∧Res lt a.toList b.toList r.toList) ?step ?fin ⟨Sim.refl _,rfl,m0,by show 0+1<a.size; omega,by show 1<b.size; omega,Nat.le_refl _⟩) ?post)
 case post =>
  rintro ⟨c,out,ia,ib,g⟩ st' ⟨sm,r,e,hr⟩;dsimp only at e ⊢;subst e;exact wpS_pure (h r _ sm hr)
 case fin =>
  rintro ⟨c,out,ia,ib,g⟩ st' ⟨sm,e,m,h1,h2,h3⟩;dsimp only at h1 h2 h3;exfalso
  omega
 case step =>
  rintro X ⟨c,out,ia,ib,g⟩ st1 _ hX ⟨sm,e,m,h1,h2,h3⟩;dsimp only at e m h1 h2 h3 ⊢
  -- one at a time
  refine wpS_bind (wpS_mono (wpS_forRange
   (I:=fun x (c:CS2) st'=>Sim st st'∧c.1=none∧Mg lt a.toList b.toList c.2.1.toList c.2.2.1 c.2.2.2.1∧c.2.2.1+1<a.size∧c.2.2.2.1<b.size∧ia+ib+x≤c.2.2.1+c.2.2.2.1)
   (Q:=fun (c:CS2) st'=>Sim st st'∧((∃ r,c.1=some r∧Res lt a.toList b.toList r.toList)∨(c.1=none∧Mg lt a.toList b.toList c.2.1.toList c.2.2.1 c.2.2.2.1∧c.2.2.1+1<a.size∧c.2.2.2.1<b.size∧ia+ib+1≤c.2.2.1+c.2.2.2.1))) ?step ?fin ⟨sm,rfl,m,h1,h2,Nat.le_refl _⟩) ?post)
  case fin =>
   rintro ⟨c,out,ia',ib',ac,bc⟩ st' ⟨sm,e,m,k1,k2,k3⟩;dsimp only at e m k1 k2 k3 ⊢;exact ⟨sm,.inr ⟨e,m,k1,k2,by omega⟩⟩
  case step =>
   clear m h1 h2 sm;rintro x ⟨c,out,ia',ib',ac,bc⟩ st2 _ hx ⟨sm,e,m,k1,k2,k3⟩;dsimp only at e m k1 k2 k3 ⊢;refine wpS_bind (aC (atB ib' k2) ?_);refine wpS_bind (aC (atA ia' (by omega)) ?_);refine wpS_bind (H _ _ _ _ (memB _ k2) (memA _ (by omega)) (sm.kind.trans hk) ?_);dsimp only
   cases hb:lt b[ib'] a[ia'] with
   | true =>
    rw [if_pos rfl];refine wpS_bind (aC (atB ib' k2) ?_)
    have m2:Mg lt a.toList b.toList (out.push b[ib']).toList ia' (ib'+1):=by
     rw [Array.toList_push];exact m.pushB L hB (by omega) (fR L hA (by omega) (L.of_lt hb))
    by_cases d1:(ib'+1==b.size)=true
    ·rw [if_pos d1];refine wpS_pure ⟨sm,.inl ⟨_,rfl,?_⟩⟩;rw [Array.toList_append,Array.toList_append,aU,aU];exact m2.endB hA (by have:=beq_iff_eq.mp d1; omega)
    ·rw [if_neg d1];have d1:ib'+1≠b.size:=fun e=>d1 (beq_iff_eq.mpr e)
     split
     ·exact wpS_pure ⟨sm,.inr ⟨rfl,m2,k1,by show ib'+1<b.size; omega,by show ia+ib+1≤ia'+(ib'+1); omega⟩⟩
     ·exact wpS_pure ⟨sm,rfl,m2,k1,by show ib'+1<b.size; omega,by show ia+ib+(x+1)≤ia'+(ib'+1); omega⟩
   | false =>
    rw [if_neg (by simp)];refine wpS_bind (aC (atA ia' (by omega)) ?_)
    have m2:Mg lt a.toList b.toList (out.push a[ia']).toList (ia'+1) ib':=by
     rw [Array.toList_push];exact m.pushA L hA (by omega) (fR L hB (by omega) hb)
    by_cases d1:(ia'+1+1==a.size)=true
    ·rw [if_pos d1];refine wpS_pure ⟨sm,.inl ⟨_,rfl,?_⟩⟩;rw [Array.toList_append,Array.toList_append,aU,aU];exact last m2 (beq_iff_eq.mp d1)
    ·rw [if_neg d1];have d1:ia'+1+1≠a.size:=fun e=>d1 (beq_iff_eq.mpr e)
     split
     ·exact wpS_pure ⟨sm,.inr ⟨rfl,m2,by show ia'+1+1<a.size; omega,k2,by show ia+ib+1≤ia'+1+ib'; omega⟩⟩
     ·exact wpS_pure ⟨sm,rfl,m2,by show ia'+1+1<a.size; omega,k2,by show ia+ib+(x+1)≤ia'+1+ib'; omega⟩
  case post =>
   clear m h1 h2 sm;rintro ⟨c,out,ia',ib',ac,bc⟩ st2 ⟨sm,⟨r,e,hr⟩ | ⟨e,m,k1,k2,k3⟩⟩
   ·dsimp only at e ⊢;subst e;exact wpS_pure ⟨sm,r,rfl,hr⟩
   ·dsimp only at e m k1 k2 k3 ⊢;subst e;refine wpS_bind (wpS_lift (wpAny_rule ⟨rfl,?_⟩));refine wpS_bind (wpS_mono (wpS_forRange
     (I:=fun x (c:CS3) st'=>Sim st st'∧c.1=none∧Mg lt a.toList b.toList c.2.1.toList c.2.2.1 c.2.2.2.1∧c.2.2.1+1<a.size∧c.2.2.2.1<b.size∧ia'+ib'≤c.2.2.1+c.2.2.2.1)
     (Q:=fun (c:CS3) st'=>Sim st st'∧((∃ r,c.1=some r∧Res lt a.toList b.toList r.toList)∨(c.1=none∧Mg lt a.toList b.toList c.2.1.toList c.2.2.1 c.2.2.2.1∧c.2.2.1+1<a.size∧c.2.2.2.1<b.size∧ia'+ib'≤c.2.2.1+c.2.2.2.1))) ?step ?fin ⟨sm,rfl,m,k1,k2,Nat.le_refl _⟩) ?post)
    case fin =>
     rintro ⟨c,out,ja,jb,g',ac,bc⟩ st' ⟨sm,e,m,k1,k2,k3⟩;exact ⟨sm,.inr ⟨e,m,k1,k2,k3⟩⟩
    case post =>
     clear m k1 k2 sm;rintro ⟨c,out,ja,jb,g',ac,bc⟩ st3 ⟨sm,⟨r,e,hr⟩ | ⟨e,m,k1,k2,k4⟩⟩
     ·dsimp only at e ⊢;subst e;exact wpS_pure ⟨sm,r,rfl,hr⟩
     ·dsimp only at e m k1 k2 k4 ⊢;subst e;refine wpS_bind (wpS_modify ?_);exact wpS_pure ⟨sm.trans ⟨rfl,rfl,rfl,rfl⟩,rfl,m,k1,k2,by show X+1+1≤ja+jb; omega⟩
    case step =>
     clear m k1 k2 sm;rintro x ⟨c,out,ja,jb,g',ac,bc⟩ st3 _ hx ⟨sm,e,m,k1,k2,k4⟩;dsimp only at e m k1 k2 k4 ⊢;by_cases gg:g' > 1
     rw [if_pos gg]
     rotate_left
     rw [if_neg gg]
     all_goals
      refine wpS_bind (wpS_modify ?_);refine wpS_bind (aC (atB jb k2) ?_);refine wpS_bind (dU (b:=ja) (n:=a.size - ja) L H (sm.kind.trans hk) (memB jb k2) (by omega) (fun x hx=>sA x (List.mem_of_mem_drop (List.mem_of_mem_take hx))) (List.Pairwise.sublist ((List.take_sublist _ _).trans (List.drop_sublist _ _)) hA) (by omega) ?_);intro k kn hle hge;rw [List.take_of_length_le (by rw [List.length_drop]; omega),List.drop_drop] at hge;dsimp only
      have m2:Mg lt a.toList b.toList (out++a.extract ja (ja+k)).toList (ja+k) jb:=by
       rw [Array.toList_append,dv _ _ _ (by omega)];exact m.a hA k (fun x hx=>fR L hB (by omega) (hle x hx))
      by_cases kp:k > 0
      ·rw [if_pos kp];by_cases d1:(ja+k+1==a.size)=true
       ·rw [if_pos d1];refine wpS_pure ⟨sm.trans ⟨rfl,rfl,rfl,rfl⟩,.inl ⟨_,rfl,?_⟩⟩;rw [Array.toList_append,Array.toList_append,aU,aU];exact last m2 (beq_iff_eq.mp d1)
       rw [if_neg d1];have d1:ja+k+1≠a.size:=fun e=>d1 (beq_iff_eq.mpr e);by_cases d2:(ja+k==a.size)=true
       ·rw [if_pos d2];refine wpS_pure ⟨sm.trans ⟨rfl,rfl,rfl,rfl⟩,.inl ⟨_,rfl,?_⟩⟩;rw [Array.toList_append,Array.toList_append,aU,aU];exact m2.endA hB (by have:=beq_iff_eq.mp d2; omega)
       rw [if_neg d2];have d2:ja+k≠a.size:=fun e=>d2 (beq_iff_eq.mpr e);have k1:ja+k+1<a.size:=by omega
       have k4:ia'+ib'≤ja+k+jb:=by omega
       clear m hle kn d1 d2 kp;generalize out++a.extract ja (ja+k)=out2 at m2 ⊢;generalize ja+k=ia2 at m2 hge k1 k4 ⊢;refine wpS_bind (aC (atB jb k2) ?_)
       have m3:Mg lt a.toList b.toList (out2.push b[jb]).toList ia2 (jb+1):=by
        rw [Array.toList_push];exact m2.pushB L hB (by omega) hge
       by_cases d1:(jb+1==b.size)=true
       ·rw [if_pos d1];refine wpS_pure ⟨sm.trans ⟨rfl,rfl,rfl,rfl⟩,.inl ⟨_,rfl,?_⟩⟩;rw [Array.toList_append,Array.toList_append,aU,aU];exact m3.endB hA (by have:=beq_iff_eq.mp d1; omega)
       rw [if_neg d1];have d1:jb+1≠b.size:=fun e=>d1 (beq_iff_eq.mpr e);refine wpS_bind (aC (atA ia2 (by omega)) ?_);refine wpS_bind (dU (b:=jb+1) (n:=b.size - (jb+1)) L H (sm.kind.trans hk) (memA ia2 (by omega)) (by omega) (fun x hx=>sB x (List.mem_of_mem_drop (List.mem_of_mem_take hx))) (List.Pairwise.sublist ((List.take_sublist _ _).trans (List.drop_sublist _ _)) hB) (by omega) ?_);intro k' kn hle hge';rw [List.take_of_length_le (by rw [List.length_drop]; omega),List.drop_drop] at hge';dsimp only
       have m4:Mg lt a.toList b.toList (out2.push b[jb]++b.extract (jb+1) (jb+1+k')).toList ia2 (jb+1+k'):=by
        rw [Array.toList_append,dv _ _ _ (by omega)];exact m3.b hB k' (fun x hx=>fR L hA (by omega) (hle x hx))
       by_cases kp:k' > 0
       ·rw [if_pos kp];by_cases d3:(jb+1+k'==b.size)=true
        ·rw [if_pos d3];refine wpS_pure ⟨sm.trans ⟨rfl,rfl,rfl,rfl⟩,.inl ⟨_,rfl,?_⟩⟩;rw [Array.toList_append,Array.toList_append,aU,aU];exact m4.endB hA (by have:=beq_iff_eq.mp d3; omega)
        rw [if_neg d3];have d3:jb+1+k'≠b.size:=fun e=>d3 (beq_iff_eq.mpr e);refine wpS_bind (aC (atA ia2 (by omega)) ?_)
        have m6:Mg lt a.toList b.toList ((out2.push b[jb]++b.extract (jb+1) (jb+1+k')).push a[ia2]).toList (ia2+1) (jb+1+k'):=by
         rw [Array.toList_push];exact m4.pushA L hA (by omega) hge'
        by_cases d4:(ia2+1+1==a.size)=true
        ·rw [if_pos d4];refine wpS_pure ⟨sm.trans ⟨rfl,rfl,rfl,rfl⟩,.inl ⟨_,rfl,?_⟩⟩;rw [Array.toList_append,Array.toList_append,aU,aU];exact last m6 (beq_iff_eq.mp d4)
        rw [if_neg d4];have d4:ia2+1+1≠a.size:=fun e=>d4 (beq_iff_eq.mpr e)
        split
        ·exact wpS_pure ⟨sm.trans ⟨rfl,rfl,rfl,rfl⟩,.inr ⟨rfl,m6,by show ia2+1+1<a.size; omega,by show jb+1+k'<b.size; omega,by show ia'+ib'≤ia2+1+(jb+1+k'); omega⟩⟩
        ·exact wpS_pure ⟨sm.trans ⟨rfl,rfl,rfl,rfl⟩,rfl,m6,by show ia2+1+1<a.size; omega,by show jb+1+k'<b.size; omega,by show ia'+ib'≤ia2+1+(jb+1+k'); omega⟩
       ·rw [if_neg kp];have k0:k'=0:=by omega
        subst k0;refine wpS_bind (aC (atA ia2 (by omega)) ?_)
        have m6:Mg lt a.toList b.toList ((out2.push b[jb]).push a[ia2]).toList (ia2+1) (jb+1):=by
         rw [Array.toList_push];exact m3.pushA L hA (by omega) hge'
        by_cases d4:(ia2+1+1==a.size)=true
        ·rw [if_pos d4];refine wpS_pure ⟨sm.trans ⟨rfl,rfl,rfl,rfl⟩,.inl ⟨_,rfl,?_⟩⟩;rw [Array.toList_append,Array.toList_append,aU,aU];exact last m6 (beq_iff_eq.mp d4)
        rw [if_neg d4];have d4:ia2+1+1≠a.size:=fun e=>d4 (beq_iff_eq.mpr e)
        split
        ·exact wpS_pure ⟨sm.trans ⟨rfl,rfl,rfl,rfl⟩,.inr ⟨rfl,m6,by show ia2+1+1<a.size; omega,by show jb+1<b.size; omega,by show ia'+ib'≤ia2+1+(jb+1); omega⟩⟩
        ·exact wpS_pure ⟨sm.trans ⟨rfl,rfl,rfl,rfl⟩,rfl,m6,by show ia2+1+1<a.size; omega,by show jb+1<b.size; omega,by show ia'+ib'≤ia2+1+(jb+1); omega⟩
      ·rw [if_neg kp];have k0:k=0:=by omega
       subst k0;have m2:=m;have hge:∀ x∈a.toList.drop ja,Le lt b[jb] x:=hge;clear m hle kn kp;generalize out=out2 at m2 ⊢;generalize ja=ia2 at m2 hge k1 k4 ⊢;refine wpS_bind (aC (atB jb k2) ?_)
       have m3:Mg lt a.toList b.toList (out2.push b[jb]).toList ia2 (jb+1):=by
        rw [Array.toList_push];exact m2.pushB L hB (by omega) hge
       by_cases d1:(jb+1==b.size)=true
       ·rw [if_pos d1];refine wpS_pure ⟨sm.trans ⟨rfl,rfl,rfl,rfl⟩,.inl ⟨_,rfl,?_⟩⟩;rw [Array.toList_append,Array.toList_append,aU,aU];exact m3.endB hA (by have:=beq_iff_eq.mp d1; omega)
       rw [if_neg d1];have d1:jb+1≠b.size:=fun e=>d1 (beq_iff_eq.mpr e);refine wpS_bind (aC (atA ia2 (by omega)) ?_);refine wpS_bind (dU (b:=jb+1) (n:=b.size - (jb+1)) L H (sm.kind.trans hk) (memA ia2 (by omega)) (by omega) (fun x hx=>sB x (List.mem_of_mem_drop (List.mem_of_mem_take hx))) (List.Pairwise.sublist ((List.take_sublist _ _).trans (List.drop_sublist _ _)) hB) (by omega) ?_);intro k' kn hle hge';rw [List.take_of_length_le (by rw [List.length_drop]; omega),List.drop_drop] at hge';dsimp only
       have m4:Mg lt a.toList b.toList (out2.push b[jb]++b.extract (jb+1) (jb+1+k')).toList ia2 (jb+1+k'):=by
        rw [Array.toList_append,dv _ _ _ (by omega)];exact m3.b hB k' (fun x hx=>fR L hA (by omega) (hle x hx))
       by_cases kp:k' > 0
       ·rw [if_pos kp];by_cases d3:(jb+1+k'==b.size)=true
        ·rw [if_pos d3];refine wpS_pure ⟨sm.trans ⟨rfl,rfl,rfl,rfl⟩,.inl ⟨_,rfl,?_⟩⟩;rw [Array.toList_append,Array.toList_append,aU,aU];exact m4.endB hA (by have:=beq_iff_eq.mp d3; omega)
        rw [if_neg d3];have d3:jb+1+k'≠b.size:=fun e=>d3 (beq_iff_eq.mpr e);refine wpS_bind (aC (atA ia2 (by omega)) ?_)
        have m6:Mg lt a.toList b.toList ((out2.push b[jb]++b.extract (jb+1) (jb+1+k')).push a[ia2]).toList (ia2+1) (jb+1+k'):=by
         rw [Array.toList_push];exact m4.pushA L hA (by omega) hge'
        by_cases d4:(ia2+1+1==a.size)=true
        ·rw [if_pos d4];refine wpS_pure ⟨sm.trans ⟨rfl,rfl,rfl,rfl⟩,.inl ⟨_,rfl,?_⟩⟩;rw [Array.toList_append,Array.toList_append,aU,aU];exact last m6 (beq_iff_eq.mp d4)
        rw [if_neg d4];have d4:ia2+1+1≠a.size:=fun e=>d4 (beq_iff_eq.mpr e)
        split
        ·exact wpS_pure ⟨sm.trans ⟨rfl,rfl,rfl,rfl⟩,.inr ⟨rfl,m6,by show ia2+1+1<a.size; omega,by show jb+1+k'<b.size; omega,by show ia'+ib'≤ia2+1+(jb+1+k'); omega⟩⟩
        ·exact wpS_pure ⟨sm.trans ⟨rfl,rfl,rfl,rfl⟩,rfl,m6,by show ia2+1+1<a.size; omega,by show jb+1+k'<b.size; omega,by show ia'+ib'≤ia2+1+(jb+1+k'); omega⟩
       ·rw [if_neg kp];have k0:k'=0:=by omega
        subst k0;refine wpS_bind (aC (atA ia2 (by omega)) ?_)
        have m6:Mg lt a.toList b.toList ((out2.push b[jb]).push a[ia2]).toList (ia2+1) (jb+1):=by
         rw [Array.toList_push];exact m3.pushA L hA (by omega) hge'
        by_cases d4:(ia2+1+1==a.size)=true
        ·rw [if_pos d4];refine wpS_pure ⟨sm.trans ⟨rfl,rfl,rfl,rfl⟩,.inl ⟨_,rfl,?_⟩⟩;rw [Array.toList_append,Array.toList_append,aU,aU];exact last m6 (beq_iff_eq.mp d4)
        rw [if_neg d4];have d4:ia2+1+1≠a.size:=fun e=>d4 (beq_iff_eq.mpr e)
        split
        ·exact wpS_pure ⟨sm.trans ⟨rfl,rfl,rfl,rfl⟩,.inr ⟨rfl,m6,by show ia2+1+1<a.size; omega,by show jb+1<b.size; omega,by show ia'+ib'≤ia2+1+(jb+1); omega⟩⟩
        ·exact wpS_pure ⟨sm.trans ⟨rfl,rfl,rfl,rfl⟩,rfl,m6,by show ia2+1+1<a.size; omega,by show jb+1<b.size; omega,by show ia'+ib'≤ia2+1+(jb+1); omega⟩
end
end Ts
namespace Ts
open PySem PyProof.Rows
structure Mh (lt:Keyed→Keyed→Bool) (a b out:List Keyed) (na nb:Nat):Prop where
 perm:(a.take na++b.take nb++out.reverse).Perm (a++b)
 srt:out.reverse.Pairwise (Le lt)
 le_:∀ x∈out,∀ y∈a.take na++b.take nb,Le lt y x
theorem fe (l:List Keyed) {i n:Nat} (h:i≤n):l.take n=l.take i++(l.take n).drop i:=by
 have:=List.take_append_drop i (l.take n)
 rw [List.take_take,Nat.min_eq_left h] at this;exact this.symm
theorem Mh.a {lt:Keyed→Keyed→Bool} {a b out:List Keyed} {na nb:Nat} (m:Mh lt a b out na nb) (hA:a.Pairwise (Le lt)) (i:Nat) (hi:i≤na) (h:∀ x∈(a.take na).drop i,∀ y∈b.take nb,Le lt y x) :
  Mh lt a b (out++((a.take na).drop i).reverse) i nb:=by
 have e:=fe a hi;have hA':=List.Pairwise.sublist (List.take_sublist na a) hA;rw [e,List.pairwise_append] at hA';refine ⟨?_,?_,?_⟩
 ·refine List.Perm.trans ?_ m.perm;rw [List.reverse_append,List.reverse_reverse,← List.append_assoc];refine List.Perm.append_right _ ?_
  conv=>rhs; rw [e]
  rw [List.append_assoc,List.append_assoc];exact List.Perm.append_left _ List.perm_append_comm
 ·rw [List.reverse_append,List.reverse_reverse,List.pairwise_append];exact ⟨hA'.2.1,m.srt,fun x hx y hy=>m.le_ y (List.mem_reverse.mp hy) x (List.mem_append_left _ (List.mem_of_mem_drop hx))⟩
 ·intro x hx y hy;rcases List.mem_append.mp hx with hx | hx
  ·refine m.le_ x hx y ?_;rcases List.mem_append.mp hy with hy | hy
   ·exact List.mem_append_left _ (by rw [e]; exact List.mem_append_left _ hy)
   ·exact List.mem_append_right _ hy
  ·have hx:=List.mem_reverse.mp hx;rcases List.mem_append.mp hy with hy | hy
   ·exact hA'.2.2 y hy x hx
   ·exact h x hx y hy
theorem Mh.b {lt:Keyed→Keyed→Bool} {a b out:List Keyed} {na nb:Nat} (m:Mh lt a b out na nb) (hB:b.Pairwise (Le lt)) (i:Nat) (hi:i≤nb) (h:∀ x∈(b.take nb).drop i,∀ y∈a.take na,Le lt y x) :
  Mh lt a b (out++((b.take nb).drop i).reverse) na i:=by
 have e:=fe b hi;have hB':=List.Pairwise.sublist (List.take_sublist nb b) hB;rw [e,List.pairwise_append] at hB';refine ⟨?_,?_,?_⟩
 ·refine List.Perm.trans ?_ m.perm;rw [List.reverse_append,List.reverse_reverse,← List.append_assoc];refine List.Perm.append_right _ ?_
  conv=>rhs; rw [e]
  rw [List.append_assoc]
 ·rw [List.reverse_append,List.reverse_reverse,List.pairwise_append];exact ⟨hB'.2.1,m.srt,fun x hx y hy=>m.le_ y (List.mem_reverse.mp hy) x (List.mem_append_right _ (List.mem_of_mem_drop hx))⟩
 ·intro x hx y hy;rcases List.mem_append.mp hx with hx | hx
  ·refine m.le_ x hx y ?_;rcases List.mem_append.mp hy with hy | hy
   ·exact List.mem_append_left _ hy
   ·exact List.mem_append_right _ (by rw [e]; exact List.mem_append_left _ hy)
  ·have hx:=List.mem_reverse.mp hx;rcases List.mem_append.mp hy with hy | hy
   ·exact h x hx y hy
   ·exact hB'.2.2 y hy x hx
theorem Mh.endA {lt:Keyed→Keyed→Bool} {a b out:List Keyed} {na nb:Nat} (m:Mh lt a b out na nb) (hB:b.Pairwise (Le lt)) (h:na=0):Res lt a b (a.take na++b.take nb++out.reverse):=by
 subst h;refine ⟨m.perm,?_⟩;rw [List.take_zero,List.nil_append,List.pairwise_append];exact ⟨List.Pairwise.sublist (List.take_sublist _ _) hB,m.srt,fun x hx y hy=>m.le_ y (List.mem_reverse.mp hy) x (List.mem_append_right _ hx)⟩
theorem Mh.endB {lt:Keyed→Keyed→Bool} {a b out:List Keyed} {na nb:Nat} (m:Mh lt a b out na nb) (hA:a.Pairwise (Le lt)) (h:nb=0):Res lt a b (a.take na++b.take nb++out.reverse):=by
 subst h;refine ⟨m.perm,?_⟩;rw [List.take_zero,List.append_nil,List.pairwise_append];exact ⟨List.Pairwise.sublist (List.take_sublist _ _) hA,m.srt,fun x hx y hy=>m.le_ y (List.mem_reverse.mp hy) x (List.mem_append_left _ hx)⟩
theorem Mh.first {lt:Keyed→Keyed→Bool} {a b out:List Keyed} {na nb:Nat} (m:Mh lt a b out na nb) (hA:a.Pairwise (Le lt)) (hB:b.Pairwise (Le lt)) (h:∀ y∈b.take nb,∀ x∈a.take na,Le lt y x):Res lt a b (b.take nb++a.take na++out.reverse):=by
 refine ⟨(List.Perm.append_right _ List.perm_append_comm).trans m.perm,?_⟩;rw [List.pairwise_append,List.pairwise_append];refine ⟨⟨List.Pairwise.sublist (List.take_sublist _ _) hB,List.Pairwise.sublist (List.take_sublist _ _) hA,h⟩,m.srt,fun x hx y hy=>m.le_ y (List.mem_reverse.mp hy) x ?_⟩;rcases List.mem_append.mp hx with hx | hx
 ·exact List.mem_append_right _ hx
 ·exact List.mem_append_left _ hx
theorem f6 {l:List Keyed} {i:Nat} (h:i<l.length):(l.take (i+1)).drop i=[l[i]]:=by
 rw [List.drop_take,show i+1 - i=1 by omega,fO h]
theorem fT {lt:Keyed→Keyed→Bool} (L:cS lt) {l:List Keyed} (hl:l.Pairwise (Le lt)) {i:Nat} (h:i<l.length) {x:Keyed} (hx:Le lt l[i] x):∀ y∈l.take (i+1),Le lt y x:=by
 intro y hy;rw [fe l (Nat.le_succ i),f6 h] at hy;rcases List.mem_append.mp hy with hy | hy
 ·have h2:=List.Pairwise.sublist (List.take_sublist (i+1) l) hl;rw [fe l (Nat.le_succ i),f6 h,List.pairwise_append] at h2;exact L.trans (h2.2.2 y hy _ (List.mem_singleton.mpr rfl)) hx
 ·rw [List.mem_singleton.mp hy]; exact hx
theorem Mh.pushA {lt:Keyed→Keyed→Bool} (L:cS lt) {a b out:List Keyed} {na nb:Nat} (m:Mh lt a b out (na+1) nb) (hA:a.Pairwise (Le lt)) (h:na<a.length) (hle:∀ y∈b.take nb,Le lt y a[na]):Mh lt a b (out++[a[na]]) na nb:=by
 have:=m.a hA na (Nat.le_succ _) (by
  intro x hx y hy;rw [f6 h] at hx;rw [List.mem_singleton.mp hx];exact hle y hy)
 rw [f6 h] at this;exact this
theorem Mh.pushB {lt:Keyed→Keyed→Bool} (L:cS lt) {a b out:List Keyed} {na nb:Nat} (m:Mh lt a b out na (nb+1)) (hB:b.Pairwise (Le lt)) (h:nb<b.length) (hle:∀ y∈a.take na,Le lt y b[nb]):Mh lt a b (out++[b[nb]]) na nb:=by
 have:=m.b hB nb (Nat.le_succ _) (by
  intro x hx y hy;rw [f6 h] at hx;rw [List.mem_singleton.mp hx];exact hle y hy)
 rw [f6 h] at this;exact this
theorem aH (a:Array Keyed) (n:Nat):(a.extract 0 n).toList=a.toList.take n:=by
 rw [Array.toList_extract,List.extract_eq_drop_take,List.drop_zero]; rfl
theorem lY (a:Array Keyed) (i n:Nat):(a.extract i n).reverse.toList=((a.toList.take n).drop i).reverse:=by
 rw [Array.toList_reverse,Array.toList_extract,List.extract_eq_drop_take,List.drop_take]
noncomputable abbrev CH1:=Option (Array Keyed)×Nat×Nat×Array Keyed×Nat
noncomputable abbrev CH2:=Option (Array Keyed)×Nat×Nat×Array Keyed×Nat×Nat
noncomputable abbrev CH3:=Option (Array Keyed)×Nat×Nat×Array Keyed×Nat×Nat×Nat
section
variable {M:Model} {A:Around} {E:Value→Shared→Prop} {s:Shared}
theorem oW {κ:SortKind} {S:Keyed→Prop} {lt:Keyed→Keyed→Bool} (L:cS lt) (H:iw M A E s κ S lt) {a b:Array Keyed} {Q:Array Keyed→SortSt→Prop} {st:SortSt} (hk:kindOf st=κ)
  (hA:a.toList.Pairwise (Le lt)) (hB:b.toList.Pairwise (Le lt)) (sA:∀ x∈a.toList,S x) (sB:∀ x∈b.toList,S x) (na0:0<a.size) (nb0:0<b.size)
  (h0:∀ x∈a.toList,Le lt b[0] x) (hl:∀ y∈b.toList,∀ x∈a.toList.drop (a.size - 1),Le lt y x)
  (h:∀ r st',Sim st st'→Res lt a.toList b.toList r.toList→Q r st'):wpS M A E s (nO a b) Q st:=by
 have lA:a.toList.length=a.size:=Array.length_toList;have lB:b.toList.length=b.size:=Array.length_toList;have atA:∀ i (hi:i<a.size),a[i]?=some a[i]:=fun i hi=>getElem?_pos a i hi;have atB:∀ i (hi:i<b.size),b[i]?=some b[i]:=fun i hi=>getElem?_pos b i hi;have memA:∀ i (hi:i<a.size),S a[i]:=fun i hi=>sA _ (Array.getElem_mem_toList hi);have memB:∀ i (hi:i<b.size),S b[i]:=fun i hi=>sB _ (Array.getElem_mem_toList hi)
 have m0:Mh lt a.toList b.toList [a[a.size - 1]] (a.size - 1) b.size:=by
  have e1:a.size - 1+1=a.size:=by omega
  have:=Mh.pushA L (lt:=lt) (a:=a.toList) (b:=b.toList) (out:=[]) (na:=a.size - 1) (nb:=b.size) (by
   rw [e1];refine ⟨?_,List.Pairwise.nil,fun x hx=>nomatch hx⟩;rw [List.take_of_length_le (by omega),List.take_of_length_le (by omega),List.reverse_nil,List.append_nil]) hA (by omega) (by
   intro y hy;refine hl y (List.mem_of_mem_take hy) _ ?_;rw [List.drop_eq_getElem_cons (by omega)];exact List.mem_cons_self)
  exact this
 have first:∀ {out:List Keyed} {na nb:Nat},Mh lt a.toList b.toList out na nb→nb=1→Res lt a.toList b.toList (b.toList.take nb++a.toList.take na++out.reverse):=by
  intro out na nb m e;refine m.first hA hB fun y hy x hx=>?_;subst e;rw [show b.toList.take 1=[b[0]] by have:=fO (l:=b.toList) (i:=0) (by omega); exact this] at hy;rw [List.mem_singleton.mp hy];exact h0 x (List.mem_of_mem_take hx)
 unfold nO;refine wpS_bind (wpS_lift (wpAny_rule ⟨rfl,?_⟩));dsimp only;refine wpS_bind (aC (atA (a.size - 1) (by omega)) ?_);by_cases c1:(a.size - 1==0)=true
 ·rw [if_pos c1];refine wpS_pure (h _ _ (Sim.refl _) ?_);rw [Array.toList_append,Array.toList_append,aH,aH,Array.toList_reverse];exact m0.endA hB (beq_iff_eq.mp c1)
 rw [if_neg c1];have c1:a.size - 1≠0:=fun e=>c1 (beq_iff_eq.mpr e);by_cases c2:(b.size==1)=true
 ·rw [if_pos c2];refine wpS_pure (h _ _ (Sim.refl _) ?_);rw [Array.toList_append,Array.toList_append,aH,aH,Array.toList_reverse];exact first m0 (beq_iff_eq.mp c2)
 rw [if_neg c2];have c2:b.size≠1:=fun e=>c2 (beq_iff_eq.mpr e);refine wpS_bind (wpS_get ?_);refine wpS_bind (wpS_mono (wpS_forRange
  (I:=fun X (c:CH1) st'=>Sim st st'∧c.1=none∧Mh lt a.toList b.toList c.2.2.2.1.toList c.2.1 c.2.2.1∧0<c.2.1∧c.2.1≤a.size∧1<c.2.2.1∧c.2.2.1≤b.size∧X+1+c.2.1+c.2.2.1≤a.size+b.size)
  (Q:=fun (c:CH1) st'=>Sim st st'∧∃ r,c.1=some r∧Res lt a.toList b.toList r.toList) ?step ?fin ⟨Sim.refl _,rfl,m0,by show 0<a.size - 1; omega,by show a.size - 1≤a.size; omega,by show 1<b.size; omega,Nat.le_refl _,by show 0+1+(a.size - 1)+b.size≤a.size+b.size; omega⟩) ?post)
 case post =>
  rintro ⟨c,na,nb,out,g⟩ st' ⟨sm,r,e,hr⟩;dsimp only at e ⊢;subst e;exact wpS_pure (h r _ sm hr)
 case fin =>
  rintro ⟨c,na,nb,out,g⟩ st' ⟨sm,e,m,h1,h2,h3,h4,h5⟩;dsimp only at h1 h2 h3 h4 h5;exfalso
  omega
 case step =>
  rintro X ⟨c,na,nb,out,g⟩ st1 _ hX ⟨sm,e,m,h1,h2,h3,h4,h5⟩;dsimp only at e m h1 h2 h3 h4 h5 ⊢;refine wpS_bind (wpS_mono (wpS_forRange
   (I:=fun x (c:CH2) st'=>Sim st st'∧c.1=none∧Mh lt a.toList b.toList c.2.2.2.1.toList c.2.1 c.2.2.1∧0<c.2.1∧c.2.1≤a.size∧1<c.2.2.1∧c.2.2.1≤b.size∧x+c.2.1+c.2.2.1≤na+nb)
   (Q:=fun (c:CH2) st'=>Sim st st'∧((∃ r,c.1=some r∧Res lt a.toList b.toList r.toList)∨(c.1=none∧Mh lt a.toList b.toList c.2.2.2.1.toList c.2.1 c.2.2.1∧0<c.2.1∧c.2.1≤a.size∧1<c.2.2.1∧c.2.2.1≤b.size∧1+c.2.1+c.2.2.1≤na+nb))) ?step ?fin ⟨sm,rfl,m,h1,h2,h3,h4,by show 0+na+nb≤na+nb; omega⟩) ?post)
  case fin =>
   rintro ⟨c,na',nb',out,ac,bc⟩ st' ⟨sm,e,m,k1,k2,k3,k4,k5⟩;dsimp only at e m k1 k2 k3 k4 k5 ⊢;exact ⟨sm,.inr ⟨e,m,k1,k2,k3,k4,by omega⟩⟩
  case step =>
   clear m h1 h2 h3 h4 sm;rintro x ⟨c,na',nb',out,ac,bc⟩ st2 _ hx ⟨sm,e,m,k1,k2,k3,k4,k5⟩;dsimp only at e m k1 k2 k3 k4 k5 ⊢;obtain ⟨pa,rfl⟩:∃ pa,na'=pa+1:=⟨na' - 1,by omega⟩
   obtain ⟨pb,rfl⟩:∃ pb,nb'=pb+1:=⟨nb' - 1,by omega⟩
   simp only [Nat.add_sub_cancel];refine wpS_bind (aC (atB pb (by omega)) ?_);refine wpS_bind (aC (atA pa (by omega)) ?_);refine wpS_bind (H _ _ _ _ (memB _ (by omega)) (memA _ (by omega)) (sm.kind.trans hk) ?_);dsimp only
   cases hb:lt b[pb] a[pa] with
   | true =>
    rw [if_pos rfl];refine wpS_bind (aC (atA pa (by omega)) ?_)
    have m2:Mh lt a.toList b.toList (out.push a[pa]).toList pa (pb+1):=by
     rw [Array.toList_push];exact m.pushA L hA (by omega) (fT L hB (by omega) (L.of_lt hb))
    by_cases d1:(pa==0)=true
    ·rw [if_pos d1];refine wpS_pure ⟨sm,.inl ⟨_,rfl,?_⟩⟩;rw [Array.toList_append,Array.toList_append,aH,aH,Array.toList_reverse];exact m2.endA hB (beq_iff_eq.mp d1)
    ·rw [if_neg d1];have d1:pa≠0:=fun e=>d1 (beq_iff_eq.mpr e)
     split
     ·exact wpS_pure ⟨sm,.inr ⟨rfl,m2,by show 0<pa; omega,by show pa≤a.size; omega,k3,k4,by show 1+pa+(pb+1)≤na+nb; omega⟩⟩
     ·exact wpS_pure ⟨sm,rfl,m2,by show 0<pa; omega,by show pa≤a.size; omega,k3,k4,by show x+1+pa+(pb+1)≤na+nb; omega⟩
   | false =>
    rw [if_neg (by simp)];refine wpS_bind (aC (atB pb (by omega)) ?_)
    have m2:Mh lt a.toList b.toList (out.push b[pb]).toList (pa+1) pb:=by
     rw [Array.toList_push];exact m.pushB L hB (by omega) (fT L hA (by omega) hb)
    by_cases d1:(pb==1)=true
    ·rw [if_pos d1];refine wpS_pure ⟨sm,.inl ⟨_,rfl,?_⟩⟩;rw [Array.toList_append,Array.toList_append,aH,aH,Array.toList_reverse];exact first m2 (beq_iff_eq.mp d1)
    ·rw [if_neg d1];have d1:pb≠1:=fun e=>d1 (beq_iff_eq.mpr e)
     split
     ·exact wpS_pure ⟨sm,.inr ⟨rfl,m2,k1,k2,by show 1<pb; omega,by show pb≤b.size; omega,by show 1+(pa+1)+pb≤na+nb; omega⟩⟩
     ·exact wpS_pure ⟨sm,rfl,m2,k1,k2,by show 1<pb; omega,by show pb≤b.size; omega,by show x+1+(pa+1)+pb≤na+nb; omega⟩
  case post =>
   clear m h1 h2 h3 h4 sm;rintro ⟨c,na',nb',out,ac,bc⟩ st2 ⟨sm,⟨r,e,hr⟩ | ⟨e,m,k1,k2,k3,k4,k5⟩⟩
   ·dsimp only at e ⊢;subst e;exact wpS_pure ⟨sm,r,rfl,hr⟩
   ·dsimp only at e m k1 k2 k3 k4 k5 ⊢;subst e;refine wpS_bind (wpS_lift (wpAny_rule ⟨rfl,?_⟩));refine wpS_bind (wpS_mono (wpS_forRange
     (I:=fun x (c:CH3) st'=>Sim st st'∧c.1=none∧Mh lt a.toList b.toList c.2.2.2.1.toList c.2.1 c.2.2.1∧0<c.2.1∧c.2.1≤a.size∧1<c.2.2.1∧c.2.2.1≤b.size∧c.2.1+c.2.2.1≤na'+nb')
     (Q:=fun (c:CH3) st'=>Sim st st'∧((∃ r,c.1=some r∧Res lt a.toList b.toList r.toList)∨(c.1=none∧Mh lt a.toList b.toList c.2.2.2.1.toList c.2.1 c.2.2.1∧0<c.2.1∧c.2.1≤a.size∧1<c.2.2.1∧c.2.2.1≤b.size∧c.2.1+c.2.2.1≤na'+nb'))) ?step ?fin ⟨sm,rfl,m,k1,k2,k3,k4,Nat.le_refl _⟩) ?post)
    case fin =>
     rintro ⟨c,ja,jb,out,g',ac,bc⟩ st' ⟨sm,e,m,k⟩;exact ⟨sm,.inr ⟨e,m,k⟩⟩
    case post =>
     clear m k1 k2 k3 k4 sm;rintro ⟨c,ja,jb,out,g',ac,bc⟩ st3 ⟨sm,⟨r,e,hr⟩ | ⟨e,m,k1,k2,k3,k4,k6⟩⟩
     ·dsimp only at e ⊢;subst e;exact wpS_pure ⟨sm,r,rfl,hr⟩
     ·dsimp only at e m k1 k2 k3 k4 k6 ⊢;subst e;refine wpS_bind (wpS_modify ?_);exact wpS_pure ⟨sm.trans ⟨rfl,rfl,rfl,rfl⟩,rfl,m,k1,k2,k3,k4,by show X+1+1+ja+jb≤a.size+b.size; omega⟩
    case step =>
     clear m k1 k2 k3 k4 sm;rintro x ⟨c,ja,jb,out,g',ac,bc⟩ st3 _ hx ⟨sm,e,m,k1,k2,k3,k4,k6⟩;dsimp only at e m k1 k2 k3 k4 k6 ⊢;obtain ⟨pb,rfl⟩:∃ pb,jb=pb+1:=⟨jb - 1,by omega⟩
     simp only [Nat.add_sub_cancel];by_cases gg:g' > 1
     rw [if_pos gg]
     rotate_left
     rw [if_neg gg]
     all_goals
      refine wpS_bind (wpS_modify ?_);refine wpS_bind (aC (atB pb (by omega)) ?_);refine wpS_bind (dU (b:=0) (n:=ja) L H (sm.kind.trans hk) (memB pb (by omega)) (by omega) (fun x hx=>sA x (List.mem_of_mem_drop (List.mem_of_mem_take hx))) (List.Pairwise.sublist ((List.take_sublist _ _).trans (List.drop_sublist _ _)) hA) (by omega) ?_);intro i kn hle hge;rw [List.drop_zero] at hle hge;dsimp only
      have m2:Mh lt a.toList b.toList (out++(a.extract i ja).reverse).toList i (pb+1):=by
       rw [Array.toList_append,lY];exact m.a hA i kn (fun x hx=>fT L hB (by omega) (hge x hx))
      by_cases kp:ja - i > 0
      ·rw [if_pos kp];by_cases d1:(i==0)=true
       ·rw [if_pos d1];refine wpS_pure ⟨sm.trans ⟨rfl,rfl,rfl,rfl⟩,.inl ⟨_,rfl,?_⟩⟩;rw [Array.toList_append,Array.toList_append,aH,aH,Array.toList_reverse];exact m2.endA hB (beq_iff_eq.mp d1)
       rw [if_neg d1];have d1:i≠0:=fun e=>d1 (beq_iff_eq.mpr e);have k1:0<i:=by omega
       have k2:i≤a.size:=by omega
       have k6:i+(pb+1)≤na'+nb':=by omega
       clear m hge d1;generalize out++(a.extract i ja).reverse=out2 at m2 ⊢;generalize ja - i=u1;obtain ⟨pa,rfl⟩:∃ pa,i=pa+1:=⟨i - 1,by omega⟩
       simp only [Nat.add_sub_cancel];refine wpS_bind (aC (atB pb (by omega)) ?_)
       have m3:Mh lt a.toList b.toList (out2.push b[pb]).toList (pa+1) pb:=by
        rw [Array.toList_push];exact m2.pushB L hB (by omega) hle
       by_cases d1:(pb==1)=true
       ·rw [if_pos d1];refine wpS_pure ⟨sm.trans ⟨rfl,rfl,rfl,rfl⟩,.inl ⟨_,rfl,?_⟩⟩;rw [Array.toList_append,Array.toList_append,aH,aH,Array.toList_reverse];exact first m3 (beq_iff_eq.mp d1)
       rw [if_neg d1];have d1:pb≠1:=fun e=>d1 (beq_iff_eq.mpr e);refine wpS_bind (aC (atA pa (by omega)) ?_);refine wpS_bind (dU (b:=0) (n:=pb) L H (sm.kind.trans hk) (memA pa (by omega)) (by omega) (fun x hx=>sB x (List.mem_of_mem_drop (List.mem_of_mem_take hx))) (List.Pairwise.sublist ((List.take_sublist _ _).trans (List.drop_sublist _ _)) hB) (by omega) ?_);intro i' kn' hle' hge';rw [List.drop_zero] at hle' hge';dsimp only
       have m4:Mh lt a.toList b.toList (out2.push b[pb]++(b.extract i' pb).reverse).toList (pa+1) i':=by
        rw [Array.toList_append,lY];exact m3.b hB i' kn' (fun x hx=>fT L hA (by omega) (hge' x hx))
       by_cases kp':pb - i' > 0
       ·rw [if_pos kp'];by_cases d3:(i'==1)=true
        ·rw [if_pos d3];refine wpS_pure ⟨sm.trans ⟨rfl,rfl,rfl,rfl⟩,.inl ⟨_,rfl,?_⟩⟩;rw [Array.toList_append,Array.toList_append,aH,aH,Array.toList_reverse];exact first m4 (beq_iff_eq.mp d3)
        rw [if_neg d3];have d3:i'≠1:=fun e=>d3 (beq_iff_eq.mpr e);by_cases d5:(i'==0)=true
        ·rw [if_pos d5];refine wpS_pure ⟨sm.trans ⟨rfl,rfl,rfl,rfl⟩,.inl ⟨_,rfl,?_⟩⟩;rw [Array.toList_append,Array.toList_append,aH,aH,Array.toList_reverse];exact m4.endB hA (beq_iff_eq.mp d5)
        rw [if_neg d5];have d5:i'≠0:=fun e=>d5 (beq_iff_eq.mpr e);refine wpS_bind (aC (atA pa (by omega)) ?_)
        have m6:Mh lt a.toList b.toList ((out2.push b[pb]++(b.extract i' pb).reverse).push a[pa]).toList pa i':=by
         rw [Array.toList_push];exact m4.pushA L hA (by omega) hle'
        by_cases d4:(pa==0)=true
        ·rw [if_pos d4];refine wpS_pure ⟨sm.trans ⟨rfl,rfl,rfl,rfl⟩,.inl ⟨_,rfl,?_⟩⟩;rw [Array.toList_append,Array.toList_append,aH,aH,Array.toList_reverse];exact m6.endA hB (beq_iff_eq.mp d4)
        rw [if_neg d4];have d4:pa≠0:=fun e=>d4 (beq_iff_eq.mpr e)
        split
        ·exact wpS_pure ⟨sm.trans ⟨rfl,rfl,rfl,rfl⟩,.inr ⟨rfl,m6,by show 0<pa; omega,by show pa≤a.size; omega,by show 1<i'; omega,by show i'≤b.size; omega,by show pa+i'≤na'+nb'; omega⟩⟩
        ·exact wpS_pure ⟨sm.trans ⟨rfl,rfl,rfl,rfl⟩,rfl,m6,by show 0<pa; omega,by show pa≤a.size; omega,by show 1<i'; omega,by show i'≤b.size; omega,by show pa+i'≤na'+nb'; omega⟩
       ·rw [if_neg kp'];have k0':i'=pb:=by omega
        subst k0';refine wpS_bind (aC (atA pa (by omega)) ?_)
        have m6:Mh lt a.toList b.toList ((out2.push b[i']).push a[pa]).toList pa i':=by
         rw [Array.toList_push];exact m3.pushA L hA (by omega) hle'
        by_cases d4:(pa==0)=true
        ·rw [if_pos d4];refine wpS_pure ⟨sm.trans ⟨rfl,rfl,rfl,rfl⟩,.inl ⟨_,rfl,?_⟩⟩;rw [Array.toList_append,Array.toList_append,aH,aH,Array.toList_reverse];exact m6.endA hB (beq_iff_eq.mp d4)
        rw [if_neg d4];have d4:pa≠0:=fun e=>d4 (beq_iff_eq.mpr e)
        split
        ·exact wpS_pure ⟨sm.trans ⟨rfl,rfl,rfl,rfl⟩,.inr ⟨rfl,m6,by show 0<pa; omega,by show pa≤a.size; omega,by show 1<i'; omega,by show i'≤b.size; omega,by show pa+i'≤na'+nb'; omega⟩⟩
        ·exact wpS_pure ⟨sm.trans ⟨rfl,rfl,rfl,rfl⟩,rfl,m6,by show 0<pa; omega,by show pa≤a.size; omega,by show 1<i'; omega,by show i'≤b.size; omega,by show pa+i'≤na'+nb'; omega⟩
      ·rw [if_neg kp];have k0:i=ja:=by omega
       subst k0;have m2:=m;clear m hge;generalize i - i=u1;generalize out=out2 at m2 ⊢;obtain ⟨pa,rfl⟩:∃ pa,i=pa+1:=⟨i - 1,by omega⟩
       simp only [Nat.add_sub_cancel];refine wpS_bind (aC (atB pb (by omega)) ?_)
       have m3:Mh lt a.toList b.toList (out2.push b[pb]).toList (pa+1) pb:=by
        rw [Array.toList_push];exact m2.pushB L hB (by omega) hle
       by_cases d1:(pb==1)=true
       ·rw [if_pos d1];refine wpS_pure ⟨sm.trans ⟨rfl,rfl,rfl,rfl⟩,.inl ⟨_,rfl,?_⟩⟩;rw [Array.toList_append,Array.toList_append,aH,aH,Array.toList_reverse];exact first m3 (beq_iff_eq.mp d1)
       rw [if_neg d1];have d1:pb≠1:=fun e=>d1 (beq_iff_eq.mpr e);refine wpS_bind (aC (atA pa (by omega)) ?_);refine wpS_bind (dU (b:=0) (n:=pb) L H (sm.kind.trans hk) (memA pa (by omega)) (by omega) (fun x hx=>sB x (List.mem_of_mem_drop (List.mem_of_mem_take hx))) (List.Pairwise.sublist ((List.take_sublist _ _).trans (List.drop_sublist _ _)) hB) (by omega) ?_);intro i' kn' hle' hge';rw [List.drop_zero] at hle' hge';dsimp only
       have m4:Mh lt a.toList b.toList (out2.push b[pb]++(b.extract i' pb).reverse).toList (pa+1) i':=by
        rw [Array.toList_append,lY];exact m3.b hB i' kn' (fun x hx=>fT L hA (by omega) (hge' x hx))
       by_cases kp':pb - i' > 0
       ·rw [if_pos kp'];by_cases d3:(i'==1)=true
        ·rw [if_pos d3];refine wpS_pure ⟨sm.trans ⟨rfl,rfl,rfl,rfl⟩,.inl ⟨_,rfl,?_⟩⟩;rw [Array.toList_append,Array.toList_append,aH,aH,Array.toList_reverse];exact first m4 (beq_iff_eq.mp d3)
        rw [if_neg d3];have d3:i'≠1:=fun e=>d3 (beq_iff_eq.mpr e);by_cases d5:(i'==0)=true
        ·rw [if_pos d5];refine wpS_pure ⟨sm.trans ⟨rfl,rfl,rfl,rfl⟩,.inl ⟨_,rfl,?_⟩⟩;rw [Array.toList_append,Array.toList_append,aH,aH,Array.toList_reverse];exact m4.endB hA (beq_iff_eq.mp d5)
        rw [if_neg d5];have d5:i'≠0:=fun e=>d5 (beq_iff_eq.mpr e);refine wpS_bind (aC (atA pa (by omega)) ?_)
        have m6:Mh lt a.toList b.toList ((out2.push b[pb]++(b.extract i' pb).reverse).push a[pa]).toList pa i':=by
         rw [Array.toList_push];exact m4.pushA L hA (by omega) hle'
        by_cases d4:(pa==0)=true
        ·rw [if_pos d4];refine wpS_pure ⟨sm.trans ⟨rfl,rfl,rfl,rfl⟩,.inl ⟨_,rfl,?_⟩⟩;rw [Array.toList_append,Array.toList_append,aH,aH,Array.toList_reverse];exact m6.endA hB (beq_iff_eq.mp d4)
        rw [if_neg d4];have d4:pa≠0:=fun e=>d4 (beq_iff_eq.mpr e)
        split
        ·exact wpS_pure ⟨sm.trans ⟨rfl,rfl,rfl,rfl⟩,.inr ⟨rfl,m6,by show 0<pa; omega,by show pa≤a.size; omega,by show 1<i'; omega,by show i'≤b.size; omega,by show pa+i'≤na'+nb'; omega⟩⟩
        ·exact wpS_pure ⟨sm.trans ⟨rfl,rfl,rfl,rfl⟩,rfl,m6,by show 0<pa; omega,by show pa≤a.size; omega,by show 1<i'; omega,by show i'≤b.size; omega,by show pa+i'≤na'+nb'; omega⟩
       ·rw [if_neg kp'];have k0':i'=pb:=by omega
        subst k0';refine wpS_bind (aC (atA pa (by omega)) ?_)
        have m6:Mh lt a.toList b.toList ((out2.push b[i']).push a[pa]).toList pa i':=by
         rw [Array.toList_push];exact m3.pushA L hA (by omega) hle'
        by_cases d4:(pa==0)=true
        ·rw [if_pos d4];refine wpS_pure ⟨sm.trans ⟨rfl,rfl,rfl,rfl⟩,.inl ⟨_,rfl,?_⟩⟩;rw [Array.toList_append,Array.toList_append,aH,aH,Array.toList_reverse];exact m6.endA hB (beq_iff_eq.mp d4)
        rw [if_neg d4];have d4:pa≠0:=fun e=>d4 (beq_iff_eq.mpr e)
        split
        ·exact wpS_pure ⟨sm.trans ⟨rfl,rfl,rfl,rfl⟩,.inr ⟨rfl,m6,by show 0<pa; omega,by show pa≤a.size; omega,by show 1<i'; omega,by show i'≤b.size; omega,by show pa+i'≤na'+nb'; omega⟩⟩
        ·exact wpS_pure ⟨sm.trans ⟨rfl,rfl,rfl,rfl⟩,rfl,m6,by show 0<pa; omega,by show pa≤a.size; omega,by show 1<i'; omega,by show i'≤b.size; omega,by show pa+i'≤na'+nb'; omega⟩
end
end Ts
namespace Ts
open PySem PyProof.Rows
noncomputable def seg (xs:Array Keyed) (i n:Nat):List Keyed:=(xs.toList.drop i).take n
theorem dS {xs:Array Keyed} {i n:Nat} (h:i+n≤xs.size):(seg xs i n).length=n:=by
 unfold seg;rw [List.length_take,List.length_drop,Array.length_toList]; omega
theorem jk {xs:Array Keyed} {i n k:Nat} (h:k≤n):seg xs i n=seg xs i k++seg xs (i+k) (n - k):=by
 unfold seg;have:=List.take_append_drop k ((xs.toList.drop i).take n)
 rw [List.take_take,Nat.min_eq_left h,List.drop_take,List.drop_drop] at this;exact this.symm
theorem vZ (xs:Array Keyed) (i n:Nat):xs.toList=xs.toList.take i++seg xs i n++xs.toList.drop (i+n):=by
 unfold seg;have h1:=List.take_append_drop i xs.toList;have h2:=List.take_append_drop n (xs.toList.drop i);rw [List.drop_drop] at h2;rw [List.append_assoc,h2,h1]
theorem laid (sa:Nat):∀ (m:List Keyed) (n:Nat) (xs:Array Keyed),sa+n+m.length≤xs.size →
  ((m.zipIdx n).foldl (fun a (q:Keyed×Nat)=>a.setIfInBounds (sa+q.2) q.1) xs).toList=xs.toList.take (sa+n)++m++xs.toList.drop (sa+n+m.length)
 | [],n,xs,_=>by
  rw [List.zipIdx_nil,List.foldl_nil,List.append_nil,List.length_nil,Nat.add_zero,List.take_append_drop]
 | x::m,n,xs,h=>by
  rw [List.length_cons] at h;rw [List.zipIdx_cons,List.foldl_cons,laid sa m (n+1) _ (by rw [Array.size_setIfInBounds]; omega)];rw [Array.toList_setIfInBounds];have hl:sa+n<xs.toList.length:=by rw [Array.length_toList]; omega
  have e1:(xs.toList.set (sa+n) x).take (sa+(n+1))=xs.toList.take (sa+n)++[x]:=by
   rw [← Nat.add_assoc,List.take_succ,List.take_set_of_le (Nat.le_refl _),List.getElem?_set_self hl]; rfl
  have e2:(xs.toList.set (sa+n) x).drop (sa+(n+1)+m.length)=xs.toList.drop (sa+n+(m.length+1)):=by
   rw [List.drop_set_of_lt (by omega)]
   congr 1
   omega
  rw [e1,e2,List.append_assoc,List.append_assoc,List.append_assoc]; rfl
section
variable {M:Model} {A:Around} {E:Value→Shared→Prop} {s:Shared}
theorem yv {σ:Type} {x st:σ} {Q:PUnit→σ→Prop} (h:Q ⟨⟩ x):wpS M A E s (set x:StateT σ Sem PUnit) Q st:=by
 unfold wpS; rw [StateT.run_set]; exact wpAny_pure ⟨rfl,h⟩
noncomputable def Chg (xs ys:Array Keyed) (i n:Nat) (m:List Keyed):Prop:=m.Perm (seg xs i n)∧ys.toList=xs.toList.take i++m++xs.toList.drop (i+n)
theorem oV {κ:SortKind} {S:Keyed→Prop} {lt:Keyed→Keyed→Bool} (L:cS lt) (H:iw M A E s κ S lt) {i sa na w1 nb w2:Nat} {Q:Bool→SortSt→Prop} {st:SortSt} (hk:kindOf st=κ) (hf:failedOf st=none)
    (h1:(pendingOf st)[i]?=some (sa,na,w1)) (h2:(pendingOf st)[i+1]?=some (sa+na,nb,w2)) (na0:0<na) (nb0:0<nb) (hz:sa+na+nb≤(arrOf st).size)
    (hA:(seg (arrOf st) sa na).Pairwise (Le lt)) (hB:(seg (arrOf st) (sa+na) nb).Pairwise (Le lt)) (hS:∀ x∈(arrOf st).toList,S x)
    (h:∀ st' m,kindOf st'=κ→failedOf st'=none→pendingOf st'=((pendingOf st).setIfInBounds i (sa,na+nb,w1)).eraseIdxIfInBounds (i+1)→Chg (arrOf st) (arrOf st') sa (na+nb) m→m.Pairwise (Le lt)→Q true st') :
    wpS M A E s (mergeAt' i) Q st:=by
  cases st
  rename_i kd xs pd g f;dsimp only [arrOf,kindOf,pendingOf,failedOf] at hk hf h1 h2 hz hA hB hS h;subst hk hf;have memS:∀ i (hi:i<xs.size),S xs[i]:=fun i hi=>hS _ (Array.getElem_mem_toList hi);have at_:∀ i (hi:i<xs.size),xs[i]?=some xs[i]:=fun i hi=>getElem?_pos xs i hi;have segS:∀ i n,∀ x∈seg xs i n,S x:=fun i n x hx=>hS x (List.mem_of_mem_drop (List.mem_of_mem_take hx))
  have stay:∀ st',kindOf st'=kd→failedOf st'=none→pendingOf st'=(pd.setIfInBounds i (sa,na+nb,w1)).eraseIdxIfInBounds (i+1)→arrOf st'=xs→(seg xs sa na++seg xs (sa+na) nb).Pairwise (Le lt)→Q true st':=by
    intro st' e1 e2 e3 e4 hs;have e5:=jk (xs:=xs) (i:=sa) (n:=na+nb) (k:=na) (by omega);rw [Nat.add_sub_cancel_left] at e5;refine h st' _ e1 e2 e3 ⟨List.Perm.of_eq e5.symm,?_⟩ hs
    show (arrOf st').toList=_
    rw [e4,← e5];exact vZ xs sa (na+nb)
  have hb0:∀ {x:Keyed},Le lt x xs[sa+na]→∀ y∈seg xs (sa+na) nb,Le lt x y:=by
    intro x hx y hy;have hlen:=dS (xs:=xs) (i:=sa+na) (n:=nb) (by omega)
    have e:(seg xs (sa+na) nb)[0]=xs[sa+na]:=by
      unfold seg;rw [List.getElem_take,List.getElem_drop];rfl
    exact fR L hB (i:=0) (by omega) (by rw [e]; exact hx) y hy
  unfold mergeAt';refine wpS_bind (wpS_get ?_);dsimp only;rw [h1,h2];refine wpS_bind (yv ?_);refine wpS_bind (aC (at_ (sa+na) (by omega)) ?_);refine wpS_bind (dU (b:=sa) (n:=na) L H rfl (memS _ (by omega)) (by omega) (segS sa na) hA na0 ?_);intro k kn hle hge;dsimp only;have hlenA:=dS (xs:=xs) (i:=sa) (n:=na) (by omega);have eA:=jk (xs:=xs) (i:=sa) (n:=na) (k:=k) kn;have hA2:=hA;rw [eA,List.pairwise_append] at hA2
  have hge:∀ x∈seg xs (sa+k) (na - k),Le lt xs[sa+na] x:=by
    have:((xs.toList.drop sa).take na).drop k=seg xs (sa+k) (na - k):=by
      unfold seg; rw [List.drop_take,List.drop_drop]
    rw [this] at hge;exact hge
  have hle:∀ x∈seg xs sa k,Le lt x xs[sa+na]:=hle;by_cases c1:(na - k==0)=true
  · rw [if_pos c1]
    have c1:=beq_iff_eq.mp c1;have:k=na:=by omega
    subst this;refine wpS_pure (stay _ rfl rfl rfl rfl ?_);rw [List.pairwise_append];exact ⟨hA,hB,fun x hx=>hb0 (hle x hx)⟩
  rw [if_neg c1];have c1:na - k≠0:=fun e=>c1 (beq_iff_eq.mpr e);have el:sa+k+(na - k) - 1=sa+na - 1:=by omega
  rw [el];refine wpS_bind (aC (at_ (sa+na - 1) (by omega)) ?_);refine wpS_bind (dU (b:=sa+na) (n:=nb) L H rfl (memS _ (by omega)) (by omega) (segS (sa+na) nb) hB (by omega) ?_);intro k' kn' hle' hge';dsimp only
  have hge':∀ x∈seg xs (sa+na+k') (nb - k'),Le lt xs[sa+na - 1] x:=by
    have:((xs.toList.drop (sa+na)).take nb).drop k'=seg xs (sa+na+k') (nb - k'):=by
      unfold seg; rw [List.drop_take,List.drop_drop]
    rw [this] at hge';exact hge'
  have hle':∀ x∈seg xs (sa+na) k',Le lt x xs[sa+na - 1]:=hle'
  have lastA:∀ {y:Keyed},Le lt xs[sa+na - 1] y→∀ x∈seg xs sa na,Le lt x y:=by
    intro y hy x hx
    have e:(seg xs sa na)[na - 1]=xs[sa+na - 1]:=by
      unfold seg;rw [List.getElem_take,List.getElem_drop,Array.getElem_toList]
      congr 1
      omega
    have:=fT L hA (i:=na - 1) (by omega) (by rw [e]; exact hy) x
    rw [show na - 1+1=na by omega,List.take_of_length_le (by omega)] at this;exact this hx
  by_cases c2:(k'==0)=true
  · rw [if_pos c2]
    have c2:=beq_iff_eq.mp c2;subst c2;refine wpS_pure (stay _ rfl rfl rfl rfl ?_);rw [List.pairwise_append];exact ⟨hA,hB,fun x hx y hy=>lastA (hge' y hy) x hx⟩
  rw [if_neg c2];have c2:k'≠0:=fun e=>c2 (beq_iff_eq.mpr e);have eB:=jk (xs:=xs) (i:=sa+na) (n:=nb) (k:=k') kn';have hB2:=hB;rw [eB,List.pairwise_append] at hB2
  have exx:(xs.extract (sa+k) (sa+na)).toList=seg xs (sa+k) (na - k):=by
    have:=dv xs (sa+k) (na - k) (by omega)
    rw [show sa+k+(na - k)=sa+na by omega] at this;exact this
  have exy:(xs.extract (sa+na) (sa+na+k')).toList=seg xs (sa+na) k':=dv xs (sa+na) k' (by omega);have sx:(xs.extract (sa+k) (sa+na)).size=na - k:=by rw [Array.size_extract]; omega
  have sy:(xs.extract (sa+na) (sa+na+k')).size=k':=by rw [Array.size_extract]; omega
  have fin:∀ (r:Array Keyed) (st':SortSt),Sim (SortSt.mk' kd xs ((pd.setIfInBounds i (sa,na+nb,w1)).eraseIdxIfInBounds (i+1)) g none) st'→Res lt (seg xs (sa+k) (na - k)) (seg xs (sa+na) k') r.toList →
      Q true (setArr st' (List.foldl (fun a (x:Keyed×Nat)=>a.setIfInBounds (sa+k+x.2) x.1) (arrOf st') r.toList.zipIdx)):=by
    intro r st' sm hr;have lr:r.toList.length=na - k+k':=by rw [hr.1.length_eq,List.length_append,dS (by omega),dS (by omega)]
    refine h _ (seg xs sa k++r.toList++seg xs (sa+na+k') (nb - k')) sm.kind sm.failed sm.pend ⟨?_,?_⟩ ?_
    · have e5:=jk (xs:=xs) (i:=sa) (n:=na+nb) (k:=na) (by omega)
      rw [Nat.add_sub_cancel_left,eA,eB] at e5;rw [e5,List.append_assoc,List.append_assoc];refine List.Perm.append_left _ ?_;rw [← List.append_assoc];exact List.Perm.append_right _ hr.1
    · show (List.foldl _ (arrOf st') _).toList=_
      rw [sm.arr]
      show (List.foldl _ xs _).toList=_
      have:=laid (sa+k) r.toList 0 xs (by omega)
      rw [Nat.add_zero,lr] at this;refine this.trans ?_;have e1:xs.toList.take (sa+k)=xs.toList.take sa++seg xs sa k:=by unfold seg; rw [List.take_add]
      have e2:xs.toList.drop (sa+k+(na - k+k'))=seg xs (sa+na+k') (nb - k')++xs.toList.drop (sa+(na+nb)):=by
        unfold seg;have:=List.take_append_drop (nb - k') (xs.toList.drop (sa+na+k'))
        rw [List.drop_drop] at this;rw [show sa+k+(na - k+k')=sa+na+k' by omega,show sa+(na+nb)=sa+na+k'+(nb - k') by omega];exact this.symm
      rw [e1,e2];simp only [List.append_assoc]
    · rw [List.append_assoc,List.pairwise_append,List.pairwise_append]
      have mem:∀ y∈r.toList,y∈seg xs (sa+k) (na - k)∨y∈seg xs (sa+na) k':=fun y hy=>List.mem_append.mp (hr.1.mem_iff.mp hy);refine ⟨hA2.1,⟨hr.2,hB2.2.1,fun x hx y hy=>?_⟩,fun x hx y hy=>?_⟩
      · rcases mem x hx with hx | hx
        · exact lastA (hge' y hy) x (by rw [eA]; exact List.mem_append_right _ hx)
        · exact hB2.2.2 x hx y hy
      · rcases List.mem_append.mp hy with hy | hy
        · rcases mem y hy with hy | hy
          · exact hA2.2.2 x hx y hy
          · exact hb0 (hle x hx) y (by rw [eB]; exact List.mem_append_left _ hy)
        · exact hb0 (hle x hx) y (by rw [eB]; exact List.mem_append_right _ hy)
  have e0:∀ (h0:0<(xs.extract (sa+na) (sa+na+k')).size),(xs.extract (sa+na) (sa+na+k'))[0]=xs[sa+na]:=fun h0=>by
    rw [Array.getElem_extract]; rfl
  have eL:∀ y∈seg xs (sa+na) k',∀ x∈(seg xs (sa+k) (na - k)).drop (na - k - 1),Le lt y x:=by
    intro y hy x hx
    have e:(seg xs (sa+k) (na - k)).drop (na - k - 1)=[xs[sa+na - 1]]:=by
      have hl:=dS (xs:=xs) (i:=sa+k) (n:=na - k) (by omega);rw [List.drop_eq_getElem_cons (by omega),List.drop_of_length_le (by omega)]
      congr 1
      unfold seg;rw [List.getElem_take,List.getElem_drop,Array.getElem_toList]
      congr 1
      omega
    rw [e] at hx;rw [List.mem_singleton.mp hx];exact hle' y hy
  by_cases c3:na - k≤k'
  · rw [if_pos c3]
    refine wpS_bind (oX L H rfl (by rw [exx]; exact hA2.2.1) (by rw [exy]; exact hB2.1) (by rw [exx]; exact segS _ _) (by rw [exy]; exact segS _ _) (by rw [sx]; omega) (by rw [sy]; omega) (by rw [exx,e0]; exact hge) (by rw [exx,exy,sx]; exact eL) fun r st' sm hr=>?_);rw [exx,exy] at hr;refine wpS_bind (wpS_modify ?_);refine wpS_bind (wpS_get ?_);have:=fin r st' sm hr
    refine wpS_pure ?_;have ef:failedOf st'=none:=sm.failed
    show Q (Option.isNone (failedOf st')) _
    rw [ef];exact this
  · rw [if_neg c3]
    refine wpS_bind (oW L H rfl (by rw [exx]; exact hA2.2.1) (by rw [exy]; exact hB2.1) (by rw [exx]; exact segS _ _) (by rw [exy]; exact segS _ _) (by rw [sx]; omega) (by rw [sy]; omega) (by rw [exx,e0]; exact hge) (by rw [exx,exy,sx]; exact eL) fun r st' sm hr=>?_);rw [exx,exy] at hr;refine wpS_bind (wpS_modify ?_);refine wpS_bind (wpS_get ?_);have:=fin r st' sm hr
    refine wpS_pure ?_;have ef:failedOf st'=none:=sm.failed
    show Q (Option.isNone (failedOf st')) _
    rw [ef];exact this
end
end Ts
namespace Ts
open PySem PyProof.Rows
noncomputable def at' (xs:Array Keyed) (i:Nat):Keyed:=(xs[i]?).getD (.none,.none)
theorem fh {xs ys:Array Keyed} {i j:Nat} (h:xs[i]?=ys[j]?):at' xs i=at' ys j:=by unfold at'; rw [h]
theorem lL {xs:Array Keyed} {i:Nat} (h:i<xs.size):xs[i]?=some (at' xs i):=by unfold at'; rw [getElem?_pos xs i h]; rfl
noncomputable def Up (lt:Keyed→Keyed→Bool) (xs:Array Keyed) (lo n:Nat):Prop:=∀ p q,p≤q→q<n→Le lt (at' xs (lo+p)) (at' xs (lo+q))
noncomputable def iy (lt:Keyed→Keyed→Bool) (xs:Array Keyed) (lo n:Nat):Prop:=∀ p q,p≤q→q<n→Le lt (at' xs (lo+q)) (at' xs (lo+p))
structure gI (xs ys:Array Keyed) (lo:Nat):Prop where
 perm:ys.Perm xs
 low:∀ j,j<lo→ys[j]?=xs[j]?
theorem gI.refl (xs:Array Keyed) (lo:Nat):gI xs xs lo:=⟨Array.Perm.refl _,fun _ _=>rfl⟩
theorem gI.trans {xs ys zs:Array Keyed} {lo:Nat} (h:gI xs ys lo) (h':gI ys zs lo):gI xs zs lo:=⟨h'.perm.trans h.perm,fun j hj=>(h'.low j hj).trans (h.low j hj)⟩
theorem gI.size {xs ys:Array Keyed} {lo:Nat} (h:gI xs ys lo):ys.size=xs.size:=h.perm.size_eq
theorem gI.mem {xs ys:Array Keyed} {lo:Nat} {S:Keyed→Prop} (h:gI xs ys lo) (hS:∀ x∈xs.toList,S x):∀ x∈ys.toList,S x:=fun x hx=>hS x ((Array.perm_iff_toList_perm.mp h.perm).mem_iff.mp hx)
theorem dO {xs:Array Keyed} {lo i j:Nat} (hi:lo≤i) (hj:j≤xs.size):gI xs (mirror xs i j ((j - i) / 2)) lo:=by
 refine ⟨mirror_perm _ _ _ _,fun k hk=>?_⟩;rw [getElem?_mirror_all hj,if_neg (by omega)]
theorem cX {xs:Array Keyed} {i j:Nat} (hj:j≤xs.size) (k:Nat):at' (mirror xs i j ((j - i) / 2)) k=if i≤k∧k<j then at' xs (i+j - 1 - k) else at' xs k:=by
 have:=getElem?_mirror_all (i:=i) hj k
 by_cases h:i≤k∧k<j
 ·rw [if_pos h] at this ⊢; exact fh this
 ·rw [if_neg h] at this ⊢; exact fh this
theorem kD {xs:Array Keyed} {src d:Nat} (hs:src<xs.size) (hd:d≤src) (k:Nat):at' (bubble xs src d) k=if k=src - d then at' xs src else if src - d<k∧k≤src then at' xs (k - 1) else at' xs k:=by
 have:=getElem?_bubble hs d hd k
 by_cases h:k=src - d
 ·rw [if_pos h] at this ⊢; exact fh this
 ·rw [if_neg h] at this ⊢;by_cases h2:src - d<k∧k≤src
  ·rw [if_pos h2] at this ⊢; exact fh this
  ·rw [if_neg h2] at this ⊢; exact fh this
section
variable {M:Model} {A:Around} {E:Value→Shared→Prop} {s:Shared}
theorem f7 {κ:SortKind} {S:Keyed→Prop} {lt:Keyed→Keyed→Bool} (H:iw M A E s κ S lt) {i j:Nat} {Q:Option Bool→SortSt→Prop} {st:SortSt} (hk:kindOf st=κ) (hS:∀ x∈(arrOf st).toList,S x) (hi:i<(arrOf st).size) (hj:j<(arrOf st).size)
  (h:Q (some (lt (at' (arrOf st) i) (at' (arrOf st) j))) st):wpS M A E s (ltAt' i j) Q st:=by
 rw [ltAt'_eq];refine wpS_bind (wpS_get ?_);refine wpS_bind (aC (lL hi) ?_);refine wpS_bind (aC (lL hj) ?_);have m:∀ {i},i<(arrOf st).size→S (at' (arrOf st) i):=fun {i} hi=>hS _ (by rw [← Array.mem_def]; exact Array.mem_of_getElem? (lL hi));exact H _ _ _ _ (m hi) (m hj) hk h
theorem jn {i j:Nat} {Q:Unit→SortSt→Prop} {st:SortSt} (h:Q () (setArr st (mirror (arrOf st) i j ((j - i) / 2)))):wpS M A E s (reverseSlice' i j) Q st:=by
 rw [reverseSlice'_eq]; exact wpS_modify h
theorem yu {i j:Nat} {Q:Unit→SortSt→Prop} {st:SortSt} (h:Q () (setArr st (bubble (arrOf st) i (i - j)))):wpS M A E s (moveDown' i j) Q st:=by
 rw [moveDown'_eq]; exact wpS_modify h
structure Re (st st':SortSt) (lo:Nat):Prop where
 kind:kindOf st'=kindOf st
 failed:failedOf st'=failedOf st
 pend:pendingOf st'=pendingOf st
 keep:gI (arrOf st) (arrOf st') lo
theorem Re.refl (st:SortSt) (lo:Nat):Re st st lo:=⟨rfl,rfl,rfl,gI.refl _ _⟩
theorem Re.set {st st':SortSt} {lo:Nat} (h:Re st st' lo) {ys:Array Keyed} (k:gI (arrOf st') ys lo):Re st (setArr st' ys) lo:=⟨h.kind,h.failed,h.pend,h.keep.trans k⟩
theorem qy {κ:SortKind} {S:Keyed→Prop} {lt:Keyed→Keyed→Bool} (L:cS lt) (H:iw M A E s κ S lt) {lo n ok:Nat} {Q:Bool→SortSt→Prop} {st:SortSt} (hk:kindOf st=κ) (hS:∀ x∈(arrOf st).toList,S x) (hn:lo+n≤(arrOf st).size) (hok:ok≤n) (hu:Up lt (arrOf st) lo ok)
  (h:∀ st',Re st st' lo→Up lt (arrOf st') lo n→Q true st'):wpS M A E s (binarySort' lo n ok) Q st:=by
 unfold binarySort';refine wpS_bind (wpS_mono (wpS_forRange (I:=fun k (c:Option Bool×Unit) st'=>c.1=none∧Re st st' lo∧Up lt (arrOf st') lo (min k n)) (Q:=fun (c:Option Bool×Unit) st'=>c.1=none∧Re st st' lo∧Up lt (arrOf st') lo n) ?step ?fin ?init) ?post)
 case init =>
  refine ⟨rfl,Re.refl _ _,fun p q hpq hq=>?_⟩;by_cases h0:q<ok
  ·exact hu p q hpq h0
  ·have e1:q=0:=by omega
   have e2:p=0:=by omega
   subst e1 e2;exact L.le_refl _
 case fin =>
  rintro ⟨c,u⟩ st' ⟨e,r,hu'⟩;refine ⟨e,r,?_⟩;rw [show min (max (max ok 1) n) n=n by omega] at hu';exact hu'
 case post =>
  rintro ⟨c,u⟩ st' ⟨e,r,hu'⟩;dsimp only at e ⊢;subst e;exact wpS_pure (h st' r hu')
 case step =>
  rintro k ⟨c,u⟩ st1 hk1 hkn ⟨e,r,hu1⟩;dsimp only at e hu1 ⊢;rw [show min k n=k by omega] at hu1;have sz:=r.keep.size;refine wpS_bind (wpS_mono (wpS_forRange (I:=fun x (c:Option Bool×Nat×Nat) st'=>c.1=none∧st1=st'∧c.2.1≤c.2.2∧c.2.2≤k∧c.2.2 - c.2.1+x≤k∧(∀ p,p<c.2.1→Le lt (at' (arrOf st1) (lo+p)) (at' (arrOf st1) (lo+k)))∧(∀ p,c.2.2≤p→p<k→Le lt (at' (arrOf st1) (lo+k)) (at' (arrOf st1) (lo+p))))
   (Q:=fun (c:Option Bool×Nat×Nat) st'=>c.1=none∧st1=st'∧c.2.1=c.2.2∧c.2.2≤k∧(∀ p,p<c.2.1→Le lt (at' (arrOf st1) (lo+p)) (at' (arrOf st1) (lo+k)))∧(∀ p,c.2.2≤p→p<k→Le lt (at' (arrOf st1) (lo+k)) (at' (arrOf st1) (lo+p)))) ?step ?fin ?init) ?post)
  case init=>exact ⟨rfl,rfl,Nat.zero_le _,Nat.le_refl _,by show k - 0+0≤k; omega,fun p hp=>absurd hp (by show ¬ p<0; omega),fun p hp hpk=>absurd hp (by show ¬ k≤p; omega)⟩
  case fin =>
   rintro ⟨c,l,r'⟩ st' ⟨e,e2,h1,h2,h3,h4,h5⟩;dsimp only at e h1 h2 h3 h4 h5 ⊢;exact ⟨e,e2,by omega,h2,h4,h5⟩
  case step =>
   rintro x ⟨c,l,r'⟩ st' _ hx ⟨e,rfl,h1,h2,h3,h4,h5⟩;dsimp only at e h1 h2 h3 h4 h5 ⊢;by_cases hd:l≥r'
   ·rw [if_pos hd];exact wpS_pure ⟨rfl,rfl,by show l=r'; omega,h2,h4,h5⟩
   ·rw [if_neg hd];refine wpS_bind (f7 H (r.kind.trans hk) (r.keep.mem hS) (by omega) (by omega) ?_);dsimp only
    cases hb:lt (at' (arrOf st1) (lo+k)) (at' (arrOf st1) (lo+(l+r') / 2)) with
    | true =>
     rw [if_pos rfl];refine wpS_pure ⟨rfl,rfl,by show l≤(l+r') / 2; omega,by show (l+r') / 2≤k; omega,by show (l+r') / 2 - l+(x+1)≤k; omega,h4,fun p hp hpk=>?_⟩;exact L.trans (L.of_lt hb) (hu1 _ _ hp hpk)
    | false =>
     rw [if_neg (by simp)];refine wpS_pure ⟨rfl,rfl,by show (l+r') / 2+1≤r'; omega,h2,by show r' - ((l+r') / 2+1)+(x+1)≤k; omega,fun p hp=>?_,h5⟩;have hp:p<(l+r') / 2+1:=hp;exact L.trans (hu1 p ((l+r') / 2) (by omega) (by omega)) hb
  case post =>
   rintro ⟨c,l,r'⟩ st' ⟨e,rfl,h1,h2,h4,h5⟩;dsimp only at e h1 h2 h4 h5 ⊢;subst e h1;dsimp only;refine wpS_bind (yu ?_);have hd:lo+k - (lo+l)=k - l:=by omega
   refine wpS_pure ⟨rfl,r.set ⟨bubble_perm _ _ _,fun j hj=>?_⟩,fun p q hpq hq=>?_⟩
   ·rw [getElem?_bubble (by omega) _ (by omega),if_neg (by omega),if_neg (by omega)]
   ·have hq:q<k+1:=by omega
    show Le lt (at' (bubble _ _ _) _) (at' (bubble _ _ _) _)
    rw [kD (by omega) (by omega),kD (by omega) (by omega)];by_cases p1:p<l
    ·rw [if_neg (by omega),if_neg (by omega)];by_cases q1:q<l
     ·rw [if_neg (by omega),if_neg (by omega)];exact hu1 p q hpq (by omega)
     ·by_cases q2:q=l
      ·rw [if_pos (by omega)];exact h4 p p1
      ·rw [if_neg (by omega),if_pos (by omega),show lo+q - 1=lo+(q - 1) by omega];exact hu1 p (q - 1) (by omega) (by omega)
    ·by_cases p2:p=l
     ·rw [if_pos (by omega)];by_cases q2:q=l
      ·rw [if_pos (by omega)]; exact L.le_refl _
      ·rw [if_neg (by omega),if_pos (by omega),show lo+q - 1=lo+(q - 1) by omega];exact h5 (q - 1) (by omega) (by omega)
     ·rw [if_neg (by omega),if_pos (by omega),if_neg (by omega),if_pos (by omega),show lo+q - 1=lo+(q - 1) by omega,show lo+p - 1=lo+(p - 1) by omega];exact hu1 (p - 1) (q - 1) (by omega) (by omega)
end
end Ts
namespace Ts
open PySem PyProof.Rows
theorem Up.one {lt:Keyed→Keyed→Bool} (L:cS lt) (xs:Array Keyed) (lo:Nat):Up lt xs lo 1:=fun p q hpq hq=>by
 have e1:q=0:=by omega
 have e2:p=0:=by omega
 subst e1 e2;exact L.le_refl _
theorem Up.succ {lt:Keyed→Keyed→Bool} (L:cS lt) {xs:Array Keyed} {lo n:Nat} (h:Up lt xs lo (n+1)) (hb:Le lt (at' xs (lo+n)) (at' xs (lo+(n+1)))):Up lt xs lo (n+1+1):=fun p q hpq hq=>by
 by_cases hq1:q<n+1
 ·exact h p q hpq hq1
 ·have e:q=n+1:=by omega
  subst e;by_cases hp:p=n+1
  ·subst hp; exact L.le_refl _
  ·exact L.trans (h p n (by omega) (by omega)) hb
theorem iy.succ {lt:Keyed→Keyed→Bool} (L:cS lt) {xs:Array Keyed} {lo n:Nat} (h:iy lt xs lo (n+1)) (hb:Le lt (at' xs (lo+(n+1))) (at' xs (lo+n))):iy lt xs lo (n+1+1):=fun p q hpq hq=>by
 by_cases hq1:q<n+1
 ·exact h p q hpq hq1
 ·have e:q=n+1:=by omega
  subst e;by_cases hp:p=n+1
  ·subst hp; exact L.le_refl _
  ·exact L.trans hb (h p n (by omega) (by omega))
noncomputable def mZ (lt:Keyed→Keyed→Bool) (xs:Array Keyed) (lo n e:Nat):Prop:=∀ p q,n≤p+(e+1)→n≤q+(e+1)→p<n→q<n→Le lt (at' xs (lo+p)) (at' xs (lo+q))
theorem iQ {lt:Keyed→Keyed→Bool} (L:cS lt) {xs:Array Keyed} {lo n e:Nat} (hn:lo+n≤xs.size) (he:e+1≤n) (hd:iy lt xs lo n) (ha:mZ lt xs lo n e) :
  iy lt (mirror xs (lo+n - (e+1)) (lo+n) ((lo+n - (lo+n - (e+1))) / 2)) lo n∧mZ lt (mirror xs (lo+n - (e+1)) (lo+n) ((lo+n - (lo+n - (e+1))) / 2)) lo n e ∧
  ∀ k,lo+n≤k→at' (mirror xs (lo+n - (e+1)) (lo+n) ((lo+n - (lo+n - (e+1))) / 2)) k=at' xs k:=by
 have A:∀ p,p<n→at' (mirror xs (lo+n - (e+1)) (lo+n) ((lo+n - (lo+n - (e+1))) / 2)) (lo+p)=if n≤p+(e+1) then at' xs (lo+(n+n - (e+1) - 1 - p)) else at' xs (lo+p):=by
  intro p hp;rw [cX (by omega)];by_cases c:n≤p+(e+1)
  ·rw [if_pos (by omega),if_pos c]; congr 1; omega
  ·rw [if_neg (by omega),if_neg c]
 refine ⟨fun p q hpq hq=>?_,fun p q h1 h2 h3 h4=>?_,fun k hk=>?_⟩
 ·rw [A p (by omega),A q (by omega)];by_cases c:n≤p+(e+1)
  ·rw [if_pos c,if_pos (by omega)];exact ha _ _ (by omega) (by omega) (by omega) (by omega)
  ·rw [if_neg c];by_cases c2:n≤q+(e+1)
   ·rw [if_pos c2];exact hd p _ (by omega) (by omega)
   ·rw [if_neg c2];exact hd p q hpq hq
 ·rw [A p h3,A q h4,if_pos h1,if_pos h2];exact ha _ _ (by omega) (by omega) (by omega) (by omega)
 ·rw [cX (by omega),if_neg (by omega)]
section
variable {M:Model} {A:Around} {E:Value→Shared→Prop} {s:Shared}
theorem tJ {κ:SortKind} {S:Keyed→Prop} {lt:Keyed→Keyed→Bool} (L:cS lt) (H:iw M A E s κ S lt) {lo nrem:Nat} {Q:Option Nat→SortSt→Prop} {st:SortSt} (hk:kindOf st=κ) (hS:∀ x∈(arrOf st).toList,S x) (hn:lo+nrem≤(arrOf st).size) (h1:1≤nrem)
    (h:∀ m st',1≤m→m≤nrem→Re st st' lo→Up lt (arrOf st') lo m→Q (some m) st'):wpS M A E s (countRun' lo nrem) Q st:=by
  unfold countRun';refine wpS_bind (wpS_mono (wpS_forRange (I:=fun x (c:Option (Option Nat)×Nat) st'=>c.1=none∧st=st'∧c.2=x∧Up lt (arrOf st) lo x∧1≤x)
    (Q:=fun (c:Option (Option Nat)×Nat) st'=>c.1=none∧st=st'∧1≤c.2∧c.2≤nrem∧Up lt (arrOf st) lo c.2∧(c.2<nrem→lt (at' (arrOf st) (lo+c.2)) (at' (arrOf st) (lo+(c.2 - 1)))=true)) ?step ?fin ⟨rfl,rfl,rfl,Up.one L _ _,Nat.le_refl _⟩) ?post)
  case fin =>
    rintro ⟨c,n⟩ st' ⟨e,rfl,e2,hu,hx⟩;dsimp only at e e2 ⊢;rw [show max 1 nrem=nrem by omega] at e2 hu;subst e2;exact ⟨e,rfl,h1,Nat.le_refl _,hu,fun z=>absurd z (Nat.lt_irrefl _)⟩
  case step =>
    rintro x ⟨c,n⟩ st' hx1 hx ⟨e,rfl,e2,hu,_⟩;dsimp only at e e2 ⊢;subst e2;refine wpS_bind (f7 H hk hS (by omega) (by omega) ?_);dsimp only
    cases hb:lt (at' (arrOf st) (lo+n)) (at' (arrOf st) (lo+n - 1)) with
    | true=>exact wpS_pure ⟨rfl,rfl,hx1,by show n≤nrem; omega,hu,fun _=>by show lt _ (at' _ (lo+(n - 1)))=true; rw [show lo+(n - 1)=lo+n - 1 by omega]; exact hb⟩
    | false =>
      rw [if_neg (by simp)];obtain ⟨m,rfl⟩:∃ m,n=m+1:=⟨n - 1,by omega⟩
      exact wpS_pure ⟨rfl,rfl,rfl,hu.succ L hb,by omega⟩
  case post =>
    rintro ⟨c,n⟩ st' ⟨e,rfl,n1,n2,hu,hlt⟩;dsimp only at e n1 n2 hu hlt ⊢;subst e;dsimp only;by_cases c1:(n==nrem)=true
    · rw [if_pos c1]
      exact wpS_pure (h n st n1 n2 (Re.refl _ _) hu)
    rw [if_neg c1];have c1:n≠nrem:=fun e=>c1 (beq_iff_eq.mpr e);have hlt:=hlt (by omega)
    -- what comes behind the first two parts
    have desc:∀ st1,Re st st1 lo→iy lt (arrOf st1) lo (n+1)→wpS M A E s (do
        let mut cc:=n+1
        let mut dd:=0
        for _ in [cc:nrem] do
          let some uu ← ltAt' (lo+cc) (lo+cc - 1) | return none
          if uu then
            if dd > 0 then reverseSlice' (lo+cc - (dd+1)) (lo+cc)
            dd:=0
          else
            let some vv ← ltAt' (lo+cc - 1) (lo+cc) | return none
            if vv then break
            dd:=dd+1
          cc:=cc+1
        if dd > 0 then reverseSlice' (lo+cc - (dd+1)) (lo+cc)
        reverseSlice' lo (lo+cc)
        for _ in [cc:nrem] do
          let some uu ← ltAt' (lo+cc) (lo+cc - 1) | return none
          if uu then break
          cc:=cc+1
        return some cc) Q st1:=by
      intro st1 r1 hd1;refine wpS_bind (wpS_mono (wpS_forRange (I:=fun x (c:Option (Option Nat)×Nat×Nat) st'=>c.1=none∧Re st st' lo∧c.2.1=x∧n+1≤x∧x≤nrem∧c.2.2+1≤x∧iy lt (arrOf st') lo x∧mZ lt (arrOf st') lo x c.2.2)
        (Q:=fun (c:Option (Option Nat)×Nat×Nat) st'=>c.1=none∧Re st st' lo∧n+1≤c.2.1∧c.2.1≤nrem∧c.2.2+1≤c.2.1∧iy lt (arrOf st') lo c.2.1∧mZ lt (arrOf st') lo c.2.1 c.2.2) ?step ?fin ⟨rfl,r1,rfl,Nat.le_refl _,by omega,by show 0+1≤n+1; omega,hd1,?init⟩) ?post)
      case init =>
        intro p q hp hq hp2 hq2;have hp:n+1≤p+(0+1):=hp;have hq:n+1≤q+(0+1):=hq;have:p=q:=by omega
        subst this; exact L.le_refl _
      case fin =>
        rintro ⟨c,m,e⟩ st' ⟨e1,r,e2,x1,x2,x3,x4,x5⟩;dsimp only at e1 e2 x3 x5 ⊢;rw [show max (n+1) nrem=nrem by omega] at e2 x1 x2 x3 x4 x5;subst e2;exact ⟨e1,r,x1,Nat.le_refl _,x3,x4,x5⟩
      case step =>
        rintro x ⟨c,m,e⟩ st' hx1 hx2 ⟨e1,r,e2,x1,x2,x3,x4,x5⟩;dsimp only at e1 e2 x3 x5 ⊢;subst e2;have sz:=r.keep.size;obtain ⟨m',rfl⟩:∃ m',m=m'+1:=⟨m - 1,by omega⟩
        refine wpS_bind (f7 H (r.kind.trans hk) (r.keep.mem hS) (by omega) (by omega) ?_);dsimp only;rw [show lo+(m'+1) - 1=lo+m' by omega]
        cases hb:lt (at' (arrOf st') (lo+(m'+1))) (at' (arrOf st') (lo+m')) with
        | true =>
          rw [if_pos rfl]
          have one:∀ xs:Array Keyed,mZ lt xs lo (m'+1+1) 0:=by
            intro xs p q hp hq hp2 hq2;have:p=q:=by omega
            subst this; exact L.le_refl _
          by_cases c2:e > 0
          · rw [if_pos c2]
            refine wpS_bind (jn ?_);obtain ⟨g1,g2,g3⟩:=iQ L (xs:=arrOf st') (lo:=lo) (n:=m'+1) (e:=e) (by omega) x3 x4 x5;refine wpS_pure ⟨rfl,r.set (dO (by omega) (by omega)),rfl,by omega,by omega,by show 0+1≤m'+1+1; omega,iy.succ L g1 ?_,one _⟩;rw [g3 _ (by omega)];have:at' (mirror (arrOf st') (lo+(m'+1) - (e+1)) (lo+(m'+1)) ((lo+(m'+1) - (lo+(m'+1) - (e+1))) / 2)) (lo+m')=at' (arrOf st') (lo+(m'+1 - (e+1))):=by
              rw [cX (by omega),if_pos (by omega)]; congr 1; omega
            rw [this];exact L.trans (L.of_lt hb) (x5 m' (m'+1 - (e+1)) (by omega) (by omega) (by omega) (by omega))
          · rw [if_neg c2]
            exact wpS_pure ⟨rfl,r,rfl,by omega,by omega,by show 0+1≤m'+1+1; omega,iy.succ L x4 (L.of_lt hb),one _⟩
        | false =>
          rw [if_neg (by simp)];refine wpS_bind (f7 H (r.kind.trans hk) (r.keep.mem hS) (by omega) (by omega) ?_);dsimp only
          cases hb2:lt (at' (arrOf st') (lo+m')) (at' (arrOf st') (lo+(m'+1))) with
          | true=>exact wpS_pure ⟨rfl,r,x1,x2,x3,x4,x5⟩
          | false =>
            rw [if_neg (by simp)];refine wpS_pure ⟨rfl,r,rfl,by omega,by omega,by show e+1+1≤m'+1+1; omega,iy.succ L x4 hb2,?_⟩;intro p q hp hq hp2 hq2;have hp:m'+1+1≤p+(e+1+1):=hp;have hq:m'+1+1≤q+(e+1+1):=hq;by_cases p1:p=m'+1
            · subst p1
              by_cases q1:q=m'+1
              · subst q1; exact L.le_refl _
              · exact L.trans hb2 (x5 m' q (by omega) (by omega) (by omega) (by omega))
            · by_cases q1:q=m'+1
              · subst q1
                exact L.trans (x5 p m' (by omega) (by omega) (by omega) (by omega)) hb
              · exact x5 p q (by omega) (by omega) (by omega) (by omega)
      case post =>
        rintro ⟨c,m,e⟩ st2 ⟨e1,r,x1,x2,x3,x4,x5⟩;dsimp only at e1 x1 x2 x3 x4 x5 ⊢;subst e1;dsimp only;have last:∀ st3,Re st st3 lo→iy lt (arrOf st3) lo m→wpS M A E s (do
            reverseSlice' lo (lo+m)
            let mut cc:=m
            for _ in [cc:nrem] do
              let some uu ← ltAt' (lo+cc) (lo+cc - 1) | return none
              if uu then break
              cc:=cc+1
            return some cc) Q st3:=by
          intro st3 r3 hd3;have sz:=r3.keep.size;refine wpS_bind (jn ?_);have r4:=r3.set (dO (xs:=arrOf st3) (lo:=lo) (i:=lo) (j:=lo+m) (Nat.le_refl _) (by omega))
          have u4:Up lt (mirror (arrOf st3) lo (lo+m) ((lo+m - lo) / 2)) lo m:=by
            intro p q hpq hq;rw [cX (by omega),cX (by omega),if_pos (by omega),if_pos (by omega),show lo+(lo+m) - 1 - (lo+p)=lo+(m - 1 - p) by omega,show lo+(lo+m) - 1 - (lo+q)=lo+(m - 1 - q) by omega];exact hd3 _ _ (by omega) (by omega)
          generalize hst4:setArr st3 (mirror (arrOf st3) lo (lo+m) ((lo+m - lo) / 2))=st4 at r4;have u4:Up lt (arrOf st4) lo m:=by rw [← hst4]; exact u4
          have sz4:=r4.keep.size;refine wpS_bind (wpS_mono (wpS_forRange (I:=fun x (c:Option (Option Nat)×Nat) st'=>c.1=none∧st4=st'∧c.2=x∧Up lt (arrOf st4) lo x∧m≤x)
            (Q:=fun (c:Option (Option Nat)×Nat) st'=>c.1=none∧st4=st'∧1≤c.2∧c.2≤nrem∧Up lt (arrOf st4) lo c.2) ?step ?fin ⟨rfl,rfl,rfl,u4,Nat.le_refl _⟩) ?post)
          case fin =>
            rintro ⟨c,y⟩ st' ⟨e,rfl,e2,hu,hx⟩;dsimp only at e e2 ⊢;rw [show max m nrem=nrem by omega] at e2 hu;subst e2;exact ⟨e,rfl,h1,Nat.le_refl _,hu⟩
          case step =>
            rintro x ⟨c,y⟩ st' hx1 hx ⟨e,rfl,e2,hu,_⟩;dsimp only at e e2 ⊢;subst e2;refine wpS_bind (f7 H (r4.kind.trans hk) (r4.keep.mem hS) (by omega) (by omega) ?_);dsimp only
            cases hb:lt (at' (arrOf st4) (lo+y)) (at' (arrOf st4) (lo+y - 1)) with
            | true=>exact wpS_pure ⟨rfl,rfl,by show 1≤y; omega,by show y≤nrem; omega,hu⟩
            | false =>
              rw [if_neg (by simp)];obtain ⟨y',rfl⟩:∃ m,y=m+1:=⟨y - 1,by omega⟩
              exact wpS_pure ⟨rfl,rfl,rfl,hu.succ L hb,by omega⟩
          case post =>
            rintro ⟨c,y⟩ st' ⟨e,rfl,y1,y2,hu⟩;dsimp only at e y1 y2 hu ⊢;subst e;exact wpS_pure (h y st4 y1 y2 r4 hu)
        have sz:=r.keep.size;by_cases c2:e > 0
        · rw [if_pos c2]
          refine wpS_bind (jn ?_);obtain ⟨g1,g2,g3⟩:=iQ L (xs:=arrOf st2) (lo:=lo) (n:=m) (e:=e) (by omega) x3 x4 x5;exact last _ (r.set (dO (by omega) (by omega))) g1
        · rw [if_neg c2]
          exact last _ r x4
    by_cases c2:n > 1
    · rw [if_pos c2]
      refine wpS_bind (f7 H hk hS (by omega) (by omega) ?_);dsimp only
      cases hb:lt (at' (arrOf st) lo) (at' (arrOf st) (lo+n - 1)) with
      | true =>
        rw [if_pos rfl];exact wpS_pure (h n st n1 n2 (Re.refl _ _) hu)
      | false =>
        rw [if_neg (by simp)];refine wpS_bind (jn ?_);refine wpS_bind (wpS_lift (wpAny_rule ⟨rfl,?_⟩))
        have all:∀ p q,p<n→q<n→Le lt (at' (arrOf st) (lo+p)) (at' (arrOf st) (lo+q)):=by
          intro p q hp hq;have hb':Le lt (at' (arrOf st) (lo+(n - 1))) (at' (arrOf st) (lo+0)):=by rw [show lo+(n - 1)=lo+n - 1 by omega]; exact hb
          exact L.trans (L.trans (hu p (n - 1) (by omega) (by omega)) hb') (hu 0 q (by omega) hq)
        refine desc _ ((Re.refl st lo).set (dO (Nat.le_refl _) (by omega))) ?_
        have A:∀ p,p<n→at' (mirror (arrOf st) lo (lo+n) ((lo+n - lo) / 2)) (lo+p)=at' (arrOf st) (lo+(n - 1 - p)):=by
          intro p hp;rw [cX (by omega),if_pos (by omega)]; congr 1; omega
        have An:at' (mirror (arrOf st) lo (lo+n) ((lo+n - lo) / 2)) (lo+n)=at' (arrOf st) (lo+n):=by
          rw [cX (by omega),if_neg (by omega)]
        intro p q hpq hq
        show Le lt (at' (mirror _ _ _ _) _) (at' (mirror _ _ _ _) _)
        by_cases q1:q=n
        · subst q1
          by_cases p1:p=q
          · subst p1; exact L.le_refl _
          · rw [An,A p (by omega)]
            exact L.trans (L.of_lt hlt) (all _ _ (by omega) (by omega))
        · rw [A p (by omega),A q (by omega)]
          exact all _ _ (by omega) (by omega)
    · rw [if_neg c2]
      refine wpS_bind (wpS_lift (wpAny_rule ⟨rfl,?_⟩));refine desc _ (Re.refl st lo) ?_;have e1:n=1:=by omega
      subst e1;refine iy.succ L (fun p q hpq hq=>?_) (L.of_lt hlt);have e1:q=0:=by omega
      have e2:p=0:=by omega
      subst e1 e2;exact L.le_refl _
end
end Ts
namespace Ts
open PySem PyProof.Rows
theorem jl {xs:Array Keyed} {s n j:Nat}:(seg xs s n)[j]?=if j<n then xs[s+j]? else none:=by
 unfold seg;by_cases h:j<n
 ·rw [if_pos h,List.getElem?_take_of_lt h,List.getElem?_drop,Array.getElem?_toList]
 ·rw [if_neg h,List.getElem?_take_eq_none (by omega)]
theorem qk {xs ys:Array Keyed} {s n:Nat} (h:∀ j,s≤j→j<s+n→ys[j]?=xs[j]?):seg ys s n=seg xs s n:=by
 refine List.ext_getElem? fun j=>?_;rw [jl,jl];by_cases c:j<n
 ·rw [if_pos c,if_pos c,h _ (by omega) (by omega)]
 ·rw [if_neg c,if_neg c]
theorem Up.seg {lt:Keyed→Keyed→Bool} {xs:Array Keyed} {lo n:Nat} (h:Up lt xs lo n) (hn:lo+n≤xs.size):(seg xs lo n).Pairwise (Le lt):=by
 rw [List.pairwise_iff_getElem];intro i j hi hj hij;have hl:=dS hn
 have e:∀ i (hi:i<(Ts.seg xs lo n).length),(Ts.seg xs lo n)[i]=at' xs (lo+i):=by
  intro i hi;have h1:(Ts.seg xs lo n)[i]?=some (Ts.seg xs lo n)[i]:=List.getElem?_eq_getElem hi;rw [jl,if_pos (by omega),lL (by omega)] at h1;exact (Option.some.inj h1).symm
 rw [e i hi,e j hj];exact h i j (by omega) (by omega)
noncomputable def cg (lt:Keyed→Keyed→Bool) (xs:Array Keyed):Nat→List (Nat×Nat)→Nat→Prop
 | i,[],hi=>i=hi
 | i,(s,n)::ps,hi=>s=i∧1≤n∧(seg xs s n).Pairwise (Le lt)∧cg lt xs (i+n) ps hi
noncomputable def kys (p:Array (Nat×Nat×Nat)):List (Nat×Nat):=p.toList.map fun q=>(q.1,q.2.1)
theorem cg.app {lt:Keyed→Keyed→Bool} {xs:Array Keyed}:∀ {l1 l2:List (Nat×Nat)} {i hi:Nat},cg lt xs i (l1++l2) hi↔∃ m,cg lt xs i l1 m∧cg lt xs m l2 hi
 | [],l2,i,hi=>⟨fun h=>⟨i,rfl,h⟩,fun ⟨m,e,h⟩=>by cases e; exact h⟩
 | (s,n)::l1,l2,i,hi=>by
  constructor
  ·rintro ⟨h1,h2,h3,h4⟩;obtain ⟨m,h5,h6⟩:=cg.app.mp h4;exact ⟨m,⟨h1,h2,h3,h5⟩,h6⟩
  ·rintro ⟨m,⟨h1,h2,h3,h5⟩,h6⟩;exact ⟨h1,h2,h3,cg.app.mpr ⟨m,h5,h6⟩⟩
theorem cg.le {lt:Keyed→Keyed→Bool} {xs:Array Keyed}:∀ {l:List (Nat×Nat)} {i hi:Nat},cg lt xs i l hi→i+l.length≤hi
 | [],i,hi,h=>Nat.le_of_eq h
 | (s,n)::l,i,hi,⟨h1,h2,h3,h4⟩=>by
  have:=cg.le h4
  rw [List.length_cons]; omega
theorem cg.congr {lt:Keyed→Keyed→Bool} {xs ys:Array Keyed}:∀ {l:List (Nat×Nat)} {i hi:Nat},cg lt xs i l hi→(∀ j,i≤j→j<hi→ys[j]?=xs[j]?)→cg lt ys i l hi
 | [],i,hi,h,_=>h
 | (s,n)::l,i,hi,⟨h1,h2,h3,h4⟩,h=>by
  have:=cg.le h4
  refine ⟨h1,h2,?_,cg.congr h4 fun j hj=>h j (by omega)⟩;rw [qk fun j h5 h6=>h j (by omega) (by omega)];exact h3
theorem Chg.get {xs ys:Array Keyed} {i n:Nat} {m:List Keyed} (h:Chg xs ys i n m) (hn:i+n≤xs.size) (j:Nat):ys[j]?=if j<i then xs[j]? else if j<i+n then m[j - i]? else xs[j]?:=by
 have hl:m.length=n:=by rw [h.1.length_eq,dS hn]
 rw [← Array.getElem?_toList,h.2,List.append_assoc,List.getElem?_append,List.length_take,Array.length_toList,Nat.min_eq_left (by omega)];by_cases c:j<i
 ·rw [if_pos c,if_pos c,List.getElem?_take_of_lt c,Array.getElem?_toList]
 ·rw [if_neg c,if_neg c,List.getElem?_append,hl];by_cases c2:j<i+n
  ·rw [if_pos (by omega),if_pos c2]
  ·rw [if_neg (by omega),if_neg c2,List.getElem?_drop,Array.getElem?_toList]
   congr 1; omega
theorem Chg.seg {xs ys:Array Keyed} {i n:Nat} {m:List Keyed} (h:Chg xs ys i n m) (hn:i+n≤xs.size):Ts.seg ys i n=m:=by
 have hl:m.length=n:=by rw [h.1.length_eq,dS hn]
 refine List.ext_getElem? fun j=>?_;rw [jl,h.get hn];by_cases c:j<n
 ·rw [if_pos c,if_neg (by omega),if_pos (by omega),show i+j - i=j by omega]
 ·rw [if_neg c,List.getElem?_eq_none (by omega)]
theorem Chg.perm {xs ys:Array Keyed} {i n:Nat} {m:List Keyed} (h:Chg xs ys i n m):ys.Perm xs:=by
 rw [Array.perm_iff_toList_perm,h.2]
 conv=>rhs; rw [vZ xs i n]
 exact List.Perm.append_right _ (List.Perm.append_left _ h.1)
theorem cg.merge {lt:Keyed→Keyed→Bool} {xs ys:Array Keyed} {l1 l2:List (Nat×Nat)} {sa na sb nb hi:Nat} {m:List Keyed} (h:cg lt xs 0 (l1++(sa,na)::(sb,nb)::l2) hi) (hz:hi≤xs.size) (c:Chg xs ys sa (na+nb) m) (hm:m.Pairwise (Le lt)):cg lt ys 0 (l1++(sa,na+nb)::l2) hi:=by
 obtain ⟨k,h1,h2,h3,h4,h5,h6,h7,h8⟩:=cg.app.mp h;subst h2 h5;have e1:=cg.le h1;have e2:=cg.le h8;refine cg.app.mpr ⟨sa,cg.congr h1 fun j _ hj=>?_,rfl,by omega,?_,?_⟩
 ·rw [c.get (by omega),if_pos hj]
 ·rw [c.seg (by omega)]; exact hm
 ·rw [← Nat.add_assoc];refine cg.congr h8 fun j hj _=>?_;rw [c.get (by omega),if_neg (by omega),if_neg (by omega)]
theorem uz {l:List (Nat×Nat×Nat)} {i:Nat} {x y:Nat×Nat×Nat} (h1:l[i]?=some x) (h2:l[i+1]?=some y):l=l.take i++x::y::l.drop (i+2)∧(l.take i).length=i:=by
 have hi:=(List.getElem?_eq_some_iff.mp h1).1;have hi2:=(List.getElem?_eq_some_iff.mp h2).1;refine ⟨?_,by rw [List.length_take]; omega⟩;have e1:=(List.getElem?_eq_some_iff.mp h1).2;have e2:=(List.getElem?_eq_some_iff.mp h2).2
 conv=>lhs; rw [← List.take_append_drop i l,List.drop_eq_getElem_cons hi,List.drop_eq_getElem_cons hi2,e1,e2]
theorem zN {c:Prop} [Decidable c] {n:Nat} (h:¬ n≤1):(if c then n - 2 - 1 else n - 2)+1<n:=by split<;>omega
section
variable {M:Model} {A:Around} {E:Value→Shared→Prop} {s:Shared}
structure Inv (κ:SortKind) (lt:Keyed→Keyed→Bool) (a0:Array Keyed) (st:SortSt) (lo:Nat):Prop where
 kind:kindOf st=κ
 failed:failedOf st=none
 perm:(arrOf st).Perm a0
 runs:cg lt (arrOf st) 0 (kys (pendingOf st)) lo
theorem Inv.mem {κ:SortKind} {lt:Keyed→Keyed→Bool} {a0:Array Keyed} {st:SortSt} {lo:Nat} {S:Keyed→Prop} (h:Inv κ lt a0 st lo) (hS:∀ x∈a0.toList,S x):∀ x∈(arrOf st).toList,S x:=fun x hx=>hS x ((Array.perm_iff_toList_perm.mp h.perm).mem_iff.mp hx)
theorem gD {κ:SortKind} {S:Keyed→Prop} {lt:Keyed→Keyed→Bool} (L:cS lt) (H:iw M A E s κ S lt) {a0:Array Keyed} {i lo:Nat} {Q:Bool→SortSt→Prop} {st:SortSt} (I:Inv κ lt a0 st lo) (hS:∀ x∈a0.toList,S x) (hz:lo≤a0.size) (hi:i+1<(pendingOf st).size)
  (h:∀ st',Inv κ lt a0 st' lo→(pendingOf st').size+1=(pendingOf st).size→(∀ j,lo≤j→(arrOf st')[j]?=(arrOf st)[j]?)→Q true st'):wpS M A E s (mergeAt' i) Q st:=by
 have sz:=I.perm.size_eq;obtain ⟨⟨sa,na,w1⟩,h1⟩:∃ x,(pendingOf st)[i]?=some x:=⟨_,getElem?_pos _ i (by omega)⟩
 obtain ⟨⟨sb,nb,w2⟩,h2⟩:∃ x,(pendingOf st)[i+1]?=some x:=⟨_,getElem?_pos _ (i+1) hi⟩
 have g1:(pendingOf st).toList[i]?=some (sa,na,w1):=by rw [Array.getElem?_toList]; exact h1
 have g2:(pendingOf st).toList[i+1]?=some (sb,nb,w2):=by rw [Array.getElem?_toList]; exact h2
 obtain ⟨e,le⟩:=uz g1 g2;have r:=I.runs;unfold kys at r;rw [e,List.map_append,List.map_cons,List.map_cons] at r;obtain ⟨k,r1,r2,r3,r4,r5,r6,r7,r8⟩:=cg.app.mp r;dsimp only at r2 r3 r4 r5 r6 r7 r8;subst r2 r5;have l1:=cg.le r1;have l8:=cg.le r8;refine oV L H I.kind I.failed h1 h2 r3 r6 (by omega) r4 r7 (I.mem hS) fun st' m e1 e2 e3 c hm=>?_
 have eP:(pendingOf st').toList=(pendingOf st).toList.take i++(sa,na+nb,w1)::(pendingOf st).toList.drop (i+2):=by
  rw [e3,Array.toList_eraseIdxIfInBounds,Array.toList_setIfInBounds]
  conv=>lhs; rw [e]
  rw [List.set_append_right _ _ (by omega),le,Nat.sub_self,List.set_cons_zero,List.eraseIdx_append_of_length_le (by omega),le,show i+1 - i=1 by omega];rfl
 refine h st' ⟨e1,e2,c.perm.trans I.perm,?_⟩ ?_ fun j hj=>?_
 ·unfold kys;rw [eP,List.map_append,List.map_cons];exact cg.merge r (by omega) c hm
 ·rw [← Array.length_toList,eP,← Array.length_toList (xs:=pendingOf st)]
  conv=>rhs; rw [e]
  simp only [List.length_append,List.length_cons];omega
 ·rw [c.get (by omega),if_neg (by omega),if_neg (by omega)]
theorem Inv.push {κ:SortKind} {lt:Keyed→Keyed→Bool} {a0:Array Keyed} {st:SortSt} {lo n:Nat} (I:Inv κ lt a0 st lo) (hs:(seg (arrOf st) lo n).Pairwise (Le lt)) (hn:1≤n):Inv κ lt a0 (setPending st ((pendingOf st).push (lo,n,0))) (lo+n):=by
 refine ⟨I.kind,I.failed,I.perm,?_⟩
 show cg lt (arrOf st) 0 (kys ((pendingOf st).push (lo,n,0))) (lo+n)
 unfold kys;rw [Array.toList_push,List.map_append];exact cg.app.mpr ⟨lo,I.runs,rfl,hn,hs,rfl⟩
theorem pO {p:Array (Nat×Nat×Nat)} {k w:Nat}:kys (p.modify k fun x=>(x.1,x.2.1,w))=kys p:=by
 unfold kys;refine List.ext_getElem? fun j=>?_;rw [List.getElem?_map,List.getElem?_map,Array.getElem?_toList,Array.getElem?_toList,Array.getElem?_modify];by_cases c:k=j
 ·rw [if_pos c]
  cases p[j]?<;>rfl
 ·rw [if_neg c]
theorem Inv.modif {κ:SortKind} {lt:Keyed→Keyed→Bool} {a0:Array Keyed} {st:SortSt} {lo k w:Nat} (I:Inv κ lt a0 st lo):Inv κ lt a0 (setPending st ((pendingOf st).modify k fun x=>(x.1,x.2.1,w))) lo:=by
 refine ⟨I.kind,I.failed,I.perm,?_⟩
 show cg lt (arrOf st) 0 (kys ((pendingOf st).modify k fun x=>(x.1,x.2.1,w))) lo
 rw [pO];exact I.runs
theorem iu {α:Type} {c:Prop} [Decidable c] {t e:StateT SortSt Sem α} {Q:α→SortSt→Prop} {st:SortSt} (h1:c→wpS M A E s t Q st) (h2:¬ c→wpS M A E s e Q st):wpS M A E s (if c then t else e) Q st:=by
 by_cases h:c
 ·rw [if_pos h]; exact h1 h
 ·rw [if_neg h]; exact h2 h
theorem oY {κ:SortKind} {S:Keyed→Prop} {lt:Keyed→Keyed→Bool} (L:cS lt) (H:iw M A E s κ S lt) {Q:Unit→SortSt→Prop} {st:SortSt} (hk:kindOf st=κ) (hf:failedOf st=none) (hp:pendingOf st=#[]) (hS:∀ x∈(arrOf st).toList,S x)
  (h:∀ st',(arrOf st').Perm (arrOf st)→failedOf st'=none→(arrOf st').toList.Pairwise (Le lt)→Q () st'):wpS M A E s sortRuns' Q st:=by
 have I0:Inv κ lt (arrOf st) st 0:=⟨hk,hf,Array.Perm.refl _,by rw [hp]; rfl⟩
 generalize ha:arrOf st=a0 at hS h I0;unfold sortRuns';refine wpS_bind (wpS_get ?_);have ez:(arrOf st).size=a0.size:=by rw [ha]
 dsimp only;refine wpS_bind (wpS_mono (wpS_forRange (I:=fun x (c:Option Unit×Nat) st'=>c.1=none∧Inv κ lt a0 st' c.2∧x≤c.2∧c.2≤a0.size) (Q:=fun (c:Option Unit×Nat) st'=>c.1=none∧Inv κ lt a0 st' a0.size) ?step ?fin ⟨rfl,I0,Nat.le_refl _,Nat.zero_le _⟩) ?post)
 case fin =>
  rintro ⟨c,lo⟩ st' ⟨e,I,h1,h2⟩;have h1:max 0 (arrOf st).size≤lo:=h1;have h2:lo≤a0.size:=h2;have e2:lo=a0.size:=by omega
  subst e2;exact ⟨e,I⟩
 case step =>
  rintro x ⟨c,lo⟩ st1 _ hx ⟨e,I,h1,h2⟩;dsimp only at e I h1 h2 ⊢;generalize hN:(arrOf st).size=N at hx ez ⊢;have sz:=I.perm.size_eq;refine iu (fun hd=>?_) (fun hd=>?_)
  ·have e2:lo=a0.size:=by omega
   subst e2;exact wpS_pure ⟨rfl,I⟩
  ·refine wpS_bind (tJ L H I.kind (I.mem hS) (by omega) (by omega) fun m st2 m1 m2 r2 u2=>?_);dsimp only;refine iu (fun hm=>?_) (fun hm=>?_)
   ·have sz2:=r2.keep.size;refine wpS_bind (wpS_lift (wpAny_rule ⟨rfl,?_⟩));refine wpS_bind (qy L H (r2.kind.trans I.kind) (r2.keep.mem (I.mem hS)) (by omega) (by omega) u2 fun st3 r3' u3=>?_);rw [if_neg (by simp)];have r3:Re st1 st3 lo:=⟨r3'.kind.trans r2.kind,r3'.failed.trans r2.failed,r3'.pend.trans r2.pend,r2.keep.trans r3'.keep⟩
    have sz3:=r3.keep.size;have sg:=u3.seg (by omega);have I3:Inv κ lt a0 st3 lo:=⟨r3.kind.trans I.kind,r3.failed.trans I.failed,r3.keep.perm.trans I.perm,by rw [r3.pend]; exact cg.congr I.runs fun j _ hj=>r3.keep.low j hj⟩
    refine wpS_bind (wpS_get ?_)
    cases hb:(pendingOf st3).back? with
    | none =>
     dsimp only;refine wpS_bind (wpS_modify ?_);exact wpS_pure ⟨rfl,I3.push sg (by omega),by dsimp only; omega,by dsimp only; omega⟩
    | some t =>
     obtain ⟨s1,n1,w1⟩:=t;dsimp only;refine wpS_bind (wpS_mono (wpS_forRange (I:=fun x (c:Option Unit×Unit) st'=>c.1=none∧Inv κ lt a0 st' lo∧∀ j,lo≤j→(arrOf st')[j]?=(arrOf st3)[j]?) (Q:=fun (c:Option Unit×Unit) st'=>c.1=none∧Inv κ lt a0 st' lo∧∀ j,lo≤j→(arrOf st')[j]?=(arrOf st3)[j]?) ?_ (fun _ _ z=>z) ⟨rfl,I3,fun _ _=>rfl⟩) ?_)
     ·rintro y ⟨c,u⟩ st4 _ _ ⟨e,I4,k4⟩;refine wpS_bind (wpS_get ?_);by_cases hz:(pendingOf st4).size > 1
      ·rw [if_pos hz];obtain ⟨⟨q1,q2,q3⟩,hq⟩:∃ q,(pendingOf st4)[(pendingOf st4).size - 2]?=some q:=⟨_,getElem?_pos _ _ (by omega)⟩
       rw [hq];dsimp only;refine iu (fun _=>?_) (fun _=>?_)
       ·exact wpS_pure ⟨rfl,I4,k4⟩
       ·refine wpS_bind (gD L H I4 hS (by omega) (by show (pendingOf st4).size - 2+1<(pendingOf st4).size; omega) fun st5 I5 _ k5=>?_);rw [if_neg (by simp)];exact wpS_pure ⟨rfl,I5,fun j hj=>(k5 j hj).trans (k4 j hj)⟩
      ·rw [if_neg hz];exact wpS_pure ⟨rfl,I4,k4⟩
     ·rintro ⟨c,u⟩ st4 ⟨e,I4,k4⟩;dsimp only at e ⊢;subst e;dsimp only;refine wpS_bind (wpS_modify ?_);refine wpS_bind (wpS_modify ?_);have sg4:=sg;rw [← qk (ys:=arrOf st4) fun j hj _=>k4 j hj] at sg4;exact wpS_pure ⟨rfl,I4.modif.push sg4 (by omega),by dsimp only; omega,by dsimp only; omega⟩
   ·have r3:=r2;have u3:=u2;have sz3:=r3.keep.size;have sg:=u3.seg (by omega);generalize st2=st3 at r3 u3 sz3 sg ⊢;have I3:Inv κ lt a0 st3 lo:=⟨r3.kind.trans I.kind,r3.failed.trans I.failed,r3.keep.perm.trans I.perm,by rw [r3.pend]; exact cg.congr I.runs fun j _ hj=>r3.keep.low j hj⟩
    refine wpS_bind (wpS_get ?_)
    cases hb:(pendingOf st3).back? with
    | none =>
     dsimp only;refine wpS_bind (wpS_modify ?_);exact wpS_pure ⟨rfl,I3.push sg (by omega),by dsimp only; omega,by dsimp only; omega⟩
    | some t =>
     obtain ⟨s1,n1,w1⟩:=t;dsimp only;refine wpS_bind (wpS_mono (wpS_forRange (I:=fun x (c:Option Unit×Unit) st'=>c.1=none∧Inv κ lt a0 st' lo∧∀ j,lo≤j→(arrOf st')[j]?=(arrOf st3)[j]?) (Q:=fun (c:Option Unit×Unit) st'=>c.1=none∧Inv κ lt a0 st' lo∧∀ j,lo≤j→(arrOf st')[j]?=(arrOf st3)[j]?) ?_ (fun _ _ z=>z) ⟨rfl,I3,fun _ _=>rfl⟩) ?_)
     ·rintro y ⟨c,u⟩ st4 _ _ ⟨e,I4,k4⟩;refine wpS_bind (wpS_get ?_);by_cases hz:(pendingOf st4).size > 1
      ·rw [if_pos hz];obtain ⟨⟨q1,q2,q3⟩,hq⟩:∃ q,(pendingOf st4)[(pendingOf st4).size - 2]?=some q:=⟨_,getElem?_pos _ _ (by omega)⟩
       rw [hq];dsimp only;refine iu (fun _=>?_) (fun _=>?_)
       ·exact wpS_pure ⟨rfl,I4,k4⟩
       ·refine wpS_bind (gD L H I4 hS (by omega) (by show (pendingOf st4).size - 2+1<(pendingOf st4).size; omega) fun st5 I5 _ k5=>?_);rw [if_neg (by simp)];exact wpS_pure ⟨rfl,I5,fun j hj=>(k5 j hj).trans (k4 j hj)⟩
      ·rw [if_neg hz];exact wpS_pure ⟨rfl,I4,k4⟩
     ·rintro ⟨c,u⟩ st4 ⟨e,I4,k4⟩;dsimp only at e ⊢;subst e;dsimp only;refine wpS_bind (wpS_modify ?_);refine wpS_bind (wpS_modify ?_);have sg4:=sg;rw [← qk (ys:=arrOf st4) fun j hj _=>k4 j hj] at sg4;exact wpS_pure ⟨rfl,I4.modif.push sg4 (by omega),by dsimp only; omega,by dsimp only; omega⟩
 case post =>
  rintro ⟨c,lo⟩ st1 ⟨e,I⟩;dsimp only at e ⊢;subst e;dsimp only;have sz:=I.perm.size_eq
  have n0:(pendingOf st1).size≤a0.size:=by
   have:=cg.le I.runs
   unfold kys at this;rw [List.length_map,Array.length_toList] at this;omega
  refine wpS_bind (wpS_mono (wpS_forRange (I:=fun x (c:Option Unit×Unit) st'=>c.1=none∧Inv κ lt a0 st' a0.size∧((pendingOf st').size+x≤a0.size∨(pendingOf st').size≤1)) (Q:=fun (c:Option Unit×Unit) st'=>c.1=none∧Inv κ lt a0 st' a0.size∧(pendingOf st').size≤1) ?step ?fin ⟨rfl,I,.inl n0⟩) ?post)
  case fin =>
   rintro ⟨c,u⟩ st' ⟨e,I,h1⟩;refine ⟨e,I,?_⟩;have h1:(pendingOf st').size+max 0 (arrOf st).size≤a0.size∨(pendingOf st').size≤1:=h1;omega
  case step =>
   rintro x ⟨c,u⟩ st2 _ hx ⟨e,I,h1⟩;dsimp only at e h1 ⊢;refine wpS_bind (wpS_get ?_);refine iu (fun hd=>?_) (fun hd=>?_)
   ·exact wpS_pure ⟨rfl,I,hd⟩
   ·refine wpS_bind (gD L H I hS (Nat.le_refl _) ?_ fun st3 I3 h3 _=>?_)
    ·have hd:¬ (pendingOf st2).size≤1:=hd;exact zN hd
    ·rw [if_neg (by simp)];refine wpS_pure ⟨rfl,I3,?_⟩
     show (pendingOf st3).size+(x+1)≤a0.size∨(pendingOf st3).size≤1
     have hd:¬ (pendingOf st2).size≤1:=hd;omega
  case post =>
   rintro ⟨c,u⟩ st2 ⟨e,I,h1⟩;dsimp only at e h1 ⊢;subst e;have r:=I.runs;have szz:=I.perm.size_eq;refine wpS_pure (h st2 I.perm I.failed ?_)
   match hq:kys (pendingOf st2),r with
   | [],r =>
    have r:0=a0.size:=r;have:(arrOf st2).toList=[]:=List.eq_nil_of_length_eq_zero (by rw [Array.length_toList]; omega)
    rw [this];exact List.Pairwise.nil
   | [(s1,n1)],⟨r1,r2,r3,r4⟩ =>
    have r4:0+n1=a0.size:=r4;subst r1;have:seg (arrOf st2) 0 n1=(arrOf st2).toList:=by
     unfold seg;rw [List.drop_zero,List.take_of_length_le (by rw [Array.length_toList]; omega)]
    rw [this] at r3;exact r3
   | x::y::l,r =>
    have:(kys (pendingOf st2)).length=(pendingOf st2).size:=by unfold kys; rw [List.length_map,Array.length_toList]
    rw [hq,List.length_cons,List.length_cons] at this;omega
end
end Ts
namespace Ts
open PySem PyProof.Rows PySem.W
section
variable {prog:Program} {w:World} {A:Around} {E:Value→Shared→Prop} {s:Shared}
noncomputable def qF (prog:Program) (w:World) (s:Shared) (a:Addr) (ks:List Value) (κ:SortKind) (S:Keyed→Prop) (lt:Keyed→Keyed→Bool):Prop :=
 ∀ (A:Around) (E:Value→Shared→Prop) (h:Heap),(∀ b o,b≠a→s.heap.get? b=some o→h.get? b=some o) →
  (2≤ks.length→∀ Q,Q κ { s with heap:=h }→wpAny (model prog w) A (keyKind' ks.toArray) Q E { s with heap:=h })∧iw (model prog w) A E { s with heap:=h } κ S lt
theorem vS {κ:SortKind} {S:Keyed→Prop} {lt:Keyed→Keyed→Bool} (L:cS lt) {a:Addr} {vs:List Value} {n:Nat} {P:Fin→Shared→Prop} (ho:s.heap.get? a=some (seqObj "list" vs.toArray n)) (hz:vs.length≤sizeLine)
  (hs:qF prog w s a vs κ S lt) (hS:∀ x∈(pairsOf vs).toList,S x)
  (h:∀ out:Array Keyed,out.Perm (pairsOf vs)→out.toList.Pairwise (Le lt)→P (.done (.ret .none)) { s with heap:=sortedHeap s.heap a vs (out.map (·.2)) }) :
  wpAny (model prog w) A (Builtin.«list.sort» ⟨[.ref a],[]⟩) P E s:=by
 rw [list_sort_plain];have ha:a<s.heap.objs.size:=Heap.lt_size ho;have hsz:vs.toArray.size=vs.length:=by simp
 refine wpAny_bind (listItems_at ho rfl ?_);refine wpAny_bind (listUpdate_at ho rfl ?_ (by omega) (Nat.zero_le _));obtain ⟨e1,ho1⟩:∃ e1,(s.heap.update a (Obj.mapSeq fun _=>#[])).get? a=some (seqObj "list" #[] e1):=⟨_,get?_update_seq ho (fun _=>#[])⟩
 refine wpAny_bind (seqEpoch_at ho1 rfl ?_);refine wpAny_bind (wpAny_newTuple ?_ (by first | exact hz | (simp; exact hz)));refine wpAny_bind (wpAny_newList ?_);refine wpAny_holding ?_
 show wpAny (model prog w) A _ P E { s with heap:=((s.heap.update a (Obj.mapSeq fun _=>#[])).push (seqObj "tuple" vs.toArray 0)).push (seqObj "list" #[] 0) }
 generalize hH6:((s.heap.update a (Obj.mapSeq fun _=>#[])).push (seqObj "tuple" vs.toArray 0)).push (seqObj "list" #[] 0)=h6
 have ho6:h6.get? a=some (seqObj "list" #[] e1):=by
  rw [← hH6,Heap.get?_push_ne _ _ _ (by rw [size_push',Heap.size_update]; exact Nat.ne_of_lt (Nat.lt_succ_of_lt ha)),Heap.get?_push_ne _ _ _ (by rw [Heap.size_update]; exact Nat.ne_of_lt ha)];exact ho1
 have keep:∀ b o,b≠a→s.heap.get? b=some o→h6.get? b=some o:=fun b o hb q=>by
  rw [← hH6];exact Heap.get?_push_of_some _ (Heap.get?_push_of_some _ ((Heap.get?_update_other _ _ (Ne.symm hb)).trans q))
 have fin:∀ out:Array Keyed,out.Perm (pairsOf vs)→out.toList.Pairwise (Le lt)→P (.done (.ret .none)) { s with heap:=h6.update a (Obj.mapSeq fun _=>out.map (·.2)) }:=by
  intro out hp hs;rw [← hH6];exact h out hp hs
 dsimp only;obtain ⟨hk,hasks⟩:=hs A E h6 keep;by_cases h2:vs.toArray.size<2
 ·rw [if_pos h2,if_pos h2];refine wpAny_bind (wpAny_pure ?_);rw [StateT.run_pure];refine wpAny_bind (wpAny_pure ?_);dsimp only;refine wpAny_bind (seqEpoch_at ho6 rfl ?_);refine wpAny_bind (listUpdate_at ho6 rfl ?_ (by simp) (by rw [Array.size_map]; show (pairsOf vs).size≤_; rw [pairsOf_size,sizeLine_eq]; omega));simp only [bne_self_eq_false,Bool.false_eq_true,if_false];refine wpAny_pure (fin (vs.toArray.zip vs.toArray) (Array.Perm.refl _) ?_)
  show (pairsOf vs).toList.Pairwise _
  rw [pairsOf_toList]
  match vs,hsz,h2 with
  | [], _, _ => exact List.Pairwise.nil
  | [v], _, _ => exact List.pairwise_singleton _ _
  | v₁ :: v₂ :: cW, e, h2 => simp at h2; omega
 ·rw [if_neg h2,if_neg h2];refine wpAny_bind (hk (by omega) _ ?_);refine wpAny_bind (wpAny_mono (oY (E:=E) (s:={ s with heap:=h6 }) (A:=A) L hasks (st:=SortSt.mk' κ (vs.toArray.zip vs.toArray) #[] 7 none)
   (Q:=fun _ st'=>(arrOf st').Perm (pairsOf vs)∧failedOf st'=none∧(arrOf st').toList.Pairwise (Le lt)) rfl rfl rfl hS fun st' a1 a2 a3=>⟨a1,a2,a3⟩) ?_ fun _ _ e=>e)
  rintro ⟨⟨⟩,st'⟩ s' ⟨rfl,hp,hf,hs⟩;dsimp only;refine wpAny_bind (seqEpoch_at ho6 rfl ?_);refine wpAny_bind (listUpdate_at ho6 rfl ?_ (by simp) (by refine Nat.le_trans (Nat.le_of_eq ((Array.size_map ..).trans (hp.size_eq.trans (pairsOf_size _)))) ?_; omega));rw [hf];simp only [bne_self_eq_false,Bool.false_eq_true,if_false];exact wpAny_pure (fin _ hp hs)
theorem j3 {κ:SortKind} {S:Keyed→Prop} {lt:Keyed→Keyed→Bool} (L:cS lt) {l:Addr} {vs:List Value} {Q:Value→Shared→Prop} (hl:s.heap.IsList l vs.toArray) (hz:vs.length≤sizeLine)
  (hs:∀ h,(∀ b o,s.heap.get? b=some o→h.get? b=some o)→qF prog w { s with heap:=h } (s.heap.objs.size+1) vs κ S lt) (hS:∀ x∈(pairsOf vs).toList,S x)
  (h:∀ out:Array Keyed,out.Perm (pairsOf vs)→out.toList.Pairwise (Le lt)→Q (.ref (s.heap.objs.size+1)) { s with heap:=sortedAll s.heap vs (out.map (·.2)) }) :
  wpAny (model prog w) A (call (.builtin "sorted") [.ref l]) Q E s:=by
 refine Calls.call_function_entry kind_sorted plain_sorted entry_sorted (args_sorted1 _) ?_;unfold Builtin.«sorted»;refine wpAny_bind (m:=checkCount "sorted" 1 1 _) (wpAny_pure ?_);refine wpAny_bind (collect_list hl ?_ hz);refine wpAny_bind (wpAny_newList ?_ hz)
 have hsz:((s.heap.push (seqObj "list" #[] 0)).update s.heap.objs.size (Obj.mapSeq (·++vs.toArray))).objs.size=s.heap.objs.size+1:=by
  rw [Heap.size_update,size_push']
 have hoL:(((s.heap.push (seqObj "list" #[] 0)).update s.heap.objs.size (Obj.mapSeq (·++vs.toArray))).push (seqObj "list" vs.toArray 0)).get? (s.heap.objs.size+1)=some (seqObj "list" vs.toArray 0):=by
  rw [← hsz]; exact Heap.get?_push_size _ rfl
 have keep:∀ b o,s.heap.get? b=some o→(((s.heap.push (seqObj "list" #[] 0)).update s.heap.objs.size (Obj.mapSeq (·++vs.toArray))).push (seqObj "list" vs.toArray 0)).get? b=some o:=fun b o q=>by
  have hlt:b<s.heap.objs.size:=Heap.lt_size q;rw [Heap.get?_push_ne _ _ _ (by rw [hsz]; exact Nat.ne_of_lt (Nat.lt_succ_of_lt hlt)),Heap.get?_update_ne _ _ _ _ (Nat.ne_of_lt hlt),Heap.get?_push_ne _ _ _ (Nat.ne_of_lt hlt)];exact q
 show wpAny _ _ _ _ _ { s with heap:=((s.heap.push (seqObj "list" #[] 0)).update s.heap.objs.size (Obj.mapSeq (·++vs.toArray))).push (seqObj "list" vs.toArray 0) }
 rw [hsz];refine wpAny_bind (wpAny_holding (wpAny_call_entry slot_list_sort ⟨_,hoL,rfl⟩ entry_list_sort (vS L hoL hz (hs _ keep) hS fun out a1 a2=>⟨_,rfl,?_⟩) (args_list_sort _)));exact wpAny_pure ⟨_,rfl,h out a1 a2⟩
end
noncomputable def plt (p q:Int×Int):Bool:=decide (p.1<q.1)||(decide (p.1=q.1)&&decide (p.2<q.2))
noncomputable def ple (p q:Int×Int):Prop:=p.1<q.1∨(p.1=q.1∧p.2≤q.2)
theorem cE {p q:Int×Int}:plt p q=false↔ple q p:=by
 unfold plt ple;rw [Bool.or_eq_false_iff,Bool.and_eq_false_iff,decide_eq_false_iff_not,decide_eq_false_iff_not,decide_eq_false_iff_not];omega
theorem iT {p q:Int×Int}:plt p q=true↔p.1<q.1∨(p.1=q.1∧p.2<q.2):=by
 unfold plt;rw [Bool.or_eq_true,Bool.and_eq_true,decide_eq_true_eq,decide_eq_true_eq,decide_eq_true_eq]
theorem pP (g:Value→Int×Int):cS fun x y=>plt (g x.1) (g y.1):=by
 constructor
 ·intro x y h;have h:=iT.mp h;refine cE.mpr ?_;unfold ple;omega
 ·intro x y z h1 h2;have h1:=cE.mp h1;have h2:=cE.mp h2;refine cE.mpr ?_;unfold ple at h1 h2 ⊢;omega
section
variable {prog:Program} {w:World} {s:Shared}
theorem lJ {M:Model} {A:Around} {E:Value→Shared→Prop} {s:Shared} {κ:SortKind} {S:Keyed→Prop} {lt:Keyed→Keyed→Bool} (h:∀ x y,S x→S y→∀ (Q':Bool→Shared→Prop) (E':Value→Shared→Prop),Q' (lt x y) s→wpAny M A (keyLt' κ x.1 y.1) Q' E' s):iw M A E s κ S lt:=by
 intro x y st Q hx hy hk q;rw [lt'_eq];refine wpS_bind (wpS_get ?_);rw [hk];refine wpS_bind (wpS_lift (wpAny_attempt (h x y hx hy _ _ ⟨rfl,?_⟩)));exact wpS_pure q
noncomputable def bw (h:Heap) (v:Value) (p:Int×Int):Prop:=∃ b o t u n,v=.ref b∧h.get? b=some o∧o.cls=.type "tuple"∧o.data=.seq #[.int p.1 t,.int p.2 u] n
theorem oh {A:Around} {E:Value→Shared→Prop} {v u:Value} {p q:Int×Int} {Q:Bool→Shared→Prop} (hv:bw s.heap v p) (hu:bw s.heap u q) (h:Q (plt p q) s):wpAny (model prog w) A (keyLt' (tuples' true) v u) Q E s:=by
 obtain ⟨b,o,t1,t2,n,rfl,h1,_,d1⟩:=hv;obtain ⟨c,o2,t3,t4,m,rfl,h2,_,d2⟩:=hu;refine kat_lt h1 d1 h2 d2 ?_;refine kat_cons (wpAny_eqBool_int ?_);refine kat_go (fun e=>kat_yes ?_) (fun e=>kat_no ?_)
 ·have e1:p.1=q.1:=by simpa using e
  refine kat_cons (wpAny_eqBool_int ?_);refine kat_go (fun e=>kat_yes ?_) (fun e=>kat_no ?_)
  ·have e2:p.2=q.2:=by simpa using e
   refine kat_nil ?_;have:plt p q=false:=cE.mpr (by unfold ple; omega)
   rw [this] at h;exact h
  ·have e2:¬ p.2=q.2:=by simpa using e
   refine kat_one _ _ (wpAny_lt_int ?_)
   show Q _ _
   have:plt p q=decide (p.2<q.2):=by unfold plt; rw [e1]; simp
   rw [this] at h;exact h
 ·have e1:¬ p.1=q.1:=by simpa using e
  refine oneLt_int ?_;have:plt p q=decide (p.1<q.1):=by unfold plt; simp [e1]
  rw [this] at h;exact h
theorem oJ {a:Addr} {vs:List Value} {g:Value→Int×Int} (hv:∀ v∈vs,bw s.heap v (g v)∧v≠.ref a):qF prog w s a vs (tuples' true) (fun x=>x∈(pairsOf vs).toList) (fun x y=>plt (g x.1) (g y.1)):=by
  intro A E h keep
  have hv':∀ v∈vs,bw h v (g v):=by
    intro v hm;obtain ⟨⟨b,o,t,u,n,rfl,h1,h2,h3⟩,hne⟩:=hv v hm;exact ⟨b,o,t,u,n,rfl,keep b o (fun e=>hne (by rw [e])) h1,h2,h3⟩
  refine ⟨fun h2 Q q=>?_,?_⟩
  · have key:∀ (us:List Value),(∀ v∈us,bw h v (g v))→∃ fs,KatTups h us fs∧fs.length=us.length∧∀ f∈fs,∃ i t,f=.int i t:=by
      intro us
      induction us with
      | nil=>intro _; exact ⟨[],KatTups.nil,rfl,fun f hf=>nomatch hf⟩
      | cons v us ih =>
        intro hu;obtain ⟨fs,k1,k2,k3⟩:=ih fun v hv=>hu v (List.mem_cons_of_mem _ hv);obtain ⟨b,o,t,u,n,e,h1,h2,h3⟩:=hu v List.mem_cons_self;refine ⟨.int (g v).1 t::fs,?_,by rw [List.length_cons,List.length_cons,k2],fun f hf=>?_⟩
        · rw [e]
          rw [e] at h3;exact KatTups.cons h1 h2 h3 rfl k1
        · rcases List.mem_cons.mp hf with rfl | hf
          · exact ⟨_,_,rfl⟩
          · exact k3 f hf
    obtain ⟨fs,k1,k2,k3⟩:=key vs hv';refine kat_kind (T:=.type "int") k1 (by omega) (fun f hf=>?_) (by decide) ?_
    · obtain ⟨i,t,rfl⟩:=k3 f hf
      exact Looks.of_pure rfl
    · have:(Value.type "int" != Value.type "tuple")=true:=by decide
      rw [this];exact q
  · refine lJ fun x y hx hy Q' E' q=>?_
    rw [pairsOf_toList] at hx hy;exact oh (hv' _ (mem_zip_self hx).2) (hv' _ (mem_zip_self hy).2) q
theorem sr:cS fun x y=>decide (numOf x.1<numOf y.1):=by
 constructor
 ·intro x y h;have h:=of_decide_eq_true h;exact decide_eq_false (by omega)
 ·intro x y z h1 h2;have h1:=of_decide_eq_false h1;have h2:=of_decide_eq_false h2;exact decide_eq_false (by omega)
theorem qo {a:Addr} {vs:List Value} {ns:List Int} (hv:IntsAre vs ns):qF prog w s a vs oneType' (fun x=>x∈(pairsOf vs).toList) (fun x y=>decide (numOf x.1<numOf y.1)):=by
 intro A E h keep;refine ⟨fun h2 Q q=>?_,?_⟩
 ·match vs,hv,h2 with
  | v₁ :: v₂ :: cW, hv, _ => rw [keyKind_ints hv]; exact wpAny_pure q
  | [], _, h2 => simp at h2
  | [_], _, h2 => simp at h2
 ·refine lJ fun x y hx hy Q' E' q=>?_;rw [pairsOf_toList] at hx hy;obtain ⟨i,t,e1⟩:=hv.all _ (mem_zip_self hx).2;obtain ⟨j,u,e2⟩:=hv.all _ (mem_zip_self hy).2;rw [e1,e2] at q ⊢;rw [keyLt'_oneType];exact oneLt_int q
end
end Ts
namespace L2
open PySem PySem.Spec PyProof.Rows
noncomputable def PtV (H:Hp) (v:V) (p:Int×Int):Prop:=∃ b,v=.ref b∧H b=some (.tup [.int p.1,.int p.2])
noncomputable def yY (K:W.Frag) (vs:List V) (H:Hp) (Q:VK):Prop:=∃ a xs,vs=[.ref a]∧SqL K H a xs ∧
  ((∃ g:V→Int×Int,(∀ v∈xs,PtV H v (g v))∧∀ (l:Addr) (ys:List V),H l=none→ys.Perm xs→ys.Pairwise (fun x y=>Ts.ple (g x) (g y))→Q (.ref l) (upd H l (.lst ys))) ∨
   (∃ ns:List Int,xs=ns.map V.int∧∀ (l:Addr) (ms:List Int),H l=none→ms.Perm ns→ms.Pairwise (·≤·)→Q (.ref l) (upd H l (.lst (ms.map V.int)))))
theorem fJ {h:Heap} {vs:List Value} {out:Array Value} {b:Addr} {o:Obj} (q:h.get? b=some o):(sortedAll h vs out).get? b=some o:=by
 have hlt:b<h.objs.size:=Heap.lt_size q;have hsz:((h.push (seqObj "list" #[] 0)).update h.objs.size (Obj.mapSeq (·++vs.toArray))).objs.size=h.objs.size+1:=by rw [Heap.size_update,size_push']
 unfold sortedAll sortedHeap;rw [Heap.get?_update_ne _ _ _ _ (Nat.ne_of_lt (Nat.lt_succ_of_lt hlt))];refine Heap.get?_push_of_some _ (Heap.get?_push_of_some _ ?_);rw [Heap.get?_update_ne _ _ _ _ (Nat.ne_of_lt (Nat.lt_succ_of_lt hlt))];refine Heap.get?_push_of_some _ ?_;rw [Heap.get?_update_ne _ _ _ _ (Nat.ne_of_lt hlt)];exact Heap.get?_push_of_some _ q
theorem gm {h:Heap} {vs:List Value} {out:Array Value}:∃ n,(sortedAll h vs out).get? (h.objs.size+1)=some { cls:=.type "list",data:=.seq out n }:=by
 have hsz:((h.push (seqObj "list" #[] 0)).update h.objs.size (Obj.mapSeq (·++vs.toArray))).objs.size=h.objs.size+1:=by rw [Heap.size_update,size_push']
 unfold sortedAll sortedHeap;have h1:(((h.push (seqObj "list" #[] 0)).update h.objs.size (Obj.mapSeq (·++vs.toArray))).push (seqObj "list" vs.toArray 0)).get? (h.objs.size+1)=some (seqObj "list" vs.toArray 0):=by rw [← hsz]; exact Heap.get?_push_size _ rfl
 have h2:=get?_update_seq h1 (fun _=>#[]);exact ⟨_,get?_update_seq (Heap.get?_push_of_some _ (Heap.get?_push_of_some _ h2)) (fun _=>out)⟩
theorem Vals.intsAre:∀ {ns:List Int} {us:List Value},Vals (ns.map V.int) us→IntsAre us ns
 | [],_,.nil=>.nil
 | n::ns,_,.cons ⟨t,e⟩ r=>by subst e; exact .cons n t (Vals.intsAre r)
theorem iW:∀ {ns:List Int} {us:List Value},IntsAre us ns→Vals (ns.map V.int) us
 | _,_,.nil=>.nil
 | _,_,.cons n t h=>.cons ⟨t,rfl⟩ (iW h)
noncomputable def toV:Value→V
 | .ref b=>.ref b
 | _=>.non
theorem Vals.refs:∀ {xs:List V} {us:List Value},Vals xs us→(∀ v∈xs,∃ b,v=.ref b)→us.map toV=xs∧∀ u∈us,∃ b,u=.ref b
 | _,_,.nil,_=>⟨rfl,fun u hu=>nomatch hu⟩
 | v::xs,u::us,.cons r rs,h=>by
  obtain ⟨b,rfl⟩:=h v List.mem_cons_self;have r:u=Value.ref b:=r;subst r;obtain ⟨h1,h2⟩:=Vals.refs rs fun v hv=>h v (List.mem_cons_of_mem _ hv);refine ⟨by rw [List.map_cons,h1]; rfl,fun u hu=>?_⟩;rcases List.mem_cons.mp hu with rfl | hu
  ·exact ⟨b,rfl⟩
  ·exact h2 u hu
theorem iM:∀ {us:List Value},(∀ u∈us,∃ b,u=.ref b)→Vals (us.map toV) us
 | [],_=>.nil
 | u::us,h=>by
  obtain ⟨b,rfl⟩:=h u List.mem_cons_self;exact .cons rfl (iM fun u hu=>h u (List.mem_cons_of_mem _ hu))
theorem pD {X:Cx} (K:W.Frag) (hK:X.K=K):bI X (.builtin "sorted") (yY K):=by
 subst hK;intro pins s σ H xs us Q I hv h;obtain ⟨a,ys,rfl,hl,h⟩:=h
 cases hv with
 | cons r hv =>
 cases hv
 cases r;obtain ⟨its,rv,pl,hz⟩:=I.list hl;have hlen:=rv.length;have hz':its.length≤sizeLine:=by omega
 rcases h with ⟨g,hg,h⟩ | ⟨ns,rfl,h⟩
 ·obtain ⟨em,hr⟩:=rv.refs fun v hv=>let ⟨b,e,_⟩:=hg v hv; ⟨b,e⟩
  have hp:∀ u∈its,∃ b,u=.ref b∧b<s.heap.objs.size∧Ts.bw s.heap u (g (toV u)):=by
   intro u hu;obtain ⟨b,rfl⟩:=hr u hu;have hm:V.ref b∈ys:=by rw [← em]; exact List.mem_map.mpr ⟨_,hu,rfl⟩
   obtain ⟨b',e,hb⟩:=hg _ hm
   cases e;obtain ⟨_,its2,r2,o,ho,hc,n,hd⟩:=I.hok _ _ hb;refine ⟨b,rfl,Heap.lt_size ho,?_⟩
   cases r2 with
   | cons q1 r2 =>
   obtain ⟨t1,rfl⟩:=q1
   cases r2 with
   | cons q2 r2 =>
   obtain ⟨t2,rfl⟩:=q2
   cases r2;exact ⟨b,o,t1,t2,n,rfl,ho,hc,hd⟩
  refine Ts.j3 (κ:=tuples' true) (S:=fun x=>x∈(pairsOf its).toList) (lt:=fun x y=>Ts.plt (g (toV x.1)) (g (toV y.1))) (Ts.pP fun u=>g (toV u)) pl.isList hz' (fun h' keep=>Ts.oJ (g:=fun u=>g (toV u)) fun u hu=>?_) (fun x hx=>hx) fun out hperm hs=>?_
  ·obtain ⟨b,rfl,hlt,b',o,t1,t2,n,e,h1,h2,h3⟩:=hp u hu
   cases e;exact ⟨⟨b,o,t1,t2,n,rfl,keep _ _ h1,h2,h3⟩,fun e=>by injection e with e; rw [e] at hlt; exact absurd hlt (Nat.not_lt.mpr (Nat.le_succ _))⟩
  ·have hperm':out.toList.Perm (its.zip its):=by rw [← pairsOf_toList]; exact Array.perm_iff_toList_perm.mp hperm
   have hmem:∀ p∈out.toList,p.1=p.2∧p.1∈its:=fun p hp'=>mem_zip_self (hperm'.mem_iff.mp hp');have e2:(out.map (·.2)).toList=out.toList.map (·.1):=by rw [Array.toList_map]; exact List.map_congr_left fun p hp'=>(hmem p hp').1.symm
   have pm:(out.toList.map (·.1)).Perm its:=by
    have:=hperm'.map Prod.fst
    rw [List.map_fst_zip (Nat.le_refl _)] at this;exact this
   have hn:H (s.heap.objs.size+1)=none:=I.hok.fresh (by omega);have q:=h (s.heap.objs.size+1) ((out.toList.map (·.1)).map toV) hn (by rw [← em]; exact pm.map toV) (by
    rw [List.map_map,List.pairwise_map];exact hs.imp fun {x y} hxy=>Ts.cE.mp hxy)
   obtain ⟨n,hnew⟩:=gm (h:=s.heap) (vs:=its) (out:=out.map (·.2));refine ⟨.ref _,_,I.laid (t':=s.toks) (o:=.lst ((out.toList.map (·.1)).map toV)) (fun b u q=>fJ q) (by omega) ?_,rfl,q⟩;refine ⟨by rw [List.length_map,pm.length_eq]; exact hz',out.toList.map (·.1),n,iM fun u hu=>hr u (pm.mem_iff.mp hu),?_⟩;rw [hnew,← e2,Array.toArray_toList]
 ·have hI:=Vals.intsAre rv;refine Ts.j3 (κ:=oneType') (S:=fun x=>x∈(pairsOf its).toList) (lt:=fun x y=>decide (numOf x.1<numOf y.1)) Ts.sr pl.isList hz' (fun h' keep=>Ts.qo hI) (fun x hx=>hx) fun out hperm hs=>?_;have hperm':out.toList.Perm (its.zip its):=by rw [← pairsOf_toList]; exact Array.perm_iff_toList_perm.mp hperm
  have hmem:∀ p∈out.toList,p.1=p.2∧p.1∈its:=fun p hp'=>mem_zip_self (hperm'.mem_iff.mp hp');have e2:(out.map (·.2)).toList=out.toList.map (·.1):=by rw [Array.toList_map]; exact List.map_congr_left fun p hp'=>(hmem p hp').1.symm
  have pm:(out.toList.map (·.1)).Perm its:=by
   have:=hperm'.map Prod.fst
   rw [List.map_fst_zip (Nat.le_refl _)] at this;exact this
  have hn:H (s.heap.objs.size+1)=none:=I.hok.fresh (by omega);have hI2:=intsAre_map (out.toList.map (·.1)) fun v hv=>hI.all v (pm.mem_iff.mp hv);have q:=h (s.heap.objs.size+1) ((out.toList.map (·.1)).map numOf) hn (by have:=pm.map numOf; rw [hI.nums] at this; exact this) (by
   rw [List.map_map,List.pairwise_map];exact hs.imp fun {x y} hxy=>by have:¬ numOf y.1<numOf x.1:=of_decide_eq_false hxy; show numOf x.1≤numOf y.1; omega)
  obtain ⟨n,hnew⟩:=gm (h:=s.heap) (vs:=its) (out:=out.map (·.2));refine ⟨.ref _,_,I.laid (t':=s.toks) (o:=.lst (((out.toList.map (·.1)).map numOf).map V.int)) (fun b u q=>fJ q) (by omega) ?_,rfl,q⟩;refine ⟨by rw [List.length_map,List.length_map,pm.length_eq]; exact hz',out.toList.map (·.1),n,iW hI2,?_⟩;rw [hnew,← e2,Array.toArray_toList]
theorem vH {K:W.Frag} {a:Addr} {ns:List Int} {H:Hp} {Q:VK} (e:H a=some (.lst (ns.map V.int))) (h:∀ (l:Addr) (ms:List Int),H l=none→ms.Perm ns→ms.Pairwise (·≤·)→Q (.ref l) (upd H l (.lst (ms.map V.int)))):yY K [.ref a] H Q:=⟨a,_,rfl,SqL.of e,.inr ⟨ns,rfl,h⟩⟩
end L2
namespace Sm
noncomputable abbrev Pnt:=Int×Int
structure Gr (nb:Pnt→List Pnt):Prop where
 nd:∀ a,(nb a).Nodup
 le2:∀ a,(nb a).length≤2
 sym:∀ {a b},b∈nb a→a∈nb b
 irr:∀ a,a∉nb a
noncomputable def oth (nb:Pnt→List Pnt) (a b:Pnt):List Pnt:=(nb b).filter fun c=>!decide (c=a)
noncomputable def Go (nb:Pnt→List Pnt):Pnt→Pnt→List Pnt→Prop
 | _,_,[]=>True
 | a,b,c::l=>oth nb a b=[c]∧Go nb b c l
noncomputable def fin:Pnt→Pnt→List Pnt→Pnt×Pnt
 | a,b,[]=>(a,b)
 | _,b,c::l=>fin b c l
section
variable {nb:Pnt→List Pnt}
theorem aS {a b c:Pnt}:c∈oth nb a b↔c∈nb b∧c≠a:=by
 unfold oth;rw [List.mem_filter,Bool.not_eq_true',decide_eq_false_iff_not]
theorem jE:∀ (a b:Pnt) (l:List Pnt) (c:Pnt),fin a b (l++[c])=((fin a b l).2,c)
 | a,b,[],c=>rfl
 | a,b,d::l,c=>jE b d l c
theorem eV:∀ {a b:Pnt} {l:List Pnt} {c:Pnt},Go nb a b (l++[c])↔Go nb a b l∧oth nb (fin a b l).1 (fin a b l).2=[c]
 | a,b,[],c=>⟨fun h=>⟨trivial,h.1⟩,fun h=>⟨h.2,trivial⟩⟩
 | a,b,d::l,c=>⟨fun h=>⟨⟨h.1,(eV.mp h.2).1⟩,(eV.mp h.2).2⟩,fun h=>⟨h.1.1,eV.mpr ⟨h.1.2,h.2⟩⟩⟩
theorem cv:∀ (a b:Pnt) (l:List Pnt),(fin a b l).2∈b::l∧(fin a b l).1∈a::b::l
 | a,b,[]=>⟨List.mem_cons_self,List.mem_cons_self⟩
 | a,b,c::l=>⟨List.mem_cons_of_mem _ (cv b c l).1,List.mem_cons_of_mem _ (cv b c l).2⟩
theorem gO:∀ (a b:Pnt) (l:List Pnt),(a::b::l).getLast?=some (fin a b l).2
 | a,b,[]=>rfl
 | a,b,c::l=>by rw [List.getLast?_cons_cons]; exact gO b c l
theorem gS {a b c:Pnt} {l:List Pnt} (g:Go nb a b (c::l)):c∈nb b∧c≠a:=by
 have:c∈oth nb a b:=by rw [g.1]; exact List.mem_singleton.mpr rfl
 exact aS.mp this
theorem fP (G:Gr nb):∀ {a b:Pnt} {l:List Pnt},b∈nb a→Go nb a b l→(fin a b l).2∈nb (fin a b l).1
 | a,b,[],h,_=>h
 | a,b,c::l,h,g=>fP G (l:=l) (gS g).1 g.2
theorem two_of (G:Gr nb) {a x y z:Pnt} (hx:x∈nb a) (hy:y∈nb a) (hz:z∈nb a) (hxy:x≠y):z=x∨z=y:=by
 have h2:=G.le2 a;have hn:=G.nd a
 match hq:nb a,hx,hy,hz,h2,hn with
 | [],hx,_,_,_,_=>cases hx
 | [p],hx,hy,_,_,_=>exact absurd ((List.mem_singleton.mp hx).trans (List.mem_singleton.mp hy).symm) hxy
 | [p,q],hx,hy,hz,_,_ =>
  simp only [List.mem_cons,List.not_mem_nil,or_false] at hx hy hz;rcases hx with rfl | rfl<;>rcases hy with rfl | rfl<;>rcases hz with rfl | rfl<;>first | exact .inl rfl | exact .inr rfl | exact absurd rfl hxy
 | p::q::r::l,_,_,_,h2,_=>simp at h2
theorem uP (G:Gr nb) {a b:Pnt} (h:a∈nb b):oth nb a b=[]∨∃ c,oth nb a b=[c]:=by
 have hl:(oth nb a b).length≤1:=by
  match hq:oth nb a b with
  | [] => exact Nat.zero_le _
  | [c] => exact Nat.le_refl _
  | c :: d :: l =>
   have hn:(oth nb a b).Nodup:=List.Pairwise.sublist (List.filter_sublist) (G.nd b);have hc:c∈oth nb a b:=by rw [hq]; exact List.mem_cons_self
   have hd:d∈oth nb a b:=by rw [hq]; exact List.mem_cons_of_mem _ List.mem_cons_self
   have ne:c≠d:=by
    rw [hq] at hn;intro e;exact (List.nodup_cons.mp hn).1 (by rw [e]; exact List.mem_cons_self)
   rcases two_of G (aS.mp hc).1 (aS.mp hd).1 h ne with e | e
   ·exact absurd e.symm (aS.mp hc).2
   ·exact absurd e.symm (aS.mp hd).2
 match hq:oth nb a b,hl with
 | [],_=>exact .inl rfl
 | [c],_=>exact .inr ⟨c,rfl⟩
 | c::d::l,hl=>simp at hl
theorem Ag (G:Gr nb) {a b c:Pnt} (h:a∈nb b) (hc:c∈nb b) (hne:c≠a):oth nb a b=[c]:=by
 rcases uP G h with e | ⟨d,e⟩
 ·have:c∈oth nb a b:=aS.mpr ⟨hc,hne⟩
  rw [e] at this; cases this
 ·have:c∈oth nb a b:=aS.mpr ⟨hc,hne⟩
  rw [e] at this;rw [e,List.mem_singleton.mp this]
theorem uO (G:Gr nb) {a b c:Pnt} (h:a∈nb b) (e:oth nb a b=[c]):oth nb c b=[a]:=by
 have hc:c∈oth nb a b:=by rw [e]; exact List.mem_singleton.mpr rfl
 exact Ag G (aS.mp hc).1 h fun z=>(aS.mp hc).2 z.symm
theorem kc (G:Gr nb) {a b:Pnt} (hb:b∈nb a):∀ (l:List Pnt),Go nb a b l→a∉l→(a::b::l).Nodup:=by
 intro l
 induction hl:l.length generalizing l with
 | zero =>
  intro _ _;have:l=[]:=List.eq_nil_of_length_eq_zero hl
  subst this;exact List.nodup_cons.mpr ⟨fun h=>G.irr a (by rw [List.mem_singleton.mp h] at hb ⊢; exact hb),List.nodup_cons.mpr ⟨(fun h=>nomatch h),List.nodup_nil⟩⟩
 | succ n ih =>
  intro g ha;obtain ⟨m,z,rfl⟩:∃ m z,l=m++[z]:=⟨l.dropLast,l.getLast (fun e=>by rw [e] at hl; cases hl),(List.dropLast_concat_getLast _).symm⟩
  obtain ⟨g1,g2⟩:=eV.mp g;have hm:m.length=n:=by rw [List.length_append] at hl; simpa using hl
  have ham:a∉m:=fun h=>ha (List.mem_append_left _ h);have nd:=ih m hm g1 ham;have hz:z∈oth nb (fin a b m).1 (fin a b m).2:=by rw [g2]; exact List.mem_singleton.mpr rfl
  have hz1:=(aS.mp hz).1;have hz2:=(aS.mp hz).2;have hza:z≠a:=fun e=>ha (by rw [e]; exact List.mem_append_right _ (List.mem_singleton.mpr rfl))
  -- z is none of the points before
  have key:∀ (a b:Pnt) (m:List Pnt),b∈nb a→Go nb a b m→(a::b::m).Nodup→z∈nb (fin a b m).2→z≠(fin a b m).1→z≠a→z∉b::m:=by
   intro a b m
   induction m generalizing a b with
   | nil =>
    intro hb _ _ hz1 hz2 hza hm;rw [List.mem_singleton.mp hm] at hz1;exact G.irr b hz1
   | cons c m ih2 =>
    intro hb g nd hz1 hz2 hza hm;have hc:c∈oth nb a b:=by rw [g.1]; exact List.mem_singleton.mpr rfl
    have nd2:=(List.nodup_cons.mp nd).2;rcases List.mem_cons.mp hm with e | hm
    ·-- z is b: its neighbours are a and c
     have hy:=G.sym hz1;rw [e] at hy;have hne:a≠c:=fun x=>(aS.mp hc).2 x.symm;rcases two_of G (G.sym hb) (aS.mp hc).1 hy hne with q | q
     ·have:=(cv b c m).1
      rw [show (fin a b (c::m))=fin b c m from rfl] at q;rw [q] at this;exact (List.nodup_cons.mp nd).1 (List.mem_cons_of_mem _ this)
     ·rw [show (fin a b (c::m))=fin b c m from rfl] at q hz2
      match m,q,nd2,hz2 with
      | [],q,_,hz2=>exact hz2 e
      | d::m,q,nd2,_ =>
       have:=(cv c d m).1
       rw [show fin b c (d::m)=fin c d m from rfl] at q;rw [q] at this;exact (List.nodup_cons.mp (List.nodup_cons.mp nd2).2).1 this
    ·by_cases hzb:z=b
     ·rw [hzb] at hm;exact (List.nodup_cons.mp nd2).1 hm
     ·exact ih2 b c (aS.mp hc).1 g.2 nd2 hz1 hz2 hzb hm
  have hnot:=key a b m hb g1 nd hz1 hz2 hza
  show ((a::b::m)++[z]).Nodup
  rw [List.nodup_append];refine ⟨nd,List.nodup_cons.mpr ⟨(fun h=>nomatch h),List.nodup_nil⟩,fun x hx y hy e=>?_⟩;rw [List.mem_singleton.mp hy] at e;rw [e] at hx;rcases List.mem_cons.mp hx with q | q
  ·exact hza q
  ·exact hnot q
theorem iR:∀ {a b:Pnt} {l l':List Pnt},Go nb a b l→Go nb a b l'→oth nb (fin a b l).1 (fin a b l).2=[]→oth nb (fin a b l').1 (fin a b l').2=[]→l=l'
 | _,_,[],[],_,_,_,_=>rfl
 | a,b,[],c::l',_,g,e,_=>by have h:=g.1; have e:oth nb a b=[]:=e; rw [e] at h; cases h
 | a,b,c::l,[],g,_,_,e=>by have h:=g.1; have e:oth nb a b=[]:=e; rw [e] at h; cases h
 | _,_,c::l,c'::l',g,g',e,e'=>by
  have h:=g.1.symm.trans g'.1
  cases h;rw [iR g.2 g'.2 e e']
theorem gR {s:Pnt}:∀ {a b:Pnt} {l l':List Pnt},Go nb a b l→Go nb a b l'→s∉l→s∉l'→oth nb (fin a b l).1 (fin a b l).2=[s]→oth nb (fin a b l').1 (fin a b l').2=[s]→l=l'
 | _,_,[],[],_,_,_,_,_,_=>rfl
 | a,b,[],c::l',_,g,_,n,e,_=>by
  have h:=g.1;have e:oth nb a b=[s]:=e;rw [e] at h; cases h;exact absurd List.mem_cons_self n
 | a,b,c::l,[],g,_,n,_,_,e=>by
  have h:=g.1;have e:oth nb a b=[s]:=e;rw [e] at h; cases h;exact absurd List.mem_cons_self n
 | _,_,c::l,c'::l',g,g',n,n',e,e'=>by
  have h:=g.1.symm.trans g'.1
  cases h;rw [gR g.2 g'.2 (fun h=>n (List.mem_cons_of_mem _ h)) (fun h=>n' (List.mem_cons_of_mem _ h)) e e']
structure kf (nb:Pnt→List Pnt) (a b:Pnt) (l:List Pnt):Prop where
 adj:b∈nb a
 go:Go nb a b l
 one:(nb a).length=1
 stop:oth nb (fin a b l).1 (fin a b l).2=[]
 nd:(a::b::l).Nodup
structure Rnd (nb:Pnt→List Pnt) (a b:Pnt) (l:List Pnt):Prop where
 adj:b∈nb a
 go:Go nb a b l
 stop:oth nb (fin a b l).1 (fin a b l).2=[a]
 nd:(a::b::l).Nodup
noncomputable def tN (nb:Pnt→List Pnt) (L:List Pnt):Prop:=∀ x∈L,∀ y∈nb x,y∈L
theorem j1 (G:Gr nb):∀ {a b:Pnt} {l:List Pnt},b∈nb a→Go nb a b l→∀ x∈b::l,x≠(fin a b l).2∨oth nb (fin a b l).1 (fin a b l).2=[]→∀ y∈nb x,y∈a::b::l
 | a,b,[],hb,_,x,hx,h,y,hy=>by
  have e:=List.mem_singleton.mp hx;rcases h with h | h
  ·exact absurd e h
  ·rw [e] at hy;by_cases hya:y=a
   ·rw [hya]; exact List.mem_cons_self
   ·have:y∈oth nb a b:=aS.mpr ⟨hy,hya⟩
    rw [show oth nb a b=[] from h] at this; cases this
 | a,b,c::l,hb,g,x,hx,h,y,hy=>by
  have hc:c∈oth nb a b:=by rw [g.1]; exact List.mem_singleton.mpr rfl
  rcases List.mem_cons.mp hx with e | hx
  ·rw [e] at hy;rcases two_of G (G.sym hb) (aS.mp hc).1 hy (fun x=>(aS.mp hc).2 x.symm) with q | q
   ·rw [q]; exact List.mem_cons_self
   ·rw [q]; exact List.mem_cons_of_mem _ (List.mem_cons_of_mem _ List.mem_cons_self)
  ·exact List.mem_cons_of_mem _ (j1 G (aS.mp hc).1 g.2 x hx h y hy)
theorem kf.shut (G:Gr nb) {a b:Pnt} {l:List Pnt} (h:kf nb a b l):tN nb (a::b::l):=by
 intro x hx y hy;rcases List.mem_cons.mp hx with e | hx
 ·rw [e] at hy;have h1:=h.one
  match hq:nb a,h1 with
  | [c], _ =>
   have e1:=h.adj;rw [hq] at hy e1;rw [List.mem_singleton.mp hy,← List.mem_singleton.mp e1];exact List.mem_cons_of_mem _ List.mem_cons_self
 ·exact j1 G h.adj h.go x hx (.inr h.stop) y hy
theorem Rnd.last (G:Gr nb) {a b:Pnt} {l:List Pnt} (h:Rnd nb a b l):(fin a b l).2∈nb a∧(fin a b l).2≠b:=by
 have ha:a∈oth nb (fin a b l).1 (fin a b l).2:=by rw [h.stop]; exact List.mem_singleton.mpr rfl
 refine ⟨G.sym (aS.mp ha).1,fun e=>?_⟩
 match l,h,ha,e with
 | [],h,ha,_=>exact (aS.mp ha).2 rfl
 | c::l,h,_,e =>
  have:=(cv b c l).1
  rw [show fin a b (c::l)=fin b c l from rfl] at e;rw [e] at this;exact (List.nodup_cons.mp (List.nodup_cons.mp h.nd).2).1 this
theorem Rnd.shut (G:Gr nb) {a b:Pnt} {l:List Pnt} (h:Rnd nb a b l):tN nb (a::b::l):=by
 intro x hx y hy;obtain ⟨h1,h2⟩:=h.last G;have hl:(fin a b l).2∈a::b::l:=List.mem_cons_of_mem _ (cv a b l).1;rcases List.mem_cons.mp hx with e | hx
 ·rw [e] at hy;rcases two_of G h.adj h1 hy (Ne.symm h2) with q | q
  ·rw [q]; exact List.mem_cons_of_mem _ List.mem_cons_self
  ·rw [q]; exact hl
 ·by_cases hz:x=(fin a b l).2
  ·rw [hz] at hy;by_cases hyq:y=(fin a b l).1
   ·rw [hyq]; exact (cv a b l).2
   ·have:y∈oth nb (fin a b l).1 (fin a b l).2:=aS.mpr ⟨hy,hyq⟩
    rw [h.stop] at this;rw [List.mem_singleton.mp this]; exact List.mem_cons_self
  ·exact j1 G h.adj h.go x hx (.inl hz) y hy
theorem iS (G:Gr nb) {L:List Pnt} (hS:tN nb L):∀ {a b:Pnt} {l:List Pnt},b∈nb a→Go nb a b l→∀ q∈a::b::l,q∈L→∀ x∈a::b::l,x∈L
 | a,b,[],hb,_,q,hq,hqL,x,hx=>by
  have hab:a∈L∧b∈L:=by
   rcases List.mem_cons.mp hq with e | hq
   ·rw [e] at hqL; exact ⟨hqL,hS a hqL b hb⟩
   ·rw [List.mem_singleton.mp hq] at hqL; exact ⟨hS b hqL a (G.sym hb),hqL⟩
  rcases List.mem_cons.mp hx with e | hx
  ·rw [e]; exact hab.1
  ·rw [List.mem_singleton.mp hx]; exact hab.2
 | a,b,c::l,hb,g,q,hq,hqL,x,hx=>by
  have hc:c∈oth nb a b:=by rw [g.1]; exact List.mem_singleton.mpr rfl
  have hc:=(aS.mp hc).1;rcases List.mem_cons.mp hq with e | hq
  ·rw [e] at hqL;have hbL:=hS a hqL b hb;rcases List.mem_cons.mp hx with e | hx
   ·rw [e]; exact hqL
   ·exact iS G hS hc g.2 b List.mem_cons_self hbL x hx
  ·rcases List.mem_cons.mp hx with e | hx
   ·have hbL:=iS G hS hc g.2 q hq hqL b List.mem_cons_self;rw [e]; exact hS b hbL a (G.sym hb)
   ·exact iS G hS hc g.2 q hq hqL x hx
theorem Rnd.two (G:Gr nb) {a b:Pnt} {l:List Pnt} (h:Rnd nb a b l):∀ x∈a::b::l,(nb x).length=2:=by
 have two:∀ {x y z:Pnt},y∈nb x→z∈nb x→y≠z→(nb x).length=2:=by
  intro x y z hy hz hne;have h2:=G.le2 x
  match hq:nb x,hy,hz,h2 with
  | [], hy, _, _ => cases hy
  | [p], hy, hz, _ => exact absurd ((List.mem_singleton.mp hy).trans (List.mem_singleton.mp hz).symm) hne
  | [p, q], _, _, _ => rfl
  | p :: q :: r :: m, _, _, h2 => simp at h2
 obtain ⟨h1,h2⟩:=h.last G
 have mid:∀ {a b:Pnt} {l:List Pnt},b∈nb a→Go nb a b l→∀ x∈b::l,x≠(fin a b l).2→(nb x).length=2:=by
  intro a b l
  induction l generalizing a b with
  | nil => intro _ _ x hx hne; exact absurd (List.mem_singleton.mp hx) hne
  | cons c l ih =>
   intro hb g x hx hne;have hc:c∈oth nb a b:=by rw [g.1]; exact List.mem_singleton.mpr rfl
   rcases List.mem_cons.mp hx with e | hx
   ·rw [e]; exact two (G.sym hb) (aS.mp hc).1 fun z=>(aS.mp hc).2 z.symm
   ·exact ih (aS.mp hc).1 g.2 x hx hne
 intro x hx;rcases List.mem_cons.mp hx with e | hx
 ·rw [e]; exact two h.adj h1 (Ne.symm h2)
 ·by_cases hz:x=(fin a b l).2
  ·rw [hz];have ha:a∈oth nb (fin a b l).1 (fin a b l).2:=by rw [h.stop]; exact List.mem_singleton.mpr rfl
   exact two (G.sym (fP G h.adj h.go)) (aS.mp ha).1 fun z=>(aS.mp ha).2 z.symm
  ·exact mid h.adj h.go x hx hz
end
end Sm
namespace Sm
section
variable {nb:Pnt→List Pnt}
theorem two_len (G:Gr nb) {x y z:Pnt} (hy:y∈nb x) (hz:z∈nb x) (hne:y≠z):(nb x).length=2:=by
 have h2:=G.le2 x
 match hq:nb x,hy,hz,h2 with
 | [],hy,_,_=>cases hy
 | [p],hy,hz,_=>exact absurd ((List.mem_singleton.mp hy).trans (List.mem_singleton.mp hz).symm) hne
 | [p,q],_,_,_=>rfl
 | p::q::r::m,_,_,h2=>simp at h2
theorem zJ (G:Gr nb):∀ {a b:Pnt} {l:List Pnt},b∈nb a→Go nb a b l→∀ x∈b::l,x≠(fin a b l).2→(nb x).length=2:=by
 intro a b l
 induction l generalizing a b with
 | nil=>intro _ _ x hx hne; exact absurd (List.mem_singleton.mp hx) hne
 | cons c l ih =>
  intro hb g x hx hne;have hc:=gS g;rcases List.mem_cons.mp hx with e | hx
  ·rw [e]; exact two_len G (G.sym hb) hc.1 fun z=>hc.2 z.symm
  ·exact ih hc.1 g.2 x hx hne
theorem kf.lastOne (G:Gr nb) {a b:Pnt} {l:List Pnt} (h:kf nb a b l):nb (fin a b l).2=[(fin a b l).1]:=by
 have h1:=G.sym (fP G h.adj h.go);have hs:=h.stop;have all:∀ y∈nb (fin a b l).2,y=(fin a b l).1:=fun y hy=>by
  by_cases e:y=(fin a b l).1
  ·exact e
  ·have:y∈oth nb (fin a b l).1 (fin a b l).2:=aS.mpr ⟨hy,e⟩
   rw [hs] at this; cases this
 have hn:=G.nd (fin a b l).2
 match hq:nb (fin a b l).2,h1,all,hn with
 | [],h1,_,_=>cases h1
 | [p],_,all,_=>rw [all p List.mem_cons_self]
 | p::q::r,_,all,hn=>exact absurd ((all p List.mem_cons_self).trans (all q (List.mem_cons_of_mem _ List.mem_cons_self)).symm) fun e=>(List.nodup_cons.mp hn).1 (by rw [e]; exact List.mem_cons_self)
theorem vL (G:Gr nb):∀ {a b:Pnt} {l:List Pnt},b∈nb a→Go nb a b l→∃ m,(a::b::l).reverse=(fin a b l).2::(fin a b l).1::m∧Go nb (fin a b l).2 (fin a b l).1 m∧fin (fin a b l).2 (fin a b l).1 m=(b,a)
 | a,b,[],hb,_=>⟨[],rfl,trivial,rfl⟩
 | a,b,c::l,hb,g=>by
  have hc:=gS g;obtain ⟨m,h1,h2,h3⟩:=vL G hc.1 g.2;refine ⟨m++[a],?_,?_,?_⟩
  ·rw [List.reverse_cons,h1]; rfl
  ·refine eV.mpr ⟨h2,?_⟩;rw [show fin a b (c::l)=fin b c l from rfl,h3];exact uO G (G.sym hb) g.1
  ·rw [jE,show fin a b (c::l)=fin b c l from rfl,h3]
theorem kf.rev (G:Gr nb) {a b:Pnt} {l:List Pnt} (h:kf nb a b l):∃ m,(a::b::l).reverse=(fin a b l).2::(fin a b l).1::m∧kf nb (fin a b l).2 (fin a b l).1 m∧(fin (fin a b l).2 (fin a b l).1 m).2=a:=by
 obtain ⟨m,h1,h2,h3⟩:=vL G h.adj h.go;have h4:=h.lastOne G;refine ⟨m,h1,⟨by rw [h4]; exact List.mem_singleton.mpr rfl,h2,by rw [h4]; rfl,?_,?_⟩,by rw [h3]⟩
 ·rw [h3];have h5:=h.one;have h6:=h.adj
  match hq:nb a,h5,h6 with
  | [c], _, h6 =>
   unfold oth;rw [hq,List.mem_singleton.mp h6];simp
 ·rw [← h1]; exact (List.reverse_perm _).nodup_iff.mpr h.nd
structure cy (nb:Pnt→List Pnt) (f:Bool) (L:List Pnt):Prop where
 op:f=false→∃ a b l,L=a::b::l∧kf nb a b l∧Ts.plt a (fin a b l).2=true
 rd:f=true→∃ a b l,L=a::b::l∧Rnd nb a b l∧(∀ x∈L,Ts.ple a x)∧b=(a.1+1,a.2)
theorem cy.path {f:Bool} {L:List Pnt} (h:cy nb f L):∃ a b l,L=a::b::l∧b∈nb a∧Go nb a b l∧L.Nodup:=by
 cases f with
 | false=>obtain ⟨a,b,l,e,o,_⟩:=h.op rfl; exact ⟨a,b,l,e,o.adj,o.go,by rw [e]; exact o.nd⟩
 | true=>obtain ⟨a,b,l,e,o,_⟩:=h.rd rfl; exact ⟨a,b,l,e,o.adj,o.go,by rw [e]; exact o.nd⟩
theorem cy.shut (G:Gr nb) {f:Bool} {L:List Pnt} (h:cy nb f L):tN nb L:=by
 cases f with
 | false=>obtain ⟨a,b,l,rfl,o,_⟩:=h.op rfl; exact o.shut G
 | true=>obtain ⟨a,b,l,rfl,o,_⟩:=h.rd rfl; exact o.shut G
theorem cy.sub (G:Gr nb) {f f':Bool} {L L':List Pnt} (h:cy nb f L) (h':cy nb f' L') {q:Pnt} (hq:q∈L) (hq':q∈L'):∀ x∈L',x∈L:=by
 obtain ⟨a,b,l,rfl,hb,g,_⟩:=h'.path;exact iS G (h.shut G) hb g q hq' hq
theorem u5 {p q:Pnt} (h1:Ts.ple p q) (h2:Ts.ple q p):p=q:=by
 unfold Ts.ple at h1 h2;exact Prod.ext (by omega) (by omega)
theorem cy.uniq (G:Gr nb) {f f':Bool} {L L':List Pnt} (h:cy nb f L) (h':cy nb f' L') {q:Pnt} (hq:q∈L) (hq':q∈L'):f=f'∧L=L':=by
 have s1:=h.sub G h' hq hq';have s2:=h'.sub G h hq' hq
 cases f with
 | false =>
  obtain ⟨a,b,l,rfl,o,hlt⟩:=h.op rfl
  have ends:∀ x∈a::b::l,(nb x).length=1→x=a∨x=(fin a b l).2:=by
   intro x hx h1;rcases List.mem_cons.mp hx with e | hx
   ·exact .inl e
   ·by_cases e:x=(fin a b l).2
    ·exact .inr e
    ·have:=zJ G o.adj o.go x hx e
     omega
  cases f' with
  | false =>
   obtain ⟨a',b',l',rfl,o',hlt'⟩:=h'.op rfl;refine ⟨rfl,?_⟩;have hl':(fin a' b' l').2∈a'::b'::l':=List.mem_cons_of_mem _ (cv a' b' l').1
   have ea:a'=a:=by
    rcases ends a' (s1 a' List.mem_cons_self) o'.one with e | e
    ·exact e
    ·rcases ends (fin a' b' l').2 (s1 _ hl') (by rw [o'.lastOne G]; rfl) with e2 | e2
     ·rw [e2,e] at hlt';have h1:=Ts.iT.mp hlt;have h2:=Ts.iT.mp hlt';omega
     ·rw [← e] at e2;have:=(cv a' b' l').1
      rw [e2] at this;exact absurd this (List.nodup_cons.mp o'.nd).1
   subst ea
   have eb:b'=b:=by
    have h1:=o.one;have h2:=o.adj;have h3:=o'.adj
    match hz:nb a',h1,h2,h3 with
    | [c],_,h2,h3=>rw [List.mem_singleton.mp h2,List.mem_singleton.mp h3]
   subst eb;rw [iR o.go o'.go o.stop o'.stop]
  | true =>
   obtain ⟨a',b',l',rfl,o',_⟩:=h'.rd rfl;have:=o'.two G a (s2 a List.mem_cons_self)
   have:=o.one
   omega
 | true =>
  obtain ⟨a,b,l,rfl,o,hmin,hb⟩:=h.rd rfl
  cases f' with
  | false =>
   obtain ⟨a',b',l',rfl,o',hlt'⟩:=h'.op rfl;have:=o.two G a' (s1 a' List.mem_cons_self)
   have:=o'.one
   omega
  | true =>
   obtain ⟨a',b',l',rfl,o',hmin',hb'⟩:=h'.rd rfl;refine ⟨rfl,?_⟩;have ea:a'=a:=u5 (hmin' a (s2 a List.mem_cons_self)) (hmin a' (s1 a' List.mem_cons_self));subst ea;subst hb hb';have n1:=List.nodup_cons.mp o.nd;have n2:=List.nodup_cons.mp o'.nd;rw [gR o.go o'.go (fun z=>n1.1 (List.mem_cons_of_mem _ z)) (fun z=>n2.1 (List.mem_cons_of_mem _ z)) o.stop o'.stop]
structure Wlk (nb:Pnt→List Pnt) (a b:Pnt) (l:List Pnt):Prop where
 adj:b∈nb a
 go:Go nb a b l
 nd:(a::b::l).Nodup
 stop:oth nb (fin a b l).1 (fin a b l).2=[]∨oth nb (fin a b l).1 (fin a b l).2=[a]
theorem Wlk.open (G:Gr nb) {a b:Pnt} {l:List Pnt} (w:Wlk nb a b l) (h1:(nb a).length=1):kf nb a b l:=by
 refine ⟨w.adj,w.go,h1,?_,w.nd⟩;rcases w.stop with h | h
 ·exact h
 ·have r:Rnd nb a b l:=⟨w.adj,w.go,h,w.nd⟩
  have:=r.two G a List.mem_cons_self
  omega
theorem Wlk.round (G:Gr nb) {a b:Pnt} {l:List Pnt} (w:Wlk nb a b l) {L:List Pnt} (hS:tN nb L) (h2:∀ x∈L,(nb x).length=2) (ha:a∈L):Rnd nb a b l:=by
 refine ⟨w.adj,w.go,?_,w.nd⟩;rcases w.stop with h | h
 ·exfalso
  have hl:(fin a b l).2∈L:=iS G hS w.adj w.go a List.mem_cons_self ha _ (List.mem_cons_of_mem _ (cv a b l).1);have h3:=h2 _ hl;have h1:=G.sym (fP G w.adj w.go);have hn:=G.nd (fin a b l).2
  match hq:nb (fin a b l).2,h3,hn with
  | [p, q], _, hn =>
   have ne:p≠q:=fun e=>(List.nodup_cons.mp hn).1 (by rw [e]; exact List.mem_cons_self);have all:∀ y∈nb (fin a b l).2,y=(fin a b l).1:=fun y hy=>by
    by_cases e:y=(fin a b l).1
    ·exact e
    ·have:y∈oth nb (fin a b l).1 (fin a b l).2:=aS.mpr ⟨hy,e⟩
     rw [h] at this; cases this
   exact ne ((all p (by rw [hq]; exact List.mem_cons_self)).trans (all q (by rw [hq]; exact List.mem_cons_of_mem _ List.mem_cons_self)).symm)
 ·exact h
theorem Wlk.ended (G:Gr nb) {a b:Pnt} {l:List Pnt} (w:Wlk nb a b l):((nb (fin a b l).2).length=1↔oth nb (fin a b l).1 (fin a b l).2=[]):=by
 have h1:=G.sym (fP G w.adj w.go);constructor
 ·intro h
  match hq:nb (fin a b l).2,h,h1 with
  | [p], _, h1 =>
   unfold oth;rw [hq,List.mem_singleton.mp h1];simp
 ·intro h;have all:∀ y∈nb (fin a b l).2,y=(fin a b l).1:=fun y hy=>by
   by_cases e:y=(fin a b l).1
   ·exact e
   ·have:y∈oth nb (fin a b l).1 (fin a b l).2:=aS.mpr ⟨hy,e⟩
    rw [h] at this; cases this
  have hn:=G.nd (fin a b l).2
  match hq:nb (fin a b l).2,h1,all,hn with
  | [], h1, _, _ => cases h1
  | [p], _, _, _ => rfl
  | p :: q :: r, _, all, hn => exact absurd ((all p List.mem_cons_self).trans (all q (List.mem_cons_of_mem _ List.mem_cons_self)).symm) fun e => (List.nodup_cons.mp hn).1 (by rw [e]; exact List.mem_cons_self)
theorem tw (G:Gr nb) {a b:Pnt} {l:List Pnt} (o:kf nb a b l):(Ts.plt (fin a b l).2 a=true→cy nb false (a::b::l).reverse)∧(Ts.plt (fin a b l).2 a=false→cy nb false (a::b::l)):=by
 constructor
 ·intro h;obtain ⟨m,e,o2,e2⟩:=o.rev G;refine ⟨fun _=>⟨_,_,m,e,o2,?_⟩,fun e=>by cases e⟩;rw [e2]; exact h
 ·intro h;refine ⟨fun _=>⟨a,b,l,rfl,o,?_⟩,fun e=>by cases e⟩;have hne:(fin a b l).2≠a:=fun e=>(List.nodup_cons.mp o.nd).1 (by rw [← e]; exact (cv a b l).1);have h:=Ts.cE.mp h;refine Ts.iT.mpr ?_;unfold Ts.ple at h;rcases h with h | ⟨h,h'⟩
  ·exact .inl h
  ·refine .inr ⟨h,?_⟩;rcases Int.lt_or_eq_of_le h' with q | q
   ·exact q
   ·exact absurd (Prod.ext h q).symm hne
end
end Sm
namespace Ts
open PySem PyProof.Rows PySem.W
section
variable {prog:Program} {w:World} {A:Around} {E:Value→Shared→Prop} {s:Shared}
theorem bw.ty {v:Value} {p:Int×Int} (h:bw s.heap v p):s.TypeIs v "tuple":=by
 obtain ⟨b,o,t,u,n,rfl,h1,h2,_⟩:=h;exact ⟨o,h1,h2⟩
theorem eg {v u:Value} {p q:Int×Int} {Q:Value→Shared→Prop} (hu:A.units<cLine) (hv:bw s.heap v p) (hw:bw s.heap u q) (h:Q (.bool (plt p q)) s):wpAny (model prog w) A (richCompare .Lt v u) Q E s:=by
 refine wpAny_richCompare_same_room hv.ty hw.ty F.slot_tuple_lt (wpAny_call_entry F.slot_tuple_lt hv.ty F.entry_tuple_lt ?_ (F.args_tuple_lt_2 _ _)) hu;obtain ⟨b,o,t1,t2,n,rfl,h1,c1,d1⟩:=hv;obtain ⟨c,o2,t3,t4,m,rfl,h2,c2,d2⟩:=hw;unfold Builtin.«tuple.__lt__»;refine wpAny_bind (wpAny_pure ?_);dsimp only;refine wpAny_bind (wpAny_isInstance (T:="tuple") (b:=true) ⟨o2,h2,c2⟩ (by rw [isSubtype_type]; kernel_rfl) ?_);rw [if_neg (by decide)];refine wpAny_bind (wpAny_tupleItemsOf h1 d1 (wpAny_bind (wpAny_tupleItemsOf h2 d2 ?_)))
 show wpAny (model prog w) A.in1 (forIn [(Value.int p.1 t1,Value.int q.1 t3),(Value.int p.2 t2,Value.int q.2 t4)] _ _ >>= _) _ E s
 have nn:∀ b:Bool,Value.bool b≠Value.notImplemented:=fun b e=>nomatch e
 refine wpAny_bind ?_;rw [List.forIn_cons];refine wpAny_bind (wpAny_bind (wpAny_eqBool_int ?_));by_cases e1:p.1=q.1
 ·have e1':(p.1==q.1)=true:=by rw [e1]; exact beq_self_eq_true _
  rw [e1',if_neg (by decide)];refine wpAny_pure ?_;dsimp only;rw [List.forIn_cons];refine wpAny_bind (wpAny_bind (wpAny_eqBool_int ?_));by_cases e2:p.2=q.2
  ·have e2':(p.2==q.2)=true:=by rw [e2]; exact beq_self_eq_true _
   rw [e2',if_neg (by decide)];refine wpAny_pure ?_;dsimp only;rw [List.forIn_nil];refine wpAny_pure ?_;have:plt p q=false:=cE.mpr (by unfold ple; omega)
   rw [this] at h;exact wpAny_pure ⟨_,rfl,nn _,h⟩
  ·have e2':(p.2==q.2)=false:=by simpa using e2
   rw [e2',if_pos (by decide)];refine wpAny_bind (wpAny_rule ?_);refine wpAny_bind (wpAny_lt_int ?_);refine wpAny_bind (wpAny_pure (wpAny_pure ?_));dsimp only;refine wpAny_pure ?_;have:plt p q=decide (p.2<q.2):=by unfold plt; rw [e1]; simp
   rw [this] at h;exact wpAny_pure ⟨_,rfl,nn _,h⟩
 ·have e1':(p.1==q.1)=false:=by simpa using e1
  rw [e1',if_pos (by decide)];refine wpAny_bind (wpAny_rule ?_);refine wpAny_bind (wpAny_lt_int ?_);refine wpAny_bind (wpAny_pure (wpAny_pure ?_));dsimp only;refine wpAny_pure ?_;have:plt p q=decide (p.1<q.1):=by unfold plt; simp [e1]
  rw [this] at h;exact wpAny_pure ⟨_,rfl,nn _,h⟩
noncomputable def bK (h:Heap) (vs:List Value) (g:Value→Int×Int) (I S:Addr):Prop:=∀ v∈vs,bw h v (g v)∧v≠.ref I∧v≠.ref S
theorem bK.keep {h h':Heap} {vs:List Value} {g:Value→Int×Int} {I S:Addr} (a:bK h vs g I S) (k:∀ b o,b≠I→b≠S→h.get? b=some o→h'.get? b=some o):bK h' vs g I S:=by
 intro v hv;obtain ⟨⟨b,o,t,u,n,rfl,h1,h2,h3⟩,n1,n2⟩:=a v hv;exact ⟨⟨b,o,t,u,n,rfl,k b o (fun e=>n1 (by rw [e])) (fun e=>n2 (by rw [e])) h1,h2,h3⟩,n1,n2⟩
theorem iF {p q r:Int×Int} (h:ple p q) (h':ple q r):ple p r:=by unfold ple at *; omega
theorem dg (p:Int×Int):ple p p:=by unfold ple; omega
theorem zW {R:Result→Shared→Prop} {I l S:Addr} {vs:List Value} {g:Value→Int×Int} (hu:A.units+8<cLine) (hh:A.in1.handled=none) (hl:l≠I) (hSI:S≠I) (hSl:S≠l) :
  ∀ (k j:Nat) (s:Shared) (vb:Value) (c:Nat),vs.length - (j+1)=k→j+1≤vs.length→s.heap.IsListIter I l (j+1)→s.heap.IsList l vs.toArray→bK s.heap vs g I S→vb∈vs→(∀ i v,i≤j→vs[i]?=some v→ple (g vb) (g v)) →
  s.heap.get? S=some { cls:=.type "list",dict:=none,data:=.seq #[vb,vb] c,slots:=#[] } →
  (∀ v h' tk,v∈vs→(∀ u∈vs,ple (g v) (g u))→(∀ b o,b≠I→b≠S→s.heap.get? b=some o→h'.get? b=some o)→R (.ok (.ret v)) { s with heap:=h',toks:=tk }) →
  codeAny (model prog w) A (.builtin "min.loop" ⟨[.ref I,.none,.ref S],[]⟩) R s:=by
 have W:=Walks.list (prog:=prog) (w:=w) hh I l hl vs.toArray;have nm:(toString "min"++toString ".loop":String)="min.loop":=by decide
 have sz:vs.toArray.size=vs.length:=by simp
 intro k
 induction k with
 | zero =>
  intro j s vb c hk hj hit hls hap hvb hmin hS hR
  (refine codeAny_builtin F.entry_min_loop ?_; rw [Around.under_plainId F.plain_min_loop _]; show wpAny _ A.in1 (seqItems? (.ref S) >>= _) _ _ s; refine wpAny_bind (wpAny_seqItems hS rfl ?_))
  (show wpAny _ A.in1 (tryCatch (pyNext (.ref I)) _ >>= _) _ _ s; refine wpAny_bind (wpAny_tryCatch (W.done s _ _ ⟨by rw [sz,show vs.length=j+1 by omega]; exact hit,hls⟩ fun h' tk hk'=>?_)))
  have hS':=hk' S _ (by simp [hSI]) hS
  (show wpAny _ A.in1 (updateSeq S (fun _=>#[]) >>= _) _ _ _; refine wpAny_bind ?_; refine wpAny_updateSeq hS' rfl (wpAny_bind (wpAny_letGo (wpAny_pure ?_))))
  refine hR vb _ tk hvb (fun u hu'=>?_) fun b o hI hbS e=>(Heap.get?_update_other _ _ (Ne.symm hbS)).trans (hk' b o (by simp [hI]) e);obtain ⟨i,hi⟩:=List.mem_iff_getElem?.mp hu';exact hmin i u (by have:=(List.getElem?_eq_some_iff.mp hi).1; omega) hi
 | succ k ih =>
  intro j s vb c hk hj hit hls hap hvb hmin hS hR
  (refine codeAny_builtin F.entry_min_loop ?_; rw [Around.under_plainId F.plain_min_loop _]; show wpAny _ A.in1 (seqItems? (.ref S) >>= _) _ _ s; refine wpAny_bind (wpAny_seqItems hS rfl ?_))
  (show wpAny _ A.in1 (tryCatch (pyNext (.ref I)) _ >>= _) _ _ s; refine wpAny_bind (wpAny_tryCatch (W.item (j+1) s _ _ (by omega) ⟨hit,hls⟩ fun v h' tk hP hst' hk'=>?_)))
  have hS':=hk' S _ (by simp [hSI]) hS;have hap':bK h' vs g I S:=hap.keep fun b o hI _ e=>hk' b o (by simp [hI]) e;have hv:vs[j+1]?=some v:=by rw [← hP]; simp
  have hvm:v∈vs:=List.mem_of_getElem? hv
  (show wpAny _ A.in1 (tryCatch (holding [v,v] (richCompare .Lt v vb >>= _)) _ >>= _) _ _ _; refine wpAny_bind (wpAny_tryCatch (wpAny_holding (wpAny_bind (eg (s:={ s with heap:=h',toks:=tk }) (by show A.units+1<cLine; omega) (hap' v hvm).1 (hap' vb hvb).1 ?_)))))
  (refine wpAny_bind (wpAny_holding (wpAny_truthy_bool ?_)); refine wpAny_bind (wpAny_letGo (wpAny_pure ?_)))
  cases hb:plt (g v) (g vb) with
  | true =>
   simp only [if_true]
   (refine wpAny_bind ?_; refine wpAny_updateSeq hS' rfl (wpAny_bind (wpAny_letGo ?_)); rw [nm])
   have kp:∀ b o,b≠S→h'.get? b=some o→(h'.update S (Obj.mapSeq fun _=>#[v,v])).get? b=some o:=fun b o hbS e=>(Heap.get?_update_other _ _ (Ne.symm hbS)).trans e;refine wpAny_pure ⟨plainId_quiet F.plain_min_loop _,ih (j+1) _ v _ (by omega) (by omega) (hst'.1.at fun o e=>kp I o (Ne.symm hSI) e) (hst'.2.at fun o e=>kp l o (Ne.symm hSl) e) (hap'.keep fun b o _ hbS e=>kp b o hbS e) hvm (fun i u hi hu'=>?_) (Heap.get?_update_self _ hS' rfl) fun v' h'' tk'' hm hmi hk''=>?_⟩
   ·have hlt:=iT.mp hb;have:ple (g v) (g vb):=by unfold ple; omega
    by_cases hij:i≤j
    ·exact iF this (hmin i u hij hu')
    ·have:i=j+1:=by omega
     subst this;rw [hv] at hu'; cases hu';exact dg _
   ·exact hR v' h'' tk'' hm hmi fun b o hI hbS e=>hk'' b o hI hbS (kp b o hbS (hk' b o (by simp [hI]) e))
  | false =>
   simp only [Bool.false_eq_true,if_false]
   (refine wpAny_bind (wpAny_letGo ?_); rw [nm])
   refine wpAny_pure ⟨plainId_quiet F.plain_min_loop _,ih (j+1) _ vb c (by omega) (by omega) hst'.1 hst'.2 hap' hvb (fun i u hi hu'=>?_) hS' fun v' h'' tk'' hm hmi hk''=>?_⟩
   ·by_cases hij:i≤j
    ·exact hmin i u hij hu'
    ·have:i=j+1:=by omega
     subst this;rw [hv] at hu'; cases hu';exact cE.mp hb
   ·exact hR v' h'' tk'' hm hmi fun b o hI hbS e=>hk'' b o hI hbS (hk' b o (by simp [hI]) e)
theorem sC {l:Addr} {vs:List Value} {g:Value→Int×Int} {Q:Value→Shared→Prop} (hu:A.units+16<cLine) (hh:A.handled=none) (hl:s.heap.IsList l vs.toArray) (hne:vs≠[]) (hp:∀ v∈vs,bw s.heap v (g v))
  (h:∀ v h' tk,v∈vs→(∀ u∈vs,ple (g v) (g u))→(∀ b o,s.heap.get? b=some o→h'.get? b=some o)→Q v { s with heap:=h',toks:=tk }):wpAny (model prog w) A (call (.builtin "min") [.ref l]) Q E s:=by
 have nm:(toString "min"++toString ".loop":String)="min.loop":=by decide
 have hlt:l<s.heap.objs.size:=by obtain ⟨o,e,_⟩:=hl; exact Heap.lt_size e
 (refine call_function_tree F.kind_min F.plain_min F.entry_min (F.args_min1 _) ?_; show wpAny _ A.in1 (Builtin.Builtins.bindParams "min" ["key","default"] 0 ⟨[],[]⟩ >>= _) _ _ s)
 (refine wpAny_bind (wpAny_of_eq (show Builtin.Builtins.bindParams "min" ["key","default"] 0 ⟨[],[]⟩=pure [none,none] from rfl) ?_); refine wpAny_bind (wpAny_pure ?_))
 (refine wpAny_bind (wpAny_pyIter_list hl ?_); refine wpAny_bind (wpAny_newObj_type ?_); rw [nm])
 generalize hI:s.heap.objs.size=I;have hS:(s.heap.push { cls:=.type "list_iterator",data:=.fields #[.ref l,.int 0 0] }).objs.size=I+1:=by rw [Heap.size_push,hI]
 have kp:∀ b o,s.heap.get? b=some o→((s.heap.push { cls:=.type "list_iterator",data:=.fields #[.ref l,.int 0 0] }).push { cls:=.type "list",data:=.seq #[] }).get? b=some o:=fun b o e=>Heap.get?_push_of_some _ (Heap.get?_push_of_some _ e);have hSI:I+1≠I:=Nat.succ_ne_self I;have hlI:l≠I:=by rw [← hI]; exact Nat.ne_of_lt hlt
 have hSl:I+1≠l:=by rw [← hI]; exact Nat.ne_of_gt (Nat.lt_succ_of_lt hlt)
 have hap:bK ((s.heap.push { cls:=.type "list_iterator",data:=.fields #[.ref l,.int 0 0] }).push { cls:=.type "list",data:=.seq #[] }) vs g I (I+1):=by
  intro v hv;obtain ⟨b,o,t,u,n,rfl,h1,h2,h3⟩:=hp v hv;have hb:=Heap.lt_size h1;rw [hI] at hb;refine ⟨⟨b,o,t,u,n,rfl,kp _ _ h1,h2,h3⟩,(fun e=>?_),(fun e=>?_)⟩
  ·injection e with e; rw [e] at hb; exact Nat.lt_irrefl _ hb
  ·injection e with e; rw [e] at hb; exact absurd hb (Nat.not_lt.mpr (Nat.le_succ _))
 have it0:((s.heap.push { cls:=.type "list_iterator",data:=.fields #[.ref l,.int 0 0] }).push { cls:=.type "list",data:=.seq #[] }).IsListIter I l 0:=⟨_,Heap.get?_push_of_some _ (by rw [← hI]; exact Heap.get?_push_size _ rfl),rfl,rfl⟩
 have hl2:((s.heap.push { cls:=.type "list_iterator",data:=.fields #[.ref l,.int 0 0] }).push { cls:=.type "list",data:=.seq #[] }).IsList l vs.toArray:=hl.at fun o e=>kp l o e;have hS0:((s.heap.push { cls:=.type "list_iterator",data:=.fields #[.ref l,.int 0 0] }).push { cls:=.type "list",data:=.seq #[] }).get? (I+1)=some { cls:=.type "list",dict:=none,data:=.seq #[] 0,slots:=#[] }:=by rw [← hS]; exact Heap.get?_push_size _ rfl
 show wpAny _ _ (pure (Fin.again (.builtin "min.loop" ⟨[.ref I,.none,.ref (s.heap.push { cls:=.type "list_iterator",data:=.fields #[.ref l,.int 0 0] }).objs.size],[]⟩))) _ _ { s with heap:=(s.heap.push { cls:=.type "list_iterator",data:=.fields #[.ref l,.int 0 0] }).push { cls:=.type "list",data:=.seq #[] } }
 rw [hS];generalize (s.heap.push { cls:=.type "list_iterator",data:=.fields #[.ref l,.int 0 0] }).push { cls:=.type "list",data:=.seq #[] }=h2 at kp hap it0 hl2 hS0 ⊢;have W:=Walks.list (prog:=prog) (w:=w) (A:=A.in1) hh I l hlI vs.toArray;have sz:vs.toArray.size=vs.length:=by simp
 have pos:0<vs.length:=List.length_pos_iff.mpr hne;refine wpAny_pure ⟨plainId_quiet F.plain_min_loop _,?_⟩
 (refine codeAny_builtin F.entry_min_loop ?_; rw [Around.under_plainId F.plain_min_loop _]; show wpAny _ A.in1 (seqItems? (.ref (I+1)) >>= _) _ _ _; refine wpAny_bind (wpAny_seqItems hS0 rfl ?_))
 (show wpAny _ A.in1 (tryCatch (pyNext (.ref I)) _ >>= _) _ _ _; refine wpAny_bind (wpAny_tryCatch (W.item 0 { s with heap:=h2 } _ _ (by omega) ⟨it0,hl2⟩ fun v h' tk hP hst' hk'=>?_)))
 have hS':=hk' (I+1) _ (by simp) hS0;have hap':bK h' vs g I (I+1):=hap.keep fun b o hI _ e=>hk' b o (by simp [hI]) e;have hv:vs[0]?=some v:=by rw [← hP]; simp
 (show wpAny _ A.in1 (updateSeq (I+1) (fun _=>#[v,v]) >>= _) _ _ _; refine wpAny_bind ?_; refine wpAny_updateSeq hS' rfl ?_; rw [nm])
 have kp2:∀ b o,b≠I+1→h'.get? b=some o→(h'.update (I+1) (Obj.mapSeq fun _=>#[v,v])).get? b=some o:=fun b o hbS e=>(Heap.get?_update_other _ _ (Ne.symm hbS)).trans e;refine wpAny_pure ⟨plainId_quiet F.plain_min_loop _,zW (g:=g) (by omega) hh hlI hSI hSl _ 0 _ v _ rfl (by omega) (hst'.1.at fun o e=>kp2 I o (Ne.symm hSI) e) (hst'.2.at fun o e=>kp2 l o (Ne.symm hSl) e) (hap'.keep fun b o _ hbS e=>kp2 b o hbS e) (List.mem_of_getElem? hv) (fun i u hi hu'=>?_) (Heap.get?_update_self _ hS' rfl) fun v' h'' tk'' hm hmi hk''=>?_⟩
 ·have:i=0:=by omega
  subst this;rw [hv] at hu'; cases hu';exact dg _
 ·refine h v' h'' tk'' hm hmi fun b o e=>?_;have hb:=Heap.lt_size e;rw [hI] at hb;have n1:b≠I:=Nat.ne_of_lt hb;have n2:b≠I+1:=Nat.ne_of_lt (Nat.lt_succ_of_lt hb);exact hk'' b o n1 n2 (kp2 b o n2 (hk' b o (by simp [n1]) (kp b o e)))
end
end Ts
namespace L2
open PySem PySem.Spec PyProof.Rows
noncomputable def yW (K:W.Frag) (vs:List V) (H:Hp) (Q:VK):Prop:=∃ a xs,vs=[.ref a]∧SqL K H a xs∧xs≠[]∧∃ g:V→Int×Int,(∀ v∈xs,PtV H v (g v))∧∀ v∈xs,(∀ u∈xs,Ts.ple (g v) (g u))→Q v H
theorem dQ {X:Cx} {pins:List (Addr×Obj)} {σ:St} {H:Hp} {s:Shared} (I:Inv X pins σ H s) {v:V} {u:Value} {p:Int×Int} (h:PtV H v p) (r:aQ v u):Ts.bw s.heap u p:=by
 obtain ⟨b,rfl,hb⟩:=h;have r:u=.ref b:=r;subst r;obtain ⟨_,its2,r2,o,ho,hc,n,hd⟩:=I.hok _ _ hb
 cases r2 with
 | cons q1 r2 =>
 obtain ⟨t1,rfl⟩:=q1
 cases r2 with
 | cons q2 r2 =>
 obtain ⟨t2,rfl⟩:=q2
 cases r2;exact ⟨b,o,t1,t2,n,rfl,ho,hc,hd⟩
theorem tT {X:Cx} (K:W.Frag) (hK:X.K=K) (hc:X.calm=true) (hu:X.A.units+64<cLine):bI X (.builtin "min") (yW K):=by
 subst hK;intro pins s σ H xs us Q I hv h;obtain ⟨a,ys,rfl,hl,hne,g,hg,h⟩:=h
 cases hv with
 | cons r hv =>
 cases hv
 cases r;obtain ⟨its,rv,pl,hz⟩:=I.list hl;obtain ⟨em,hr⟩:=rv.refs fun v hv=>let ⟨b,e,_⟩:=hg v hv; ⟨b,e⟩;have hb:∀ u∈its,∃ b,u=Value.ref b∧V.ref b∈ys:=fun u hu=>by
  obtain ⟨b,rfl⟩:=hr u hu;exact ⟨b,rfl,by rw [← em]; exact List.mem_map.mpr ⟨_,hu,rfl⟩⟩
 refine Ts.sC (g:=fun u=>g (toV u)) (by omega) (I.ok.hd hc) pl.isList (fun e=>hne (by rw [← em,e]; rfl)) (fun u hu=>?_) fun v h' tk hm hmin hk=>?_
 ·obtain ⟨b,rfl,hm⟩:=hb u hu;exact dQ I (hg _ hm) rfl
 ·obtain ⟨b,rfl,hm'⟩:=hb v hm;refine ⟨.ref b,H,I.kept hk,rfl,h _ hm' fun u hu=>?_⟩;rw [← em] at hu;obtain ⟨w,hw,rfl⟩:=List.mem_map.mp hu;exact hmin w hw
theorem xX {K:W.Frag} {a:Addr} {xs:List V} {H:Hp} {Q:VK} (g:V→Int×Int) (e:H a=some (.lst xs)) (hne:xs≠[]) (hg:∀ v∈xs,PtV H v (g v)) (h:∀ v∈xs,(∀ u∈xs,Ts.ple (g v) (g u))→Q v H):yW K [.ref a] H Q:=⟨a,xs,rfl,SqL.of e,hne,g,hg,h⟩
noncomputable def Bq:R2:=fun x y H Q=>∃ p q,PtV H x p∧PtV H y q∧Q (.bl (Ts.plt p q)) H
theorem Ae {X:Cx} (hu:X.A.units+64<cLine):OpR X (compareOp .Lt) Bq:=by
 intro pins s σ H x y v u Q I rx ry h;obtain ⟨p,q,h1,h2,k⟩:=h;exact Ts.eg (by omega) (dQ I h1 rx) (dQ I h2 ry) ⟨.bl _,H,I,rfl,k⟩
theorem AJ {H:Hp} {Q:VK} {x y:V} {p q:Int×Int} (hx:PtV H x p) (hy:PtV H y q) (k:Q (.bl (Ts.plt p q)) H):Bq x y H Q:=⟨p,q,hx,hy,k⟩
section
variable {K:W.Frag} {σ:St} {H:Hp} {Q:VK} {te:TE} {tt:TT} {cap:List (Option Nat)} {l:Addr}
theorem pE {a:Addr} {xs:List V} (F:V→V) (p:V→Bool) (hs:SqL K H a xs) (hz:xs.length≤5000) (hl:H l=none)
    (test:∀ x o H' (Q':Bool→Hp→Prop),x∈xs→ah H H'→(∀ H5,ah H' H5→Q' (p x) H5)→tt (((dY (none::cap) σ).set 0 o).set 0 (some x)) H' Q')
    (step:∀ x o H' (Q':VK),x∈xs→p x=true→ah H H'→(∀ H5,ah H' H5→Q' (F x) H5)→te (((dY (none::cap) σ).set 0 o).set 0 (some x)) H' Q')
    (fin:∀ H',ah H H'→H' l=some (.lst ((xs.filter p).map F))→Q (.ref l) H'):gF (Itl K a) (dw 0) tt te (none::cap) l σ H Q:=by
  refine ⟨xs.length,fun i ys σ' H'=>ys=((xs.take i).filter p).map F∧(∃ o,σ'=(dY (none::cap) σ).set 0 o)∧ah H H'∧H' l=some (.lst ys),⟨rfl,⟨none,rfl⟩,ah.new hl,ag⟩,?_,?_⟩
  · rintro i ys σ' H' hi ⟨rfl,⟨o,rfl⟩,s,e⟩
    refine ⟨⟨xs,xs[i],s.seq hs,by simp [hi]⟩,fun x H2 y=>?_⟩;obtain ⟨e2,y⟩:=y;subst e2;have hx:=y xs (s.seq hs)
    have tk:((xs.take (i+1)).filter p).map F=((xs.take i).filter p).map F++(if p x=true then [F x] else []):=by
      rw [List.take_add_one,hx,List.filter_append,List.map_append]
      congr 1
      cases hp:p x<;>simp [hp]
    refine cV (test x o H2 _ (List.mem_of_getElem? hx) s fun H5 s5=>?_);by_cases hp:p x=true
    · rw [if_pos hp]
      rw [if_pos hp] at tk;refine step x o H5 _ (List.mem_of_getElem? hx) hp (s.trans s5) fun H6 s6=>⟨s6 _ _ (s5 _ _ e),?_,?_⟩
      · have:(((xs.take i).filter p).map F).length≤xs.length:=by
          rw [List.length_map];exact Nat.le_trans (List.length_filter_le _ _) (by rw [List.length_take]; omega)
        exact Nat.lt_of_le_of_lt (Nat.le_trans this hz) (by decide)
      · exact ⟨tk.symm,⟨_,List.set_set ..⟩,((s.trans s5).trans s6).later hl,ag⟩
    · rw [if_neg hp]
      rw [if_neg hp,List.append_nil] at tk;exact ⟨tk.symm,⟨_,List.set_set ..⟩,s.trans s5,s5 _ _ e⟩
  · rintro ys σ' H' ⟨rfl,_,s,e⟩
    rw [List.take_of_length_le (Nat.le_refl _)] at e;exact ⟨⟨xs,s.seq hs,Nat.le_refl _⟩,fin H' s e⟩
end
end L2
namespace Ts
open PySem PyProof.Rows PySem.W
theorem xf (g:Keyed→Int×Int):cS fun x y=>plt (g x) (g y):=by
 constructor
 ·intro x y h;have h:=iT.mp h;refine cE.mpr ?_;unfold ple;omega
 ·intro x y z h1 h2;have h1:=cE.mp h1;have h2:=cE.mp h2;refine cE.mpr ?_;unfold ple at h1 h2 ⊢;omega
end Ts
namespace L2
open PySem PySem.Spec PyProof.Rows PySem.W
section
variable {X:Cx} {pins:List (Addr×Obj)} {σ:St} {H H1 H2:Hp} {s0 s s':Shared}
structure fg (X:Cx) (H:Hp) (s0:Shared) (H1:Hp) (s:Shared):Prop where
 os:s.os=s0.os
 un:Un (frs X.stack) [] H H1 s0.heap s.heap
 hok:HOk X.prog X.w H1 s.heap
 bare:AllBare s.gens
theorem fg.inv (a:fg X H s0 H1 s) (I:Inv X pins σ H s0):Inv X pins σ H1 s:=I.call' a.os a.un a.hok a.bare (fun b hb=>nomatch hb)
theorem fg.start (I:Inv X pins σ H s0):fg X H s0 H s0:=⟨rfl,Un.refl,I.hok,I.bare⟩
theorem fg.heap {h':Heap} (a:fg X H s0 H1 s) (k:∀ b o,b<s0.heap.objs.size∨H1 b≠none→s.heap.get? b=some o→h'.get? b=some o):fg X H s0 H1 { s with heap:=h' }:=by
 have lt:∀ {b o},s0.heap.get? b=some o→b<s0.heap.objs.size:=fun e=>Heap.lt_size e;refine ⟨a.os,⟨fun b o e n hb hx=>k b o (.inl (lt e)) (a.un.keep b o e n hb hx),fun b o e n hb hx=>?_,a.un.free,fun b o e hx=>?_,a.un.tups,a.un.frzs,a.un.tbls⟩,fun b o e=>?_,a.bare⟩
 ·obtain ⟨sl,q⟩:=a.un.slot b o e n hb hx;exact ⟨sl,k b _ (.inl (lt e)) q⟩
 ·obtain ⟨o',q⟩:=a.un.there b o e hx;exact ⟨o',k b _ (.inl (lt e)) q⟩
 ·refine (a.hok b o e).stay (fun c v hc q=>k c v (.inr ?_) q) (fun _ q=>q) fun _ _ q=>q;rcases hc with z | z
  ·rw [z,e]; exact fun z=>nomatch z
  ·rw [z]; exact fun z=>nomatch z
theorem fg.track {c:Addr} {o:HO} (a:fg X H s0 H1 s) (hc:s0.heap.objs.size≤c) (hn:H1 c=none) (I:Inv X pins σ H s0) (new:bg X.prog X.w (upd H1 c o) s.heap c o):fg X H s0 (upd H1 c o) s:=by
 have ne:∀ {b o},s0.heap.get? b=some o→b≠c:=fun e z=>by have:=Heap.lt_size e; rw [z] at this; exact absurd this (Nat.not_lt.mpr hc)
 have ne1:∀ {b o},H1 b=some o→b≠c:=fun e z=>by rw [z,hn] at e; cases e
 refine ⟨a.os,⟨a.un.keep,a.un.slot,fun b o e n hx=>by rw [aj (ne e)]; exact a.un.free b o e n hx,a.un.there,fun b xs e=>?_,fun b o u e=>?_,fun b ps e=>?_⟩,fun b u e=>?_,a.bare⟩
 ·have:=a.un.tups b xs e
  rw [aj (ne1 this)]; exact this
 ·have:=a.un.frzs b o u e
  rw [aj (ne1 this)]; exact this
 ·obtain ⟨more,q⟩:=a.un.tbls b ps e;exact ⟨more,by rw [aj (ne1 q)]; exact q⟩
 ·by_cases hb:b=c
  ·subst hb; rw [ag] at e; cases e; exact new
  ·rw [aj hb] at e;exact (a.hok b u e).stay (fun c v _ q=>q) (fun c q=>by rw [aj (ne1 q)]; exact q) fun c xs q=>by rw [aj (ne1 q)]; exact q
theorem fg.call {A:Around} {k:Nat} {f:Addr} {fd:FuncData} {ps:List Str} {sp:Sp} {us:List Value} {vs:List V} {Q:VK} {E:Value→Shared→Prop} (a:fg X H s0 H1 s) (I:Inv X pins σ H s0) (F:a7 X.prog X.w X.K X.mg X.base CX0 k f fd ps sp) (hr:b7 k A) (hA:A.frames=X.A.frames)
  (hb:aL X.K fd ps []) (r:Vals vs us) (h:sp vs H1 Q E0) {R:Value→Shared→Prop} (q:∀ v u H2 s2,fg X H s0 H2 s2→aQ v u→Q v H2→(∀ b o,s.heap.get? b=some o→H1 b=none→b∉frs X.stack→s2.heap.get? b=some o∧H2 b=none)→R u s2):wpAny (model X.prog X.w) A (PySem.call (.ref f) us) R E s:=by
 have J:=a.inv I;have hl:(us++([]:List Value)).length=ps.length:=by rw [List.append_nil,← r.length]; exact F.len _ _ _ _ h
 have e0:=J.env0;have bt:=hb s us J.kIn hl;rw [List.append_nil] at bt;refine wpAny_call (codeAny_mono (F.run A X.stack s H1 ⟨us,[]⟩ us vs Q E0 hr ⟨hA.trans e0.frames,e0.mod,e0.bs,e0.bsz,e0.funs,e0.frf,e0.hok,e0.bare⟩ bt r h) fun r s2 hq=>?_)
 cases r with
 | error e=>exact False.elim hq
 | ok fl =>
  cases fl with
  | ret u =>
   obtain ⟨v,H2,os,bare,un,hok,rv,qq⟩:=hq;exact q v u H2 s2 ⟨os.trans a.os,a.un.trans un,hok,bare⟩ rv qq fun b o e n hb=>⟨un.keep b o e n hb (fun z=>nomatch z),un.free b o e n (fun z=>nomatch z)⟩
  | next => exact False.elim hq
  | brk => exact False.elim hq
  | cont => exact False.elim hq
noncomputable def pY (K:W.Frag) (sp:Sp) (x:V) (H:Hp) (Q:VK):Prop:=∃ (a:Addr) (xs:List V) (g:V→Int×Int),x=.ref a∧SqL K H a xs∧(∀ v∈xs,∃ b,v=.ref b) ∧
 (∀ v∈xs,∀ (H1:Hp) (Q1:VK),ah H H1→(∀ u H2,ah H1 H2→PtV H2 u (g v)→Q1 u H2)→sp [v] H1 Q1 E0) ∧
 ∀ (l:Addr) (ys:List V) (H':Hp),ah H H'→H l=none→H' l=some (.lst ys)→ys.Perm xs→ys.Pairwise (fun x y=>Ts.ple (g x) (g y))→Q (.ref l) H'
theorem PtV.mono {v:V} {p:Int×Int} (s:ah H H1) (h:PtV H v p):PtV H1 v p:=by
 obtain ⟨b,e,q⟩:=h;exact ⟨b,e,s _ _ q⟩
theorem tI {xs:List V} {us:List Value} {v:V} {u:Value} (h:Vals xs us) (r:aQ v u):Vals (xs++[v]) (us++[u]):=h.append (.cons r .nil)
theorem ur {A:Around} {E:Value→Shared→Prop} {h:Heap} (us:List Value) (gs:Value→Int×Int) (hv:∀ u∈us,Ts.bw h u (gs u)) (h2:2≤us.length) {M:Model} {s:Shared} (hs:s.heap=h) {Q:SortKind→Shared→Prop} (q:Q (tuples' true) s):wpAny M A (keyKind' us.toArray) Q E s:=by
 have key:∀ (us:List Value),(∀ v∈us,Ts.bw h v (gs v))→∃ fs,KatTups h us fs∧fs.length=us.length∧∀ f∈fs,∃ i t,f=.int i t:=by
  intro us
  induction us with
  | nil => intro _; exact ⟨[], KatTups.nil, rfl, (fun f hf => nomatch hf)⟩
  | cons v us ih =>
   intro hu;obtain ⟨fs,k1,k2,k3⟩:=ih fun v hv=>hu v (List.mem_cons_of_mem _ hv);obtain ⟨b,o,t,u,n,e,h1,h2,h3⟩:=hu v List.mem_cons_self;refine ⟨.int (gs v).1 t::fs,?_,by rw [List.length_cons,List.length_cons,k2],fun f hf=>?_⟩
   ·rw [e];rw [e] at h3;exact KatTups.cons h1 h2 h3 rfl k1
   ·rcases List.mem_cons.mp hf with rfl | hf
    ·exact ⟨_,_,rfl⟩
    ·exact k3 f hf
 obtain ⟨fs,k1,k2,k3⟩:=key us hv;subst hs;refine kat_kind (T:=.type "int") k1 (by omega) (fun f hf=>?_) (by decide) ?_
 ·obtain ⟨i,t,rfl⟩:=k3 f hf;exact Looks.of_pure rfl
 ·have:(Value.type "int" != Value.type "tuple")=true:=by decide
  rw [this];exact q
theorem sX {k:Nat} {f:Addr} {fd:FuncData} {ps:List Str} {sp:Sp} {x:V} {u:Value} {Q:VK} (F:a7 X.prog X.w X.K X.mg X.base CX0 k f fd ps sp) (hr:b7 (k+3) X.A) (hb:aL X.K fd ps []) (I:Inv X pins σ H s0) (rx:aQ x u) (h:pY X.K sp x H Q) :
    wpAny (model X.prog X.w) X.A (PySem.call (.builtin "sorted") [u] [(Str.ofString "key",.ref f)]) (EP X pins σ Q) X.xe s0:=by
  obtain ⟨a,xs,g,rfl,hl,hrf,hkey,hend⟩:=h
  cases rx;obtain ⟨its,rv,pl,hz⟩:=I.list hl;have hlen:=rv.length;have hz':its.length≤sizeLine:=by omega
  obtain ⟨em,hri⟩:=rv.refs hrf;refine call_function_entry_kw kind_sorted plain_sorted entry_sorted (ksk_s1 _ _) ?_;unfold Builtin.«sorted»;refine wpAny_bind (m:=checkCount "sorted" 1 1 _) (wpAny_pure ?_);refine wpAny_bind (collect_list pl.isList ?_ hz');refine wpAny_bind (wpAny_newList ?_ hz');generalize hS0:s0.heap.objs.size=n0;have hsz:((s0.heap.push (seqObj "list" #[] 0)).update n0 (Obj.mapSeq (·++its.toArray))).objs.size=n0+1:=by rw [Heap.size_update,size_push',hS0]
  have hoL:(((s0.heap.push (seqObj "list" #[] 0)).update n0 (Obj.mapSeq (·++its.toArray))).push (seqObj "list" its.toArray 0)).get? (n0+1)=some (seqObj "list" its.toArray 0):=by rw [← hsz]; exact Heap.get?_push_size _ rfl
  have keep:∀ b o,s0.heap.get? b=some o→(((s0.heap.push (seqObj "list" #[] 0)).update n0 (Obj.mapSeq (·++its.toArray))).push (seqObj "list" its.toArray 0)).get? b=some o:=fun b o q=>by
    have hlt:b<n0:=by rw [← hS0]; exact Heap.lt_size q
    refine Heap.get?_push_of_some _ ?_;rw [Heap.get?_update_ne _ _ _ _ (Nat.ne_of_lt hlt)];exact Heap.get?_push_of_some _ q
  have hs2:(((s0.heap.push (seqObj "list" #[] 0)).update n0 (Obj.mapSeq (·++its.toArray))).push (seqObj "list" its.toArray 0)).objs.size=n0+2:=by rw [size_push',hsz]
  show wpAny _ _ (holding [.ref ((s0.heap.push (seqObj "list" #[] 0)).update n0 (Obj.mapSeq (·++its.toArray))).objs.size] (PySem.call (.builtin "list.sort") [.ref ((s0.heap.push (seqObj "list" #[] 0)).update n0 (Obj.mapSeq (·++its.toArray))).objs.size] [(Str.ofString "key",.ref f)]) >>= fun _=>ret (.ref ((s0.heap.push (seqObj "list" #[] 0)).update n0 (Obj.mapSeq (·++its.toArray))).objs.size)) _ _ { s0 with heap:=((s0.heap.push (seqObj "list" #[] 0)).update n0 (Obj.mapSeq (·++its.toArray))).push (seqObj "list" its.toArray 0) }
  rw [hsz];generalize ((s0.heap.push (seqObj "list" #[] 0)).update n0 (Obj.mapSeq (·++its.toArray))).push (seqObj "list" its.toArray 0)=h1 at hoL keep hs2 ⊢;generalize hD:n0+1=D at hoL ⊢;have am0:fg X H s0 H { s0 with heap:=h1 }:=(fg.start I).heap fun b o _ q=>keep b o q;refine wpAny_bind (wpAny_holding (wpAny_call_entry_kw slot_list_sort ⟨_,hoL,rfl⟩ entry_list_sort ?_ (ksk_l1 _ _)))
  show wpAny (model X.prog X.w) X.A.in1.in1 (Builtin.«list.sort» ⟨[.ref D],[(Str.ofString "key",.ref f)]⟩) _ _ _
  rw [ksk_t1];unfold ksk_tree;refine wpAny_bind (listItems_at hoL rfl ?_);refine wpAny_bind (listUpdate_at hoL rfl ?_ (by rw [List.size_toArray]; exact hz') (Nat.zero_le _));obtain ⟨e1,ho1⟩:∃ e1,(h1.update D (Obj.mapSeq fun _=>#[])).get? D=some (seqObj "list" #[] e1):=⟨_,get?_update_seq hoL (fun _=>#[])⟩
  refine wpAny_bind (seqEpoch_at ho1 rfl ?_);refine wpAny_bind (wpAny_newTuple ?_ (by first | exact hz' | (simp; exact hz')));refine wpAny_bind (wpAny_newList ?_);refine wpAny_holding ?_
  show wpAny _ _ (ksk_rest D (.ref f) false its.toArray e1 (.ref ((h1.update D (Obj.mapSeq fun _=>#[])).push (seqObj "tuple" its.toArray 0)).objs.size)) _ _ { s0 with heap:=((h1.update D (Obj.mapSeq fun _=>#[])).push (seqObj "tuple" its.toArray 0)).push (seqObj "list" #[] 0) }
  have hsk:((h1.update D (Obj.mapSeq fun _=>#[])).push (seqObj "tuple" its.toArray 0)).objs.size=n0+3:=by rw [size_push',Heap.size_update,hs2]
  have hK:(((h1.update D (Obj.mapSeq fun _=>#[])).push (seqObj "tuple" its.toArray 0)).push (seqObj "list" #[] 0)).get? (n0+3)=some (seqObj "list" #[] 0):=by rw [← hsk]; exact Heap.get?_push_size _ rfl
  have hDo:(((h1.update D (Obj.mapSeq fun _=>#[])).push (seqObj "tuple" its.toArray 0)).push (seqObj "list" #[] 0)).get? D=some (seqObj "list" #[] e1):=Heap.get?_push_of_some _ (Heap.get?_push_of_some _ ho1);rw [hsk];have hDn:n0≤D:=by rw [← hD]; exact Nat.le_succ _
  have am1:fg X H s0 H { s0 with heap:=((h1.update D (Obj.mapSeq fun _=>#[])).push (seqObj "tuple" its.toArray 0)).push (seqObj "list" #[] 0) }:=am0.heap (s:={ s0 with heap:=h1 }) fun b o hb q=>by
    have hne:b≠D:=by
      rcases hb with hb | hb
      · rw [hS0] at hb; exact Nat.ne_of_lt (Nat.lt_of_lt_of_le hb hDn)
      · intro e
        exact hb (I.hok.fresh (by rw [hS0,e]; exact hDn))
    exact Heap.get?_push_of_some _ (Heap.get?_push_of_some _ ((Heap.get?_update_other _ _ (Ne.symm hne)).trans q))
  generalize ((h1.update D (Obj.mapSeq fun _=>#[])).push (seqObj "tuple" its.toArray 0)).push (seqObj "list" #[] 0)=h2 at hK hDo am1 ⊢;generalize hkS:n0+3=kS at hK ⊢;have hKn:n0≤kS:=by rw [← hkS]; omega
  have hDK:D≠kS:=by rw [← hD,← hkS]; exact Nat.ne_of_lt (by omega)
  have nfr:∀ {c:Addr},n0≤c→c∉frs X.stack:=fun {c} hc hb=>by
    rcases List.mem_cons.mp (I.stkSub c hb) with e | hb
    · have:=I.lt
      rw [← e,hS0] at this;exact absurd this (Nat.not_lt.mpr hc)
    · exact I.nofs (by rw [hS0]; exact hc) hb
  unfold ksk_rest;refine wpAny_bind (wpAny_rule ?_);have roomK:b7 k X.A.in1.in1:=(hr.mono (by omega:k+2≤k+3)).in1.in1;rw [← Array.forIn_toList,List.toList_toArray];refine wpAny_bind (ksk_fold (I:=fun i s=>∃ (H1:Hp) (ks:List Value) (kvs:List V) (c:Nat),fg X H s0 H1 s∧ah H H1∧s.heap.get? D=some (seqObj "list" #[] e1)∧H1 D=none∧s.heap.get? kS=some (seqObj "list" ks.toArray c)∧H1 kS=none∧Vals kvs ks∧ks.length=i∧∀ (j:Nat) v u,kvs[j]?=some u→xs[j]?=some v→PtV H1 u (g v))
    its 0 _ ⟨H,[],[],0,am1,ah.refl _,hDo,I.hok.fresh (by rw [hS0]; exact hDn),hK,I.hok.fresh (by rw [hS0]; exact hKn),.nil,rfl,fun j v u e=>by simp at e⟩ ?_ ?_)
  · rintro j x s hx ⟨H1,ks,kvs,c,am,sm,qD,nD,qK,nK,vk,lk,pk⟩
    have hxv:xs[j]?=some (toV x):=by rw [← em,List.getElem?_map,hx]; rfl
    obtain ⟨b,rfl⟩:=hri x (List.mem_of_getElem? hx);have jlt:j<its.length:=(List.getElem?_eq_some_iff.mp hx).1;refine wpAny_bind (wpAny_attempt (am.call (vs:=[.ref b]) I F roomK rfl hb (.cons rfl .nil) (hkey (.ref b) (List.mem_of_getElem? hxv) H1 (fun v H2=>ah H1 H2∧PtV H2 v (g (.ref b))) sm fun u H2 s2 p2=>⟨s2,p2⟩) fun v u H2 s2 am2 ru q2 kp=>?_));obtain ⟨s12,p2⟩:=q2;obtain ⟨qD2,nD2⟩:=kp D _ qD nD (nfr hDn);obtain ⟨qK2,nK2⟩:=kp kS _ qK nK (nfr hKn);dsimp only;refine wpAny_bind (listUpdate_at qK2 rfl ?_ (by rw [List.size_toArray]; omega) (by rw [Array.size_push,List.size_toArray]; omega));have qK3:=get?_update_seq qK2 (fun x=>x.push u);refine wpAny_pure ⟨rfl,H2,ks++[u],kvs++[v],_,am2.heap fun b o hb q=>?_,sm.trans s12,?_,nD2,by rw [qK3]; congr 2; simp,nK2,tI vk ru,by rw [List.length_append,List.length_singleton]; omega,fun i v' u' hu hv'=>?_⟩
    · have hne:b≠kS:=by
        rcases hb with hb | hb
        · rw [hS0] at hb; exact Nat.ne_of_lt (Nat.lt_of_lt_of_le hb hKn)
        · intro e; rw [e] at hb; exact hb nK2
      exact (Heap.get?_update_other _ _ (Ne.symm hne)).trans q
    · exact (Heap.get?_update_other _ _ (Ne.symm hDK)).trans qD2
    · have lkv:kvs.length=ks.length:=vk.length
      by_cases hi:i<kvs.length
      · rw [List.getElem?_append_left hi] at hu
        exact (pk i v' u' hu hv').mono s12
      · rw [List.getElem?_append_right (by omega)] at hu
        have hh:=(List.getElem?_eq_some_iff.mp hu).1;rw [List.length_singleton] at hh;have:i=j:=by omega
        subst this;rw [show i - kvs.length=0 by omega] at hu;simp only [List.getElem?_cons_zero,Option.some.injEq] at hu;rw [hxv] at hv'
        cases hv';rw [← hu];exact p2
  · rintro s ⟨H1,ks,kvs,c,am,sm,qD,nD,qK,nK,vk,lk,pk⟩
    have lk:ks.length=its.length:=by omega
    refine wpAny_bind (listItems_at qK rfl ?_);unfold ksk_end;dsimp only;rw [if_neg (by decide)];have J:=am.inv I
    -- each key and its item
    have hpair:∀ p∈ks.zip its,Ts.bw s.heap p.1 (g (toV p.2))∧p.2∈its:=by
      intro p hp;obtain ⟨i,hi⟩:=List.mem_iff_getElem?.mp hp;have hz2:=List.getElem?_zip_eq_some.mp hi;have hk1:i<kvs.length:=by rw [vk.length]; exact (List.getElem?_eq_some_iff.mp hz2.1).1
      obtain ⟨u,hu,ru⟩:=vk.get (List.getElem?_eq_getElem hk1);rw [hz2.1] at hu
      cases hu;have hx:xs[i]?=some (toV p.2):=by rw [← em,List.getElem?_map,hz2.2]; rfl
      exact ⟨dQ J (pk i _ _ (List.getElem?_eq_getElem hk1) hx) ru,List.mem_of_getElem? hz2.2⟩
    have fin:∀ (st:SortSt),(arrOf st).toList.Perm (ks.zip its)→failedOf st=none→(arrOf st).toList.Pairwise (Ts.Le fun x y=>Ts.plt (g (toV x.2)) (g (toV y.2))) →
        wpAny (model X.prog X.w) X.A.in1.in1 (ksk_tail D false e1 (.ref kS) st) (fun fin s'=>∃ v,fin=Fin.done (Flow.ret v)∧wpAny (model X.prog X.w) X.A.in1 (ret (Value.ref D)) (fun fin s'=>∃ v,fin=Fin.done (Flow.ret v)∧EP X pins σ Q v s') X.xe s') X.xe s:=by
      intro st hp hf hw;unfold ksk_tail;dsimp only;have lst:(arrOf st).size=its.length:=by rw [← Array.length_toList,hp.length_eq,List.length_zip,lk,Nat.min_self]
      refine wpAny_bind (listUpdate_at qK rfl ?_ (by rw [List.size_toArray]; omega) (Nat.zero_le _));refine wpAny_bind (wpAny_letGo ?_);have qD2:(s.heap.update kS (Obj.mapSeq fun _=>#[])).get? D=some (seqObj "list" #[] e1):=(Heap.get?_update_other _ _ (Ne.symm hDK)).trans qD;refine wpAny_bind (seqEpoch_at qD2 rfl ?_);refine wpAny_bind (listUpdate_at qD2 rfl ?_ (by simp) (by rw [if_neg (by decide),Array.size_map,lst]; omega));rw [hf];simp only [bne_self_eq_false,Bool.false_eq_true,if_false];refine wpAny_pure ⟨_,rfl,?_⟩;have am2:fg X H s0 H1 { s with heap:=(s.heap.update kS (Obj.mapSeq fun _=>#[])).update D (Obj.mapSeq fun _=>(arrOf st).map (·.2)) }:=am.heap fun b o hb q=>by
        have n1:b≠kS:=by
          rcases hb with hb | hb
          · rw [hS0] at hb; exact Nat.ne_of_lt (Nat.lt_of_lt_of_le hb hKn)
          · intro e; rw [e] at hb; exact hb nK
        have n2:b≠D:=by
          rcases hb with hb | hb
          · rw [hS0] at hb; exact Nat.ne_of_lt (Nat.lt_of_lt_of_le hb hDn)
          · intro e; rw [e] at hb; exact hb nD
        exact (Heap.get?_update_other _ _ (Ne.symm n2)).trans ((Heap.get?_update_other _ _ (Ne.symm n1)).trans q)
      have qD3:=get?_update_seq qD2 (fun _=>(arrOf st).map (·.2))
      have pm:((arrOf st).toList.map (·.2)).Perm its:=by
        have:=hp.map Prod.snd
        rw [List.map_snd_zip (by omega)] at this;exact this
      have am3:=am2.track (o:=.lst (((arrOf st).toList.map (·.2)).map toV)) (c:=D) (by rw [hS0]; exact hDn) nD I ⟨by rw [List.length_map,pm.length_eq]; exact hz',(arrOf st).toList.map (·.2),_,iM fun u hu=>hri u (pm.mem_iff.mp hu),by rw [qD3]; congr 2; rw [← Array.toList_map,Array.toArray_toList]⟩;refine wpAny_pure ⟨_,rfl,.ref D,_,am3.inv I,rfl,?_⟩;have nH:H D=none:=I.hok.fresh (by rw [hS0]; exact hDn);refine hend D _ _ (sm.later nH) nH ag (by rw [← em]; exact pm.map toV) ?_;rw [List.map_map,List.pairwise_map];exact hw.imp fun {x y} hxy=>Ts.cE.mp hxy
    have zsz:(ks.toArray.zip its.toArray).toList=ks.zip its:=by simp
    by_cases h2:its.toArray.size<2
    · rw [if_pos h2,if_pos h2]
      refine wpAny_bind (wpAny_pure ?_);rw [StateT.run_pure];refine wpAny_bind (wpAny_pure ?_);dsimp only;refine fin _ (by show (ks.toArray.zip its.toArray).toList.Perm _; rw [zsz]) rfl ?_
      show (ks.toArray.zip its.toArray).toList.Pairwise _
      rw [zsz];rw [List.size_toArray] at h2
      match ks,its,lk,h2 with
      | [],[],_,_=>exact List.Pairwise.nil
      | [k],[v],_,_=>exact List.pairwise_singleton _ _
      | k1::k2::ks,v1::v2::its,_,h2=>simp at h2; omega
    · rw [if_neg h2,if_neg h2]
      rw [List.size_toArray] at h2
      have hks:∀ u∈ks,∃ p,Ts.bw s.heap u p:=by
        intro u hu;obtain ⟨i,hi⟩:=List.mem_iff_getElem?.mp hu;have hlt:=(List.getElem?_eq_some_iff.mp hi).1;exact ⟨_,(hpair (u,its[i]) (List.mem_iff_getElem?.mpr ⟨i,List.getElem?_zip_eq_some.mpr ⟨hi,List.getElem?_eq_getElem (by omega)⟩⟩)).1⟩
      classical
      refine wpAny_bind (ur ks (fun u=>if hu:∃ p,Ts.bw s.heap u p then hu.choose else (0,0)) (fun u hu=>by rw [dif_pos (hks u hu)]; exact (hks u hu).choose_spec) (by omega) rfl ?_);have asks:Ts.iw (model X.prog X.w) X.A.in1.in1 X.xe s (tuples' true) (fun x=>x∈ks.zip its) (fun x y=>Ts.plt (g (toV x.2)) (g (toV y.2))):=Ts.lJ fun x y hx hy Q' E' q=>Ts.oh (hpair x hx).1 (hpair y hy).1 q;refine wpAny_bind (wpAny_mono (Ts.oY (E:=X.xe) (s:=s) (A:=X.A.in1.in1) (Ts.xf fun x=>g (toV x.2)) asks (st:=SortSt.mk' (tuples' true) (ks.toArray.zip its.toArray) #[] 7 none)
        (Q:=fun _ st'=>(arrOf st').Perm (ks.toArray.zip its.toArray)∧failedOf st'=none∧(arrOf st').toList.Pairwise (Ts.Le fun x y=>Ts.plt (g (toV x.2)) (g (toV y.2)))) rfl rfl rfl (fun x hx=>by rw [← zsz]; exact hx) fun st' a1 a2 a3=>⟨a1,a2,a3⟩) ?_ fun _ _ e=>e)
      rintro ⟨⟨⟩,st'⟩ s' ⟨rfl,hp,hf,hs⟩;dsimp only;exact fin st' (by rw [← zsz]; exact Array.perm_iff_toList_perm.mp hp) hf hs
noncomputable def wm (K:W.Frag) (sp:Sp) (te:TE):TE:=fun σ H Q=>te σ H fun x H1=>pY K sp x H1 Q
theorem uW {e:Expr} {te:TE} {x:Str} {p pk kp pos:Pos} {k:Nat} {f:Addr} {fd:FuncData} {ps:List Str} {sp:Sp} (K:W.Frag) (hK:X.K=K) (F:a7 X.prog X.w X.K X.mg X.base CX0 k f fd ps sp) (hr:b7 (k+3) X.A) (hg:Gl X "sorted") (hm:X.mg "sorted"=none) (hgx:Gl X x) (hmx:X.mg x=some (.ref f)) (hb:aL X.K fd ps []) (ha:PE X e te)
  (hd:(x==("__debug__":Str))=false:=by decide) (he:backTo pos (starEach [e] X.env)=(false,eval e X.env)::backTo pos (starEach [] X.env):=by rfl) (hpl:(backTo pos (starEach [e] X.env)).any (·.1)=false:=by rfl):PE X (.Call (.Name "sorted" p) [e] [⟨some "key",.Name x pk,kp⟩] pos) (wm K sp te):=by
 subst hK;intro pins s σ H Q I h;refine wpAny_Call_Name_kw (d9 I hg hm (by rfl) ?_ (by decide) (by decide));refine callWith_kw ?_ he hpl;rw [he];refine Calls.spliced_cons (thn (ha pins s σ H _ I h) fun v s1 ⟨y,H1,I1,r1,q1⟩=>Calls.spliced_nil ?_);refine kws_cons (gT I1 hgx hmx ?_ hd);refine kws_nil ?_;exact sX F hr hb I1 r1 q1
theorem sS {K:W.Frag} {sp:Sp} {te:TE} {σ:St} {H:Hp} {Q:VK} (h:te σ H fun x H1=>pY K sp x H1 Q):wm K sp te σ H Q:=h
end
end L2
namespace Sm
section
variable {nb:Pnt→List Pnt}
theorem uh:∀ {a b:Pnt} {l:List Pnt},b∈nb a→Go nb a b l→∀ (i:Nat) (p q:Pnt),(a::b::l)[i]?=some p→(a::b::l)[i+1]?=some q→q∈nb p
 | a,b,l,hb,_,0,p,q,hp,hq=>by
  simp only [List.getElem?_cons_zero,List.getElem?_cons_succ,Option.some.injEq] at hp hq;rw [← hp,← hq]; exact hb
 | a,b,[],_,_,i+1,p,q,_,hq=>by simp at hq
 | a,b,c::l,_,g,i+1,p,q,hp,hq=>by
  rw [List.getElem?_cons_succ] at hp hq;exact uh (gS g).1 g.2 i p q hp hq
noncomputable def bef (L:List Pnt) (i:Nat):Nat:=if i=0 then L.length - 1 else i - 1
theorem cy.len {f:Bool} {L:List Pnt} (h:cy nb f L):2≤L.length:=by
 obtain ⟨a,b,l,e,_⟩:=h.path;rw [e,List.length_cons,List.length_cons]; omega
theorem cy.nd {f:Bool} {L:List Pnt} (h:cy nb f L):L.Nodup:=by
 obtain ⟨a,b,l,e,_,_,n⟩:=h.path;exact n
theorem je {a b:Pnt} {l:List Pnt}:(a::b::l)[(a::b::l).length - 1]?=some (fin a b l).2:=by rw [← List.getLast?_eq_getElem?]; exact gO a b l
theorem cy.step (G:Gr nb) {f:Bool} {L:List Pnt} (h:cy nb f L) {i:Nat} (hi:i<L.length) (h0:i≠0∨f=true):∃ p q,L[bef L i]?=some p∧L[i]?=some q∧q∈nb p:=by
 by_cases hz:i=0
 ·have hf:f=true:=h0.resolve_left fun z=>z hz;obtain ⟨a,b,l,rfl,o,_⟩:=h.rd hf;refine ⟨(fin a b l).2,a,?_,by rw [hz]; rfl,G.sym (o.last G).1⟩;unfold bef;rw [if_pos hz]; exact je
 ·obtain ⟨a,b,l,rfl,hb,g,_⟩:=h.path;have h1:i - 1<(a::b::l).length:=by omega
  refine ⟨_,_,?_,List.getElem?_eq_getElem hi,uh hb g (i - 1) _ _ (List.getElem?_eq_getElem h1) ?_⟩
  ·unfold bef; rw [if_neg hz]; exact List.getElem?_eq_getElem h1
  ·rw [show i - 1+1=i by omega]; exact List.getElem?_eq_getElem hi
theorem cy.turn (G:Gr nb) {f:Bool} {L:List Pnt} (h:cy nb f L) {i:Nat} (hi:i+1<L.length) (h0:i≠0∨f=true) {p r:Pnt} (hp:L[bef L i]?=some p) (hr:L[i+1]?=some r):r≠p:=by
 intro e;by_cases hz:i=0
 ·have hf:f=true:=h0.resolve_left fun z=>z hz;obtain ⟨a,b,l,rfl,o,_⟩:=h.rd hf;unfold bef at hp;rw [if_pos hz,je] at hp;subst hz;rw [Nat.zero_add,List.getElem?_cons_succ,List.getElem?_cons_zero] at hr;have h1:=Option.some.inj hp;have h2:=Option.some.inj hr;exact (o.last G).2 (by rw [h1,h2,e])
 ·unfold bef at hp;rw [if_neg hz] at hp;have:=(List.getElem?_inj (i:=i - 1) (j:=i+1) (by omega) h.nd).mp (by rw [hp,hr,e])
  omega
end
end Sm
namespace Sm
variable {nb:Pnt→List Pnt}
theorem uM {a x y:Pnt} (h:(nb a).length=1) (hx:x∈nb a) (hy:y∈nb a):x=y:=by
 match e:nb a,h with
 | [c],_ =>
  rw [e] at hx hy;rw [List.mem_singleton.mp hx,List.mem_singleton.mp hy]
theorem cy.ends (G:Gr nb) {L:List Pnt} (h:cy nb false L) {k:Nat} {p:Pnt} (hp:L[k]?=some p) (hk:k=0∨k+1=L.length):(nb p).length=1:=by
 obtain ⟨a,b,l,rfl,o,_⟩:=h.op rfl;rcases hk with rfl | hk
 ·rw [List.getElem?_cons_zero] at hp
  cases hp;exact o.one
 ·have e:k=(a::b::l).length - 1:=by omega
  rw [e,je] at hp
  cases hp;rw [o.lastOne G]; rfl
theorem cy.near (G:Gr nb) {f:Bool} {L:List Pnt} (h:cy nb f L) {p q:Pnt} (hp:p∈L) (hq:q∈nb p) :
  ∃ i,i<L.length∧(i≠0∨f=true)∧((L[bef L i]?=some p∧L[i]?=some q)∨(L[bef L i]?=some q∧L[i]?=some p)):=by
 obtain ⟨k,hk⟩:=List.getElem?_of_mem hp;have kl:k<L.length:=(List.getElem?_eq_some_iff.mp hk).1;have l2:=h.len
 -- the step to p,the step from p
 have A:(k≠0∨f=true)→∃ p',L[bef L k]?=some p'∧p'∈nb p:=fun c=>by
  obtain ⟨p',q',h1,h2,h3⟩:=h.step G kl c;rw [hk] at h2; cases h2;exact ⟨p',h1,G.sym h3⟩
 have B:k+1<L.length→∃ r,L[k+1]?=some r∧r∈nb p∧bef L (k+1)=k:=fun c=>by
  obtain ⟨p',q',h1,h2,h3⟩:=h.step G c (.inl (by omega));have e:bef L (k+1)=k:=by unfold bef; rw [if_neg (by omega)]; omega
  rw [e,hk] at h1; cases h1;exact ⟨q',h2,h3,e⟩
 have B0:k+1=L.length→f=true→∃ r,L[0]?=some r∧r∈nb p∧bef L 0=k:=fun c hf=>by
  obtain ⟨p',q',h1,h2,h3⟩:=h.step G (i:=0) (by omega) (.inr hf);have e:bef L 0=k:=by unfold bef; rw [if_pos rfl]; omega
  rw [e,hk] at h1; cases h1;exact ⟨q',h2,h3,e⟩
 by_cases c1:k≠0∨f=true
 ·obtain ⟨p',hp',np'⟩:=A c1;by_cases e1:q=p'
  ·subst e1;exact ⟨k,kl,c1,.inr ⟨hp',hk⟩⟩
  ·by_cases c2:k+1<L.length
   ·obtain ⟨r,hr,nr,eb⟩:=B c2;have ne:r≠p':=h.turn G c2 c1 hp' hr;have:q=r:=(two_of G nr np' hq ne).resolve_right e1
    subst this;exact ⟨k+1,c2,.inl (by omega),.inl ⟨by rw [eb]; exact hk,hr⟩⟩
   ·have c3:k+1=L.length:=by omega
    cases f with
    | true =>
     obtain ⟨r,hr,nr,eb⟩:=B0 c3 rfl;have ne:r≠p':=fun z=>by
      obtain ⟨a,b,l,rfl,o,_⟩:=h.rd rfl;have k0:k≠0:=by omega
      unfold bef at hp';rw [if_neg k0] at hp';have:=(List.getElem?_inj (i:=0) (j:=k - 1) (by omega) h.nd).mp (by rw [hr,hp',z])
      have k1:k=1:=by omega
      subst k1;have e:=je (a:=a) (b:=b) (l:=l);rw [show (a::b::l).length - 1=1 by omega] at e;rw [List.getElem?_cons_succ,List.getElem?_cons_zero] at e;exact (o.last G).2 (Option.some.inj e).symm
     have:q=r:=(two_of G nr np' hq ne).resolve_right e1
     subst this;exact ⟨0,by omega,.inr rfl,.inl ⟨by rw [eb]; exact hk,hr⟩⟩
    | false=>exact absurd (uM (h.ends G hk (.inr c3)) hq np') e1
 ·have k0:k=0:=Classical.byContradiction fun z=>c1 (.inl z);have hf:f=false:=by cases f with | true=>exact absurd (.inr rfl) c1 | false=>rfl
  subst hf;obtain ⟨r,hr,nr,eb⟩:=B (by omega);have:q=r:=uM (h.ends G hk (.inl k0)) hq nr
  subst this;exact ⟨k+1,by omega,.inl (by omega),.inl ⟨by rw [eb]; exact hk,hr⟩⟩
end Sm
namespace L2
open PySem PySem.Spec PyProof.Rows PySem.W
section
variable {X:Cx} (K:W.Frag) (hK:X.K=K) (hc:X.calm=true)
include hK hc
end
end L2
namespace NR
noncomputable def Ce (n m:Nat) (F:Int×Int→Int):Int:=sm n fun x=>sm m fun y=>F ((x:Int),(y:Int))
end NR
namespace Sm
end Sm
namespace L2
open PySem PySem.Spec PyProof.Rows PySem.W
end L2
namespace Sm
theorem lZ {α:Type} [DecidableEq α] {c:α→Bool} {le:α→α→Prop} {L L':List α} (n:L.Nodup) (n':L'.Nodup) (p:L.Pairwise le) (p':L'.Pairwise le) (as:∀ a∈L,∀ b∈L,le a b→le b a→a=b)
  (h:∀ e,c e=true→(e∈L↔e∈L')):L.filter c=L'.filter c:=by
 have pm:(L.filter c).Perm (L'.filter c):=by
  rw [List.perm_ext_iff_of_nodup (n.filter c) (n'.filter c)];intro e;rw [List.mem_filter,List.mem_filter];exact ⟨fun ⟨h1,h2⟩=>⟨(h e h2).mp h1,h2⟩,fun ⟨h1,h2⟩=>⟨(h e h2).mpr h1,h2⟩⟩
 exact pm.eq_of_pairwise (fun a b ha hb h1 h2=>as a (List.mem_filter.mp ha |>.1) b (List.mem_filter.mp (pm.mem_iff.mpr hb) |>.1) h1 h2) (p.filter c) (p'.filter c)
end Sm
namespace L2
open PySem PySem.Spec PyProof.Rows
end L2
namespace L2
open PySem PySem.Spec PyProof.Rows PySem.W
theorem uw {κ:Type}:∀ {kvs:List (κ×V)} {vs:List (κ×Value)} {i:Nat} {k:κ} {u:Value},KV kvs vs→vs[i]?=some (k,u)→∃ x,kvs[i]?=some (k,x)∧aQ x u
 | _,_,_,_,_,.nil,e=>by simp at e
 | _,_,0,k,u,.cons (a:=p) r t,e=>by
  (simp only [List.getElem?_cons_zero,Option.some.injEq] at e; subst e)
  exact ⟨p.2,congrArg some (Prod.ext r.1 rfl),r.2⟩
 | _,_,i+1,k,u,.cons r t,e=>by
  obtain ⟨x,h1,h2⟩:=uw (i:=i) t (by simpa using e);exact ⟨x,by simpa using h1,h2⟩
noncomputable def we (tk tv:TE):TE:=fun σ H Q=>∀ p,H p=none→tk σ (upd H p (.dT [])) fun x H1=>tv σ H1 fun y H2=>∃ b ks z,[(x,y)]=[(V.ref b,z)]∧H2 b=some (.tup (ks.map kV))∧H2 p=some (.dT [])∧Q (.ref p) (upd H2 p (.dT [(ks,z)]))
theorem uT {X:Cx} {pos:Pos} {k v:Expr} {tk tv:TE} (hu:X.A.units+1<cLine) (hk:PE X k tk) (hv:PE X v tv):PE X (.Dict [some k] [v] pos) (we tk tv):=by
 intro pins s σ H Q I q;have hn:=I.hok.fresh (Nat.le_refl s.heap.objs.size);have I1:=I.laid (a:=s.heap.objs.size) (o:=.dT []) (h':=s.heap.push { cls:=.type "dict",data:=.dict #[] }) (t':=s.toks) (fun _ _ q=>Heap.get?_push_of_some _ q) (Nat.le_refl _) (nG s.heap I.big);have pp:=u6 (pos:=pos) hk hv xy pins _ σ _ (fun ps H2=>∃ b ks y,ps=[(.ref b,y)]∧H2 b=some (.tup (ks.map kV))∧H2 s.heap.objs.size=some (.dT [])∧Q (.ref s.heap.objs.size) (upd H2 s.heap.objs.size (.dT [(ks,y)]))) I1;refine wpAny_Dict_any rfl rfl (fun z=>nomatch z) (Nat.le_add_left 1 14) (thn (pp ?_) fun ws s2 ⟨ps,H2,I2,rel,b,ks,y,ep,eb,ed,q2⟩=>?_)
 ·exact q _ hn
 ·subst ep
  cases rel with
  | @cons _ u _ _ r t =>
   cases t;obtain ⟨u1,u2⟩:=u;obtain ⟨r1,r2⟩:=r
   cases (show u1=Value.ref b from r1)
   obtain ⟨z,lo,xs,rl,dd⟩:=yG I2.hok ed
   cases rl;have hu':(tupleKind (a8 X.prog X.w)).room X.A:=(by show X.A.units<cLine; omega)
   unfold storeAll;rw [List.forIn_cons];refine wpAny_bind (wpAny_bind (wpAny_dictSet_heap (hsz:=Nat.zero_le _) hu' (eW I2.hok eb) dd fun h' dd' hs=>wpAny_pure ?_));dsimp only;rw [List.forIn_nil];refine wpAny_pure ?_;obtain ⟨q',es,ep,hq,h2',h3,h4,_,h5⟩:=dd';refine ⟨.ref s.heap.objs.size,_,i6 (ob:=.dT [(ks,y)]) I2 (by rw [ed]; exact True.intro) hs ⟨q',hq⟩ ⟨by show 1≤sizeLine; decide,lo,storedH [] ks b u2,?_,q',es,ep,hq,h2',h3,h4,h5⟩,rfl,q2⟩;exact .cons ⟨rfl,(aj (cm eb ed (fun z=>nomatch z))).trans eb,r2⟩ .nil
theorem vo {tk tv:TE} {σ:St} {H:Hp} {Q:VK} (h:∀ p,H p=none→tk σ (upd H p (.dT [])) fun x H1=>tv σ H1 fun y H2=>∃ b ks z,[(x,y)]=[(V.ref b,z)]∧H2 b=some (.tup (ks.map kV))∧H2 p=some (.dT [])∧Q (.ref p) (upd H2 p (.dT [(ks,z)]))):we tk tv σ H Q:=h
end L2
namespace Fm
noncomputable abbrev jt:=List L2.Key
noncomputable abbrev Tie:=jt×jt×Int
inductive Con (F:List Tie):jt→jt→Prop
 | refl (a:jt):Con F a a
 | fwd {a b c:jt} {w:Int}:Con F a b→(b,c,w)∈F→Con F a c
 | bwd {a b c:jt} {w:Int}:Con F a b→(c,b,w)∈F→Con F a c
end Fm
namespace L2
open PySem PySem.Spec PyProof.Rows PySem.W
noncomputable def yR (x y:V) (H:Hp) (Q:VK):Prop:=∃ a v,x=.ref a∧dG H a y (some v)∧Q v H
theorem xJ {td ty:TE} {σ:St} {H:Hp} {Q:VK} (h:td σ H fun x H1=>ty σ H1 fun y H2=>yR x y H2 Q):za td ty σ H Q:=h
theorem oy {H:Hp} {Q:VK} {a b:Addr} {kvs:List (List Key×V)} {k:List Key} {v:V} (hd:H a=some (.dT kvs)) (hb:H b=some (.tup (k.map kV))) (e:bp kvs k=some v) (q:Q v H):yR (.ref a) (.ref b) H Q :=
 ⟨a,v,rfl,e ▸ dG.t hd hb,q⟩
theorem vp {σ:St} {H:Hp} {Q:VK} (h:∀ p,H p=none→Q (.ref p) (upd H p (.dK []))):wb σ H Q:=h
noncomputable def Bo (x:V) (H:Hp) (q:Addr→Prop):Prop:=∃ a,x=.ref a∧IsD H a∧q a
theorem xP {H:Hp} {a:Addr} {kvs:List (Key×V)} {q:Addr→Prop} (h:H a=some (.dK kvs)) (k:q a):Bo (.ref a) H q:=⟨a,rfl,.inl ⟨kvs,.inl h⟩,k⟩
theorem vm {td ty tx:TE} {σ:St} {H:Hp} {Q:VK} (h:td σ H fun x H1=>Bo x H1 fun a=>ty σ H1 fun y H2=>tx σ H2 fun z H3=>∃ o,dG H3 a y o∧Q (o.getD z) H3):v9 td ty tx σ H Q:=h
noncomputable def sx (i:Int):List Key:=[.inr "x",.inl i]
noncomputable def sy (i:Int):List Key:=[.inr "y",.inl i]
theorem la {κ:Type} [DecidableEq κ] {kvs:List (κ×V)} {k:κ} {v:V} (h:k∈kvs.map (·.1)):(b9 kvs k v).map (·.1)=kvs.map (·.1):=by
 unfold b9;have:(kvs.any fun kv=>decide (kv.1=k))=true:=by
  obtain ⟨p,hp,e⟩:=List.mem_map.mp h;exact List.any_eq_true.mpr ⟨p,hp,decide_eq_true e⟩
 rw [if_pos this,List.map_map];apply List.map_congr_left;intro p _;by_cases e:p.1=k<;>simp [e]
theorem ka {κ:Type} [DecidableEq κ] {kvs:List (κ×V)} {k:κ}:(bp kvs k).isSome=true↔k∈kvs.map (·.1):=by
 rw [← dh,List.any_eq_true];constructor
 ·rintro ⟨p,hp,e⟩; exact List.mem_map.mpr ⟨p,hp,of_decide_eq_true e⟩
 ·intro h;obtain ⟨p,hp,e⟩:=List.mem_map.mp h;exact ⟨p,hp,decide_eq_true e⟩
end L2
namespace L2
open PySem PySem.Spec PyProof.Rows
end L2
namespace L2
open PySem PySem.Spec PyProof.Rows PySem.W
noncomputable def wC (P:Program) (w:World) (d:Addr) (kvs:List (Key×V)) (vs:List (Key×Value)) (ep:Nat) (h:Heap):Prop:=kvs.length≤sizeLine∧(d==sysModules)=false∧KV kvs vs∧h.DictAt (a8 P w) d vs ep
noncomputable def FzO (P:Program) (w:World) (d:Addr) (kvs:List (Key×V)) (vs:List (Key×Value)) (ep:Nat):HO:=.ext (wC P w d kvs vs ep)
noncomputable def wD (P:Program) (w:World) (d:Addr) (kvs:List (Key×V)) (F:HO):Prop:=∃ vs ep,F=FzO P w d kvs vs ep
section
variable {X:Cx} {pins:List (Addr×Obj)} {σ:St} {H:Hp} {s:Shared} {d:Addr} {kvs:List (Key×V)} {vs:List (Key×Value)} {ep:Nat}
theorem Inv.freeze (I:Inv X pins σ H s) (hd:H d=some (.dK kvs)):∃ vs ep,Inv X pins σ (upd H d (FzO X.prog X.w d kvs vs ep)) s∧s.heap.DictAt (a8 X.prog X.w) d vs ep:=by
 obtain ⟨z,lo,vs,rel,dd⟩:=t9 I.hok hd;obtain ⟨ep,at'⟩:=dd.dictAt;obtain ⟨o,es,ho,r⟩:=id at';exact ⟨vs,ep,I.write (e:=d) (t':=s.toks) (h':=s.heap) (by rw [hd]; trivial) (.inl rfl) (fun _ _ _ q=>q) ⟨o,ho⟩ ⟨⟨z,lo,rel,at'⟩,⟨o,ho⟩,fun h1 h2 ⟨a1,a2,a3,a4⟩ k=>⟨a1,a2,a3,a4.at' k⟩⟩,at'⟩
end
noncomputable def ji:V→List V→Hp→VK→Prop:=fun x vs H Q=>∃ (l:Addr) (ns:List Int) (k:Int),x=.ref l∧vs=[.int k]∧H l=some (.lst (ns.map V.int))∧Q (.int (ns.count k:Nat)) H
theorem sD {X:Cx}:MtM X "list.count" ji:=by
 intro pins s σ H x vs v us Q I rx rv h;obtain ⟨l,ns,k,rfl,rfl,hH,q⟩:=h
 cases rx;obtain ⟨u,rfl,ru⟩:=rv.one;obtain ⟨t,rfl⟩:=ru;obtain ⟨z,its,n,r,hl,e⟩:=I.lstM hH;refine count_list_ints ⟨_,e,rfl,n,rfl⟩ (pM r) ?_;exact ⟨.int _,H,I.tok _,⟨_,rfl⟩,q⟩
theorem sO {H:Hp} {Q:VK} {l:Addr} {ns:List Int} {k:Int} (h:H l=some (.lst (ns.map V.int))) (q:Q (.int (ns.count k:Nat)) H):ji (.ref l) [.int k] H Q:=⟨l,ns,k,rfl,rfl,h,q⟩
section
variable {K:W.Frag} {σ:St} {H:Hp} {Q:VK} {te:TE} {tt:TT} {cap:List (Option Nat)} {l:Addr}
theorem nA {a:Addr} {xs:List V} (ys:List V) (hy:ys.length=xs.length) (hs:SqL K H a xs) (hz:xs.length≤1000) (hl:H l=none)
  (step:∀ (i:Nat) x y o H' (Q':VK),xs[i]?=some x→ys[i]?=some y→ah H H'→(∀ H5,ah H' H5→Q' y H5)→te (((dY (none::cap) σ).set 0 o).set 0 (some x)) H' Q')
  (fin:∀ H',ah H H'→H' l=some (.lst ys)→Q (.ref l) H'):gF (Itl K a) (dw 0) j7 te (none::cap) l σ H Q:=by
 refine ⟨xs.length,fun i zs σ' H'=>zs=ys.take i∧(∃ o,σ'=(dY (none::cap) σ).set 0 o)∧ah H H'∧H' l=some (.lst zs),⟨rfl,⟨none,rfl⟩,ah.new hl,ag⟩,?_,?_⟩
 ·rintro i zs σ' H' hi ⟨rfl,⟨o,rfl⟩,s,e⟩;refine ⟨⟨xs,xs[i],s.seq hs,by simp [hi]⟩,fun x H2 y=>?_⟩;obtain ⟨e2,y⟩:=y;subst e2;have hx:=y xs (s.seq hs);have hyi:i<ys.length:=by omega
  refine cV (fW (pN ?_));refine step i x ys[i] o H2 _ hx (List.getElem?_eq_getElem hyi) s fun H5 s5=>⟨s5 _ _ e,?_,?_⟩
  ·rw [List.length_take];exact cx (by omega)
  ·exact ⟨List.take_append_getElem hyi,⟨_,List.set_set ..⟩,(s.trans s5).later hl,ag⟩
 ·rintro zs σ' H' ⟨rfl,_,s,e⟩;rw [List.take_of_length_le (by omega)] at e;exact ⟨⟨xs,s.seq hs,Nat.le_refl _⟩,fin H' s e⟩
theorem lU {n:Nat} (p:Nat→Bool) (R:Nat→V→Hp→Prop) (hz:n≤1000) (hl:H l=none) (mono:∀ i v H1 H2,SameBut l H1 H2→R i v H1→R i v H2)
  (test:∀ i o H' (Q':Bool→Hp→Prop),i<n→ah H H'→(∀ H5,ah H' H5→Q' (p i) H5)→tt (((dY (none::cap) σ).set 0 o).set 0 (some (.int ((0:Int)+(i:Nat))))) H' Q')
  (step:∀ i o H' (Q':VK),i<n→p i=true→ah H H'→(∃ ys,H' l=some (.lst ys))→(∀ v H5,ah H' H5→R i v H5→Q' v H5)→te (((dY (none::cap) σ).set 0 o).set 0 (some (.int ((0:Int)+(i:Nat))))) H' Q')
  (fin:∀ ys H',ah H H'→H' l=some (.lst ys)→ys.length=((List.range n).filter p).length→(∀ (j:Nat) v,ys[j]?=some v→∃ m,((List.range n).filter p)[j]?=some m∧R m v H')→Q (.ref l) H'):gF (Itr 0 n) (dw 0) tt te (none::cap) l σ H Q:=by
 refine ⟨n,fun i ys σ' H'=>(ys.length=((List.range i).filter p).length∧∀ (j:Nat) v,ys[j]?=some v→∃ m,((List.range i).filter p)[j]?=some m∧R m v H')∧(∃ o,σ'=(dY (none::cap) σ).set 0 o)∧ah H H'∧H' l=some (.lst ys),⟨⟨rfl,fun j v e=>by simp at e⟩,⟨none,rfl⟩,ah.new hl,ag⟩,?_,?_⟩
 ·rintro i ys σ' H' hi ⟨⟨ly,hR⟩,⟨o,rfl⟩,s,e⟩;refine ⟨hi,fun x H2 y=>?_⟩;obtain ⟨e2,rfl⟩:=y;subst e2;have fl:((List.range i).filter p).length≤i:=Nat.le_trans (List.length_filter_le _ _) (by rw [List.length_range]; exact Nat.le_refl _)
  have rs:(List.range (i+1)).filter p=(List.range i).filter p++(if p i=true then [i] else []):=by
   rw [List.range_succ,List.filter_append]
   congr 1
   cases hp:p i<;>simp [hp]
  refine cV (test i o H2 _ hi s fun H5 s5=>?_);by_cases hp:p i=true
  ·rw [if_pos hp];rw [if_pos hp] at rs;refine step i o H5 _ hi hp (s.trans s5) ⟨ys,s5 _ _ e⟩ fun v H6 s6 r=>⟨s6 _ _ (s5 _ _ e),cx (by omega),?_⟩
   have sb:SameBut l H6 (upd H6 l (.lst (ys++[v]))):=fun b u eb hb=>by rw [aj hb]; exact eb
   refine ⟨⟨by rw [rs,List.length_append,List.length_append,ly]; rfl,fun j u ej=>?_⟩,⟨_,List.set_set ..⟩,((s.trans s5).trans s6).later hl,ag⟩;rw [rs];by_cases hj:j<ys.length
   ·rw [List.getElem?_append_left hj] at ej;obtain ⟨m,hm,q⟩:=hR j u ej;exact ⟨m,by rw [List.getElem?_append_left (by omega)]; exact hm,mono m u _ _ sb (mono m u _ _ ((s5.trans s6).but l) q)⟩
   ·rw [List.getElem?_append_right (by omega)] at ej;have:j - ys.length=0:=by
     have hh:=(List.getElem?_eq_some_iff.mp ej).1;rw [List.length_singleton] at hh;omega
    rw [this] at ej
    cases ej;exact ⟨i,by rw [List.getElem?_append_right (by omega),← ly,this]; rfl,mono i _ _ _ sb r⟩
  ·rw [if_neg hp];rw [if_neg hp,List.append_nil] at rs;refine ⟨⟨by rw [rs]; exact ly,fun j u ej=>?_⟩,⟨_,List.set_set ..⟩,s.trans s5,s5 _ _ e⟩;obtain ⟨m,hm,q⟩:=hR j u ej;exact ⟨m,by rw [rs]; exact hm,mono m u _ _ (s5.but l) q⟩
 ·rintro ys σ' H' ⟨⟨ly,hR⟩,_,s,e⟩;exact ⟨Nat.le_refl _,fin ys H' s e ly hR⟩
end
theorem mx {σ:St} {H:Hp} {ta:TA} {R:It→Hp→Prop} (h:ta σ H fun vs H1=>∃ i j:Int,vs=[.int i,.int j]∧(-(2 ^ 62)≤i∧i<2 ^ 62∧-(2 ^ 62)≤j∧j<2 ^ 62)∧R (Itr i (j - i).toNat) H1):yO ta σ H R:=h
end L2
namespace PySem
end PySem
namespace PyProof.Rows
open PySem PySem.Spec
end PyProof.Rows
namespace PySem
open PySem.Spec PyProof.Rows
end PySem
namespace L2
open PySem PySem.Spec PyProof.Rows PySem.W
end L2
namespace L2
open PySem PySem.Spec PyProof.Rows
section
variable {K:W.Frag} {x qual:Str} {st:Stmt} {f:Addr} {fd:FuncData}
theorem Fun.b1 {p0:Str} (F:Fun K x qual st f fd) (h:∀ (kV doc pm:Value) (an:Option Addr) (cdv ct a0:Value),bindArgs (W.fnOf x qual (da st) (cG st) (ak st) .none kV doc pm an cdv ct) ⟨[a0],[]⟩=pure [(p0,a0)]):aL K fd [p0] [] :=
 F.binds fun kV doc pm an cdv ct us hl=>by obtain ⟨a0,rfl⟩:=B4 hl; exact h kV doc pm an cdv ct a0
theorem Fun.b2 {p0 p1:Str} (F:Fun K x qual st f fd) (h:∀ (kV doc pm:Value) (an:Option Addr) (cdv ct a0 a1:Value),bindArgs (W.fnOf x qual (da st) (cG st) (ak st) .none kV doc pm an cdv ct) ⟨[a0,a1],[]⟩=pure [(p0,a0),(p1,a1)]):aL K fd [p0,p1] [] :=
 F.binds fun kV doc pm an cdv ct us hl=>by obtain ⟨a0,a1,rfl⟩:=B5 hl; exact h kV doc pm an cdv ct a0 a1
theorem Fun.b3 {p0 p1 p2:Str} (F:Fun K x qual st f fd) (h:∀ (kV doc pm:Value) (an:Option Addr) (cdv ct a0 a1 a2:Value),bindArgs (W.fnOf x qual (da st) (cG st) (ak st) .none kV doc pm an cdv ct) ⟨[a0,a1,a2],[]⟩=pure [(p0,a0),(p1,a1),(p2,a2)]):aL K fd [p0,p1,p2] [] :=
 F.binds fun kV doc pm an cdv ct us hl=>by obtain ⟨a0,a1,a2,rfl⟩:=B6 hl; exact h kV doc pm an cdv ct a0 a1 a2
theorem Fun.b4 {p0 p1 p2 p3:Str} (F:Fun K x qual st f fd) (h:∀ (kV doc pm:Value) (an:Option Addr) (cdv ct a0 a1 a2 a3:Value),bindArgs (W.fnOf x qual (da st) (cG st) (ak st) .none kV doc pm an cdv ct) ⟨[a0,a1,a2,a3],[]⟩=pure [(p0,a0),(p1,a1),(p2,a2),(p3,a3)]):aL K fd [p0,p1,p2,p3] [] :=
 F.binds fun kV doc pm an cdv ct us hl=>by obtain ⟨a0,a1,a2,a3,rfl⟩:=B7 hl; exact h kV doc pm an cdv ct a0 a1 a2 a3
theorem Fun.b5 {p0 p1 p2 p3 p4:Str} (F:Fun K x qual st f fd) (h:∀ (kV doc pm:Value) (an:Option Addr) (cdv ct a0 a1 a2 a3 a4:Value),bindArgs (W.fnOf x qual (da st) (cG st) (ak st) .none kV doc pm an cdv ct) ⟨[a0,a1,a2,a3,a4],[]⟩=pure [(p0,a0),(p1,a1),(p2,a2),(p3,a3),(p4,a4)]):aL K fd [p0,p1,p2,p3,p4] [] :=
 F.binds fun kV doc pm an cdv ct us hl=>by obtain ⟨a0,a1,a2,a3,a4,rfl⟩:=B8 hl; exact h kV doc pm an cdv ct a0 a1 a2 a3 a4
theorem Fun.bl {p:Str} (F:Fun K x qual st f fd) (h:∀ (kV doc pm:Value) (an:Option Addr) (cdv ct a:Value),bindArgs (W.fnOf x qual (da st) (cG st) (ak st) .none kV doc pm an cdv ct) ⟨[a],[]⟩=pure [(p,a)]) (s:Shared) (v:Value):BindsTo s fd ⟨[v],[]⟩ [(p,v)]:=by
 obtain ⟨_,_,kV,doc,pm,an,cdv,ct,_,rfl,_,_⟩:=F.ex;exact .of_eq (h kV doc pm an cdv ct v)
end
theorem aw.by {N P:List Str} {sc:Scope} (h1:sc.kind=.function:=by rfl) (h2:sc.isCoroutine=false:=by rfl) (h3:sc.isGenerator=false:=by rfl) (h4:N.Nodup:=by decide +kernel) (h5:N.take P.length=P:=by rfl) (h6:∀ x∈P,sc.names.lookup x=some .local∨sc.names.lookup x=some .cell:=by decide +kernel) (h7:∀ y∈sc.names,y.2≠.free:=by decide +kernel):aw N P sc:=⟨h1,h2,h3,h4,h5,h6,h7⟩
end L2
namespace L2
open PySem PySem.Spec PyProof.Rows PySem.W
theorem rG {κ:Type} [DecidableEq κ]:∀ {kvs:List (κ×V)} {i:Nat} {k:κ} {v:V},(kvs.map (·.1)).Nodup→kvs[i]?=some (k,v)→bp kvs k=some v
 | [],i,k,v,_,h=>by simp at h
 | (k',v')::r,0,k,v,_,h=>by
  simp only [List.getElem?_cons_zero,Option.some.injEq,Prod.mk.injEq] at h;obtain ⟨rfl,rfl⟩:=h;exact bT rfl
 | (k',v')::r,i+1,k,v,nd,h=>by
  rw [List.map_cons,List.nodup_cons] at nd;have h:r[i]?=some (k,v):=by simpa using h
  rw [bS (fun z=>nd.1 (by rw [z]; exact List.mem_map.mpr ⟨_,List.mem_of_getElem? h,rfl⟩))];exact rG nd.2 h
end L2
namespace Wn
noncomputable abbrev Pnt:=Int×Int
noncomputable def gt (M:List Pnt) (k:Nat):Pnt:=M.getD k (0,0)
noncomputable def pv (n k:Nat):Nat:=if k=0 then n - 1 else k - 1
noncomputable def vw (p q:Pnt):Option Pnt:=if p.1=q.1 then some (p.1,if q.2<p.2 then q.2 else p.2) else none
noncomputable def W (M:List Pnt):List Pnt:=(List.range M.length).filterMap fun k=>vw (gt M (pv M.length k)) (gt M k)
noncomputable def rw (M:List Pnt) (y:Int):List Int:=((W M).filter fun p=>decide (p.2=y)).map (·.1)
noncomputable def ins (M:List Pnt) (q:Pnt):Bool:=decide (((rw M q.2).filter fun x=>decide (x≤q.1)).length%2=1)
noncomputable def Adj (p q:Pnt):Prop:=(p.1=q.1∧(q.2=p.2+1∨p.2=q.2+1))∨(p.2=q.2∧(q.1=p.1+1∨p.1=q.1+1))
noncomputable def A0:List Int→Int→Bool
 | a::b::t,x=>(decide (a≤x)&&decide (x<b))||A0 t x
 | _,_=>false
noncomputable def Cd (a b:Int) (y:Int):List Pnt:=(List.range (b - a).toNat).map fun i=>(a+((i:Nat):Int),y)
noncomputable def cl (y:Int):List Int→List Pnt
 | a::b::t=>Cd a b y++cl y t
 | _=>[]
theorem nodup_few {l:List Pnt} (nd:l.Nodup) {n:Nat} (h:∀ q∈l,(0≤q.1∧q.1<(n:Nat))∧0≤q.2∧q.2<(n:Nat)):l.length≤n*n:=by
 have key:∀ (a b:List Pnt),a.Nodup→(∀ x∈a,x∈b)→a.length≤b.length:=by
  intro a
  induction a with
  | nil => intro b _ _; exact Nat.zero_le _
  | cons x a ih =>
   intro b hn hs;rw [List.nodup_cons] at hn;have hx:=hs x List.mem_cons_self;have:=ih (b.erase x) hn.2 fun y hy=>(List.mem_erase_of_ne (show y≠x from fun e=>hn.1 (by rw [← e]; exact hy))).mpr (hs y (List.mem_cons_of_mem _ hy))
   rw [List.length_erase_of_mem hx] at this;have:=List.length_pos_of_mem hx
   rw [List.length_cons];omega
 have:=key l ((List.range n).flatMap fun i=>(List.range n).map fun j=>(((i:Nat):Int),((j:Nat):Int))) nd fun q hq=>by
  obtain ⟨⟨a,b⟩,c,d⟩:=h q hq;exact List.mem_flatMap.mpr ⟨q.1.toNat,List.mem_range.mpr (by omega),List.mem_map.mpr ⟨q.2.toNat,List.mem_range.mpr (by omega),Prod.ext (by show ((q.1.toNat:Nat):Int)=q.1; omega) (by show ((q.2.toNat:Nat):Int)=q.2; omega)⟩⟩
 refine Nat.le_trans this ?_;rw [List.length_flatMap];simp only [List.length_map,List.length_range,List.map_const',List.sum_replicate_nat];exact Nat.le_refl _
end Wn
namespace L2
open PySem PySem.Spec PyProof.Rows PySem.W
noncomputable def k2 (p:Int×Int):List Key:=[.inl p.1,.inl p.2]
end L2
namespace Bf
noncomputable abbrev Pnt:=Int×Int
inductive Walk (nb:Pnt→List Pnt) (a:Pnt):Pnt→Nat→Prop
 | here:Walk nb a a 0
 | on {b c:Pnt} {m:Nat}:Walk nb a b m→c∈nb b→Walk nb a c (m+1)
variable {nb:Pnt→List Pnt} {root:Pnt}
structure St (nb:Pnt→List Pnt) (root:Pnt) (qs:List Pnt) (ps ds:List Nat) (pl:Nat) (dn:List Pnt):Prop where
 hd:qs[0]?=some root
 h0:ds[0]?=some 0
 nd:qs.Nodup
 lp:ps.length=qs.length
 ld:ds.length=qs.length
 par:∀ (j:Nat) c p,0<j→qs[j]?=some c→ps[j]?=some p→p<j∧p≤pl∧∃ c' d,qs[p]?=some c'∧c∈nb c'∧ds[p]?=some d∧ds[j]?=some (d+1)
 mono:∀ (i j:Nat) p q,0<i→i≤j→ps[i]?=some p→ps[j]?=some q→p≤q
 cl:∀ (i:Nat) c d,i<pl→qs[i]?=some c→ds[i]?=some d→∀ c'∈nb c,∃ (j d':Nat),qs[j]?=some c'∧ds[j]?=some d'∧d'≤d+1
 dn:∀ c'∈dn,∀ d,ds[pl]?=some d→∃ (j d':Nat),qs[j]?=some c'∧ds[j]?=some d'∧d'≤d+1
theorem St.start:St nb root [root] [0] [0] 0 [] where
 hd:=rfl
 h0:=rfl
 nd:=by simp
 lp:=rfl
 ld:=rfl
 par:=fun j c p h e=>by cases j with | zero=>omega | succ j=>simp at e
 mono:=fun i j p q h hij e1 e2=>by
  cases i with
  | zero => omega
  | succ i => simp at e1
 cl:=fun i c d h=>absurd h (Nat.not_lt_zero i)
 dn:=fun c h=>by cases h
section
variable {qs:List Pnt} {ps ds:List Nat} {pl:Nat} {dn:List Pnt}
theorem at_snoc {α:Type} {l:List α} {a b:α} {i:Nat} (h:(l++[a])[i]?=some b):(i<l.length∧l[i]?=some b)∨(i=l.length∧a=b):=by
 by_cases hi:i<l.length
 ·rw [List.getElem?_append_left hi] at h;exact .inl ⟨hi,h⟩
 ·rw [List.getElem?_append_right (by omega)] at h
  cases hk:i - l.length with
  | zero =>
   rw [hk] at h;simp only [List.getElem?_cons_zero,Option.some.injEq] at h;exact .inr ⟨by omega,h⟩
  | succ k => rw [hk] at h; simp at h
theorem at_app {α:Type} {l r:List α} {b:α} {i:Nat} (h:l[i]?=some b):(l++r)[i]?=some b:=by
 rw [List.getElem?_append_left (List.getElem?_eq_some_iff.mp h).1]; exact h
theorem at_end {α:Type} {l:List α} {a:α}:(l++[a])[l.length]?=some a:=by simp
theorem St.far (h:St nb root qs ps ds pl dn):∀ (j i:Nat) d d',i≤j→ds[i]?=some d→ds[j]?=some d'→d≤d':=by
 intro j
 induction j using Nat.strongRecOn with
 | ind j ih =>
  intro i d d' hij e1 e2;by_cases hi:i=0
  ·subst hi;rw [h.h0] at e1
   cases e1;exact Nat.zero_le _
  ·have lj:j<qs.length:=by rw [← h.ld]; exact (List.getElem?_eq_some_iff.mp e2).1
   have li:i<qs.length:=by omega
   obtain ⟨b1,b2,c1,d1,q1,q2,q3,q4⟩:=h.par i _ _ (by omega) (List.getElem?_eq_getElem li) (List.getElem?_eq_getElem (show i<ps.length by rw [h.lp]; exact li));obtain ⟨a1,a2,c2,d2,r1,r2,r3,r4⟩:=h.par j _ _ (by omega) (List.getElem?_eq_getElem lj) (List.getElem?_eq_getElem (show j<ps.length by rw [h.lp]; exact lj));rw [e1] at q4;rw [e2] at r4
   cases q4
   cases r4;have m:=h.mono i j _ _ (by omega) hij (List.getElem?_eq_getElem (show i<ps.length by rw [h.lp]; exact li)) (List.getElem?_eq_getElem (show j<ps.length by rw [h.lp]; exact lj));have:=ih _ a1 _ _ _ m q3 r3
   omega
theorem St.near (h:St nb root qs ps ds pl dn) {d:Nat} (hp:ds[pl]?=some d):∀ (j d':Nat),ds[j]?=some d'→d'≤d+1:=by
 intro j d' e;by_cases hj:j=0
 ·subst hj;rw [h.h0] at e
  cases e;omega
 ·have lj:j<qs.length:=by rw [← h.ld]; exact (List.getElem?_eq_some_iff.mp e).1
  obtain ⟨a1,a2,c2,d2,r1,r2,r3,r4⟩:=h.par j _ _ (by omega) (List.getElem?_eq_getElem lj) (List.getElem?_eq_getElem (show j<ps.length by rw [h.lp]; exact lj));rw [e] at r4
  cases r4;have:=h.far pl _ _ _ a2 r3 hp
  omega
theorem St.skip (h:St nb root qs ps ds pl dn) {c:Pnt} (hc:c∈qs):St nb root qs ps ds pl (dn++[c]) :=
 ⟨h.hd,h.h0,h.nd,h.lp,h.ld,h.par,h.mono,h.cl,fun c' hc' d hd=>by
  rcases List.mem_append.mp hc' with z | z
  ·exact h.dn c' z d hd
  ·rw [List.mem_singleton.mp z];obtain ⟨j,hj⟩:=List.mem_iff_getElem?.mp hc;have lj:j<ds.length:=by rw [h.ld]; exact (List.getElem?_eq_some_iff.mp hj).1
   exact ⟨j,_,hj,List.getElem?_eq_getElem lj,h.near hd j _ (List.getElem?_eq_getElem lj)⟩⟩
theorem St.add (h:St nb root qs ps ds pl dn) {c0 c:Pnt} {d0:Nat} (hp:qs[pl]?=some c0) (hd:ds[pl]?=some d0) (hc:c∈nb c0) (hn:c∉qs):St nb root (qs++[c]) (ps++[pl]) (ds++[d0+1]) pl (dn++[c]) where
 hd:=at_app h.hd
 h0:=at_app h.h0
 nd:=by
  rw [List.nodup_append];exact ⟨h.nd,by simp,fun a ha b hb z=>hn (by rw [← List.mem_singleton.mp hb,← z]; exact ha)⟩
 lp:=by rw [List.length_append,List.length_append,h.lp]; rfl
 ld:=by rw [List.length_append,List.length_append,h.ld]; rfl
 par:=fun j u p hj e1 e2=>by
  have lq:=(List.getElem?_eq_some_iff.mp hp).1;rcases at_snoc e1 with ⟨h1,h2⟩ | ⟨h1,h2⟩
  ·rcases at_snoc e2 with ⟨h3,h4⟩ | ⟨h3,h4⟩
   ·obtain ⟨a1,a2,c2,d2,r1,r2,r3,r4⟩:=h.par j u p hj h2 h4;exact ⟨a1,a2,c2,d2,at_app r1,r2,at_app r3,at_app r4⟩
   ·rw [h3,h.lp] at h1; exact absurd h1 (Nat.lt_irrefl _)
  ·rcases at_snoc e2 with ⟨h3,h4⟩ | ⟨h3,h4⟩
   ·rw [h1,h.lp] at h3; exact absurd h3 (Nat.lt_irrefl _)
   ·subst h2 h4;refine ⟨by omega,Nat.le_refl _,c0,d0,at_app hp,hc,at_app hd,?_⟩;rw [h1,← h.ld]; exact at_end
 mono:=fun i j p q hi hij e1 e2=>by
  rcases at_snoc e1 with ⟨h1,h2⟩ | ⟨h1,h2⟩
  ·rcases at_snoc e2 with ⟨h3,h4⟩ | ⟨h3,h4⟩
   ·exact h.mono i j p q hi hij h2 h4
   ·rw [← h4];have li:i<qs.length:=by rw [← h.lp]; exact h1
    exact (h.par i _ p hi (List.getElem?_eq_getElem li) h2).2.1
  ·rcases at_snoc e2 with ⟨h3,h4⟩ | ⟨h3,h4⟩
   ·omega
   ·omega
 cl:=fun i u d hi e1 e2 c' hc'=>by
  rcases at_snoc e1 with ⟨h1,h2⟩ | ⟨h1,h2⟩
  ·rcases at_snoc e2 with ⟨h3,h4⟩ | ⟨h3,h4⟩
   ·obtain ⟨j,d',g1,g2,g3⟩:=h.cl i u d hi h2 h4 c' hc';exact ⟨j,d',at_app g1,at_app g2,g3⟩
   ·rw [h3,h.ld] at h1; exact absurd h1 (Nat.lt_irrefl _)
  ·have:=(List.getElem?_eq_some_iff.mp hp).1
   omega
 dn:=fun c' hc' d hd'=>by
  have hd':ds[pl]?=some d:=by
   rcases at_snoc hd' with ⟨_,z⟩ | ⟨z,_⟩
   ·exact z
   ·have:=(List.getElem?_eq_some_iff.mp hd).1; omega
  rcases List.mem_append.mp hc' with z | z
  ·obtain ⟨j,d',g1,g2,g3⟩:=h.dn c' z d hd';exact ⟨j,d',at_app g1,at_app g2,g3⟩
  ·rw [List.mem_singleton.mp z];rw [hd] at hd'
   cases hd';exact ⟨qs.length,d0+1,at_end,by rw [← h.ld]; exact at_end,Nat.le_refl _⟩
theorem St.next (h:St nb root qs ps ds pl dn) {c0:Pnt} (hp:qs[pl]?=some c0) (all:∀ c∈nb c0,c∈dn):St nb root qs ps ds (pl+1) [] :=
 ⟨h.hd,h.h0,h.nd,h.lp,h.ld,fun j c p hj e1 e2=>by
  obtain ⟨a1,a2,r⟩:=h.par j c p hj e1 e2;exact ⟨a1,by omega,r⟩,h.mono,fun i c d hi e1 e2 c' hc'=>by
  by_cases hi':i<pl
  ·exact h.cl i c d hi' e1 e2 c' hc'
  ·have:i=pl:=by omega
   subst this;rw [hp] at e1
   cases e1;exact h.dn c' (all c' hc') d e2,fun c hc=>by cases hc⟩
theorem St.walk (h:St nb root qs ps ds pl dn):∀ (j:Nat) c d,qs[j]?=some c→ds[j]?=some d→Walk nb root c d:=by
 intro j
 induction j using Nat.strongRecOn with
 | ind j ih =>
  intro c d e1 e2;by_cases hj:j=0
  ·subst hj;rw [h.hd] at e1;rw [h.h0] at e2
   cases e1
   cases e2;exact .here
  ·have lj:j<qs.length:=(List.getElem?_eq_some_iff.mp e1).1;obtain ⟨a1,a2,c2,d2,r1,r2,r3,r4⟩:=h.par j _ _ (by omega) e1 (List.getElem?_eq_getElem (show j<ps.length by rw [h.lp]; exact lj));rw [e2] at r4
   cases r4;exact .on (ih _ a1 _ _ r1 r3) r2
theorem St.least (h:St nb root qs ps ds pl dn) (he:qs.length≤pl) {c:Pnt} {m:Nat} (w:Walk nb root c m):∃ (j d:Nat),qs[j]?=some c∧ds[j]?=some d∧d≤m:=by
 induction w with
 | here=>exact ⟨0,0,h.hd,h.h0,Nat.le_refl _⟩
 | on _ e ih =>
  obtain ⟨i,d,g1,g2,g3⟩:=ih;obtain ⟨j,d',r1,r2,r3⟩:=h.cl i _ d (by have:=(List.getElem?_eq_some_iff.mp g1).1; omega) g1 g2 _ e;exact ⟨j,d',r1,r2,by omega⟩
theorem St.mem (h:St nb root qs ps ds pl dn) (he:qs.length≤pl) (c:Pnt):c∈qs↔∃ m,Walk nb root c m:=by
 constructor
 ·intro hc;obtain ⟨j,hj⟩:=List.mem_iff_getElem?.mp hc;have lj:j<ds.length:=by rw [h.ld]; exact (List.getElem?_eq_some_iff.mp hj).1
  exact ⟨_,h.walk j c _ hj (List.getElem?_eq_getElem lj)⟩
 ·rintro ⟨m,w⟩;obtain ⟨j,d,g,_⟩:=h.least he w;exact List.mem_of_getElem? g
end
end Bf
namespace L2
open PySem PySem.Spec PyProof.Rows
section
variable {prog:Program} {w:World} {K:Type} [DecidableEq K] (knd:KeyKind prog w K)
inductive gH (h:Heap):List (List K)→List Value→Prop
 | nil:gH h [] []
 | cons {k:List K} {a:Addr} {ks:List (List K)} {vs:List Value}:IsTupleKey knd h k a→gH h ks vs→gH h (k::ks) (.ref a::vs)
noncomputable def cL (h:Heap) (ks:List (List K)) (a:Addr):Prop:=∃ o items n,h.get? a=some o∧o.cls=.type "tuple"∧o.data=.seq items n∧gH knd h ks items.toList
variable {knd}
theorem gH.inj {h:Heap} {x y:List (List K)} {vs:List Value} (hx:gH knd h x vs) (hy:gH knd h y vs):x=y:=by
 induction hx generalizing y with
 | nil=>cases hy; rfl
 | cons h1 _ ih =>
  cases hy with
  | cons h2 t2 => rw [h1.inj h2, ih t2]
theorem cL.typeIs {s:Shared} {ks:List (List K)} {a:Addr} (x:cL knd s.heap ks a):s.TypeIs (.ref a) "tuple":=let ⟨o,_,_,ho,hc,_⟩:=x; ⟨o,ho,hc⟩
theorem cL.inj {h:Heap} {a:Addr} {x y:List (List K)} (hx:cL knd h x a) (hy:cL knd h y a):x=y:=by
 obtain ⟨o,items,n,ho,_,hd,hi⟩:=hx;obtain ⟨o',items',n',ho',_,hd',hi'⟩:=hy;obtain rfl:o=o':=Option.some.inj (ho.symm.trans ho')
 rw [hd] at hd';injection hd' with h1 _;subst h1;exact hi.inj hi'
theorem gH.keeps {h h':Heap} {ks:List (List K)} {vs:List Value} {d:Addr} {o:Obj} {es ep} (x:gH knd h ks vs) (ho:h.get? d=some o) (hd:o.data=.dict es ep) (hs:Heap.SameBut d h h'):gH knd h' ks vs:=by
 induction x with
 | nil=>exact .nil
 | cons h1 _ ih=>exact .cons (h1.keeps ho hd hs) ih
theorem cL.keeps {h h':Heap} {ks:List (List K)} {a d:Addr} {o:Obj} {es ep} (x:cL knd h ks a) (ho:h.get? d=some o) (hd:o.data=.dict es ep) (hs:Heap.SameBut d h h'):cL knd h' ks a:=by
 obtain ⟨o',items,n,ho',hc,hd',hi⟩:=x
 have hne:a≠d:=by
  rintro rfl;obtain rfl:o'=o:=Option.some.inj (ho'.symm.trans ho)
  rw [hd] at hd'; exact nomatch hd'
 exact ⟨o',items,n,(hs.2 a hne).trans ho',hc,hd',hi.keeps ho hd hs⟩
noncomputable def j9 (knd:KeyKind prog w K) (ks:List (List K)):Int:=reduceHash (Builtin.Tuple.tupleHashOf (ks.map (tupleKeyHash knd)))
noncomputable def drw (ks:List (List K)):Nat:=(ks.map fun k=>k.length+1).sum
variable {A:Around} {E:Value→Shared→Prop} {s:Shared}
theorem ot {ks:List (List K)} {a:Addr} {Q:Int→Shared→Prop} (hu:A.units+1<cLine) (hk:cL knd s.heap ks a) (h:Q (j9 knd ks) { s with toks:=s.toks+(drw ks+1) }) :
  wpAny (model prog w) A (pyHash (.ref a)) Q E s:=by
 have hT:=hk.typeIs;obtain ⟨o,items,n,ho,_,hd,hi⟩:=hk;unfold pyHash
 first | unfold pyHashByItsType | skip
 first | refine wpAny_bind (wpAny_cRoomFor_or (.inr (by omega)) ?_) | skip
 refine wpAny_bind (wpAny_specialOf hT F.slot_tuple_hash.lookup ?_)
 show wpAny _ _ (if (some (Value.builtin "tuple.__hash__")==some Value.none)=true then _ else _) Q E s
 rw [if_neg (by rw [beq_builtin_none]; exact Bool.false_ne_true)];refine wpAny_bind (wpAny_specialOf hT F.slot_tuple_hash.lookup ?_)
 show wpAny _ _ (callSpecialIfBoundUnlessNone? (.ref a) "__hash__" _ >>= _) Q E s
 refine wpAny_bind (wpAny_callSpecialIfBoundUnlessNone?_slot hT F.slot_tuple_hash (wpAny_call_entry F.slot_tuple_hash hT F.entry_tuple_hash ?_ (F.args_tuple_hash_1 _)))
 show wpAny _ _ (Builtin.Tuple.tupleItemsOf (.ref a) >>= _) _ _ s
 refine wpAny_bind (wpAny_tupleItemsOf ho hd ?_);refine wpAny_bind ?_;rw [← Array.forIn_toList];refine wpAny_forIn_list _
  (fun cW (b:Array Int) s'=>∃ done left,ks=done++left∧gH knd s.heap left cW∧b.toList=done.map (tupleKeyHash knd)∧s'={ s with toks:=s.toks+drw done })
  _ ?_ ?_ _ _ ⟨[],ks,rfl,hi,rfl,rfl⟩
 ·rintro x cW b s' ⟨done,left,rfl,hl,hb,rfl⟩
  cases hl with
  | @cons k _ ks' _ h1 hl' =>
   refine wpAny_bind (wpAny_pyHash_tuple (knd:=knd) (ks:=k) hu h1 ?_);have e:drw (done++[k])=drw done+(k.length+1):=by unfold drw; simp
   first
    | exact wpAny_pure ⟨done++[k],ks',by simp,hl',by simp [hb],by rw [e]; simp [Nat.add_assoc]⟩
    | exact wpAny_bind (wpAny_pure (wpAny_pure ⟨done++[k],ks',by simp,hl',by simp [hb],by rw [e]; simp [Nat.add_assoc]⟩))
 ·rintro b s' ⟨done,left,rfl,hl,hb,rfl⟩
  cases hl;rw [List.append_nil] at h
  show wpAny _ _ (retInt (Builtin.Tuple.tupleHashOf b.toList)) _ _ _
  rw [hb];refine wpAny_ret_mkInt ?_
  show wpAny _ _ (if (decide (-(2:Int) ^ 63≤Builtin.Tuple.tupleHashOf (done.map (tupleKeyHash knd)))&&decide (Builtin.Tuple.tupleHashOf (done.map (tupleKeyHash knd))<2 ^ 63))=true then _ else _) Q E _
  unfold j9 reduceHash at h;by_cases hr:(decide (-(2:Int) ^ 63≤Builtin.Tuple.tupleHashOf (done.map (tupleKeyHash knd)))&&decide (Builtin.Tuple.tupleHashOf (done.map (tupleKeyHash knd))<2 ^ 63))=true
  ·rw [if_pos hr];rw [if_pos hr] at h;exact wpAny_pure (by simpa [Nat.add_assoc] using h)
  ·rw [if_neg hr];rw [if_neg hr] at h;exact wpAny_bind (wpAny_rule (wpAny_pure (by simpa [Nat.add_assoc] using h)))
theorem yp {x y:List (List K)} {a b:Addr} {P:Fin→Shared→Prop} (hu:A.units<cLine) (hx:cL knd s.heap x a) (hy:cL knd s.heap y b) (h:P (.done (.ret (.bool (decide (x=y))))) s) :
  wpAny (model prog w) A (Builtin.«tuple.__eq__» ⟨[.ref a,.ref b],[]⟩) P E s:=by
 have hTb:=hy.typeIs;obtain ⟨oa,xs,na,hoa,_,hda,hia⟩:=hx;obtain ⟨ob,ys,nb,hob,_,hdb,hib⟩:=hy
 show wpAny _ _ (isInstance (.ref b) (.type "tuple") >>= _) _ _ s
 refine wpAny_bind (wpAny_isInstance hTb isSubtype_tuple_tuple ?_);simp only [Bool.not_true,Bool.false_eq_true,if_false];refine wpAny_bind (wpAny_tupleItemsOf hoa hda ?_);refine wpAny_bind (wpAny_tupleItemsOf hob hdb ?_);refine wpAny_bind ?_;refine wpAny_forIn_list _
  (fun cW r s'=>r.1=none∧s'=s∧∃ x' y' xs' ys',cW=List.zip xs' ys'∧gH knd s.heap x' xs'∧gH knd s.heap y' ys'∧decide (x'=y')=decide (x=y)∧(xs'.length==ys'.length)=(xs.size==ys.size))
  _ ?_ ?_ _ _ ⟨rfl,rfl,x,y,xs.toList,ys.toList,rfl,hia,hib,rfl,by simp⟩
 ·rintro ⟨u,v⟩ cW r s' ⟨hr,rfl,x',y',xs',ys',hz,hx',hy',hdec,hlen⟩
  cases hx' with
  | nil => simp at hz
  | @cons k1 u' x'' xs'' h1 hx'' =>
   cases hy' with
   | nil=>simp at hz
   | @cons k2 v' y'' ys'' h2 hy'' =>
    simp only [List.zip_cons_cons,List.cons.injEq,Prod.mk.injEq] at hz;obtain ⟨⟨rfl,rfl⟩,rfl⟩:=hz;refine wpAny_bind (wpAny_eqBool_tuple (knd:=knd) (x:=k1) (y:=k2) hu h1 h2 ?_);by_cases hk:k1=k2
    ·subst hk;rw [decide_eq_true rfl];simp only [Bool.not_true,Bool.false_eq_true,if_false];refine wpAny_pure ⟨rfl,rfl,x'',y'',xs'',ys'',rfl,hx'',hy'',?_,by simpa using hlen⟩;rw [← hdec];by_cases hxy:x''=y''
     ·simp [hxy]
     ·simp [hxy]
    ·rw [decide_eq_false hk];simp only [Bool.not_false,if_true];have hf:decide (x=y)=false:=by rw [← hdec]; simp [hk]
     rw [hf] at h;exact wpAny_bind (wpAny_pure (wpAny_pure (wpAny_pure h)))
 ·rintro ⟨r1,r2⟩ s' ⟨hr,rfl,x',y',xs',ys',hz,hx',hy',hdec,hlen⟩;simp only at hr
  subst hr;refine wpAny_pure ?_
  have hfin:(xs.size==ys.size)=decide (x=y):=by
   rw [← hdec,← hlen]
   cases hx' with
   | nil =>
    cases hy' with
    | nil=>simp
    | cons _ _=>simp
   | cons _ _ =>
    cases hy' with
    | nil=>simp
    | cons _ _=>simp at hz
  show P (.done (.ret (.bool (xs.size==ys.size)))) s'
  rw [hfin]; exact h
theorem nJ {x y:List (List K)} {a b:Addr} {Q:Bool→Shared→Prop} (hu:A.units+1<cLine) (hx:cL knd s.heap x a) (hy:cL knd s.heap y b) (h:Q (decide (x=y)) s) :
  wpAny (model prog w) A (eqBool (.ref a) (.ref b)) Q E s:=by
 unfold eqBool
 try with_reducible refine wpAny_holding ?_
 show wpAny _ _ (if (Value.ref a==Value.ref b)=true then _ else _) Q E s
 by_cases hab:(Value.ref a==Value.ref b)=true
 ·rw [if_pos hab];have e:a=b:=by have:=eq_of_beq hab; injection this
  subst e;obtain rfl:=hx.inj hy
  exact wpAny_bind (wpAny_rule (wpAny_pure (by simpa using h)))
 ·rw [if_neg hab];exact wpAny_bind (wpAny_richCompare_same_room (op:=.Eq) hx.typeIs hy.typeIs F.slot_tuple_eq
   (wpAny_call_entry F.slot_tuple_eq hx.typeIs F.entry_tuple_eq (yp hu hx hy ⟨_,rfl,(fun e=>nomatch e),wpAny_truthy_bool h⟩) (F.args_tuple_eq_2 _ _)) (by omega))
theorem ow {ks:List K} {a:Addr} {Q:Bool→Shared→Prop} (m:Nat) (hk:IsTupleKey knd s.heap ks a) (h:Q true s):wpAny (model prog w) A (eqIsQuiet (m+1) (.ref a)) Q E s:=by
 have hT:=hk.typeIs;obtain ⟨o,items,n,ho,_,hd,hi⟩:=hk;unfold eqIsQuiet;refine wpAny_bind (wpAny_specialOf hT F.slot_tuple_eq.lookup ?_)
 show wpAny _ _ (isInstance (.ref a) (.type "tuple") >>= _) _ _ s
 refine wpAny_bind (wpAny_isInstance hT isSubtype_tuple_tuple ?_);simp only [Bool.not_true,Bool.false_eq_true,if_false];refine wpAny_bind (wpAny_seqItems ho hd ?_);refine wpAny_bind ?_
 show wpAny _ _ (forIn items _ _) _ _ s
 rw [← Array.forIn_toList];refine wpAny_forIn_list _ (fun cW r s'=>r.1=none∧s'=s∧∀ v∈cW,carriedByValue v=true) _ ?_ ?_ _ _ ⟨rfl,rfl,hi.byValue⟩
 ·rintro v cW r s' ⟨hr,rfl,hall⟩;rw [eqIsQuiet_byValue _ (hall v List.mem_cons_self)];refine wpAny_bind (wpAny_pure ?_);simp only [Bool.not_true,Bool.false_eq_true,if_false];exact wpAny_pure ⟨rfl,rfl,fun u hu'=>hall u (List.mem_cons_of_mem _ hu')⟩
 ·rintro ⟨r1,r2⟩ s' ⟨hr,rfl,_⟩;simp only at hr
  subst hr;exact wpAny_pure h
theorem pX {ks:List (List K)} {a:Addr} {Q:Bool→Shared→Prop} (hk:cL knd s.heap ks a) (h:Q true s):wpAny (model prog w) A (eqIsQuiet 8 (.ref a)) Q E s:=by
 have hT:=hk.typeIs;obtain ⟨o,items,n,ho,_,hd,hi⟩:=hk;unfold eqIsQuiet;refine wpAny_bind (wpAny_specialOf hT F.slot_tuple_eq.lookup ?_)
 show wpAny _ _ (isInstance (.ref a) (.type "tuple") >>= _) _ _ s
 refine wpAny_bind (wpAny_isInstance hT isSubtype_tuple_tuple ?_);simp only [Bool.not_true,Bool.false_eq_true,if_false];refine wpAny_bind (wpAny_seqItems ho hd ?_);refine wpAny_bind ?_
 show wpAny _ _ (forIn items _ _) _ _ s
 rw [← Array.forIn_toList];refine wpAny_forIn_list _ (fun cW r s'=>r.1=none∧s'=s∧∃ ks,gH knd s.heap ks cW) _ ?_ ?_ _ _ ⟨rfl,rfl,ks,hi⟩
 ·rintro v cW r s' ⟨hr,rfl,ks',hl⟩
  cases hl with
  | @cons k b ks'' _ h1 hl' =>
   refine wpAny_bind (ow 6 h1 ?_);simp only [Bool.not_true,Bool.false_eq_true,if_false];exact wpAny_pure ⟨rfl,rfl,ks'',hl'⟩
 ·rintro ⟨r1,r2⟩ s' ⟨hr,rfl,_⟩;simp only at hr
  subst hr;exact wpAny_pure h
end
noncomputable def dE {prog:Program} {w:World} {K:Type} [DecidableEq K] (knd:KeyKind prog w K):HeapKind prog w (List (List K)) where
 is:=cL knd
 hash:=j9 knd
 draws:=fun ks=>drw ks+1
 room:=fun A=>A.units+1<cLine
 inj:=fun hx hy=>hx.inj hy
 keeps:=fun x ho hd hs=>x.keeps ho hd hs
 pyHash:=fun hu hk h=>ot hu hk h
 eqBool:=fun hu hx hy h=>nJ hu hx hy h
 quiet:=fun hk h=>pX hk h
noncomputable abbrev K2:=List (List Key)
noncomputable def D2o (P:Program) (w:World) (d:Addr) (xs:List (K2×Addr×Value)):HO :=
 .ext fun h=>(d==sysModules)=false∧∃ o es ep,h.get? d=some o∧o.ExactDict∧o.data=.dict es ep∧es.toList=xs.map (entryOfKey (dE (a8 P w)))∧(xs.map (·.1)).Nodup
noncomputable def gb (H:Hp) (b:Addr) (u v:List Key):Prop:=∃ c d,H b=some (.tup [.ref c,.ref d])∧H c=some (.tup (u.map kV))∧H d=some (.tup (v.map kV))
noncomputable abbrev KT2 (H:Hp):List (K2×V)→List (K2×Addr×Value)→Prop:=Paired fun p q=>p.1=q.1∧(∃ u v,p.1=[u,v]∧gb H q.2.1 u v)∧aQ p.2 q.2.2
noncomputable def eC (P:Program) (w:World) (H:Hp) (d:Addr) (kvs:List (K2×V)):Prop :=
 (kvs=[]∧H d=some (.dT []))∨∃ xs,H d=some (D2o P w d xs)∧KT2 H kvs xs∧kvs.length≤sizeLine
theorem gb.keeps {H H':Hp} {b:Addr} {u v:List Key} (h:gb H b u v) (ht:∀ b ys,H b=some (.tup ys)→H' b=some (.tup ys)):gb H' b u v :=
 let ⟨c,d,h1,h2,h3⟩:=h; ⟨c,d,ht _ _ h1,ht _ _ h2,ht _ _ h3⟩
theorem KT2.keeps {H H':Hp} {kvs:List (K2×V)} {xs:List (K2×Addr×Value)} (r:KT2 H kvs xs) (ht:∀ b ys,H b=some (.tup ys)→H' b=some (.tup ys)):KT2 H' kvs xs :=
 Paired.mapP r fun _ _ z=>⟨z.1,let ⟨u,v,a,b⟩:=z.2.1; ⟨u,v,a,b.keeps ht⟩,z.2.2⟩
theorem KT2.val {H:Hp} {kvs:List (K2×V)} {xs:List (K2×Addr×Value)} (r:KT2 H kvs xs) (k:K2):dW (bp kvs k) ((atKey xs k).map (·.2)):=by
 induction r with
 | nil=>exact True.intro
 | @cons p q ps qs h t ih =>
  obtain ⟨h1,_,h2⟩:=h;by_cases e:p.1=k
  ·have e':q.1=k:=h1.symm.trans e;have b:atKey (q::qs) k=some q.2:=by simp [atKey,List.find?_cons,e']
   rw [bT e,b]; exact h2
  ·have e':¬ q.1=k:=fun z=>e (h1.trans z);have b:atKey (q::qs) k=atKey qs k:=by simp [atKey,List.find?_cons,e']
   rw [bS e,b]; exact ih
theorem KT2.repl {H:Hp} {kvs:List (K2×V)} {xs:List (K2×Addr×Value)} (r:KT2 H kvs xs) (k:K2) {y:V} {u:Value} (ry:aQ y u) :
  KT2 H (kvs.map fun kv=>if kv.1=k then (kv.1,y) else kv) (xs.map (putAt k u)):=by
 induction r with
 | nil=>exact .nil
 | @cons p q ps qs h t ih =>
  rw [List.map_cons,List.map_cons];refine .cons ?_ ih;obtain ⟨h1,h2,h3⟩:=h;unfold putAt;by_cases e:p.1=k
  ·rw [if_pos e,if_pos (h1.symm.trans e)]; exact ⟨h1,h2,ry⟩
  ·rw [if_neg e,if_neg (fun z=>e (h1.trans z))]; exact ⟨h1,h2,h3⟩
theorem KT2.put {H:Hp} {kvs:List (K2×V)} {xs:List (K2×Addr×Value)} (r:KT2 H kvs xs) {k v:List Key} {b:Addr} {y:V} {u:Value} (hb:gb H b k v) (ry:aQ y u) :
  KT2 H (b9 kvs [k,v] y) (storedH xs [k,v] b u):=by
 have e:(kvs.any fun kv=>decide (kv.1=[k,v]))=(atKey xs [k,v]).isSome:=by
  rw [dh,(r.val [k,v]).isSome_eq,Option.isSome_map]
 unfold b9 storedH;rw [e];by_cases q:(atKey xs [k,v]).isSome=true
 ·rw [if_pos q,if_pos q]; exact r.repl _ ry
 ·rw [if_neg q,if_neg q]; exact Paired.snoc r ⟨rfl,⟨k,v,rfl,hb⟩,ry⟩
section
variable {P:Program} {w:World} {H:Hp} {h:Heap} {a:Addr}
theorem jd {u v:List Key} (ok:HOk P w H h) (e:gb H a u v):(dE (a8 P w)).is h [u,v] a:=by
 obtain ⟨c,d,e1,e2,e3⟩:=e;obtain ⟨_,its,r,o,h1,h2,n,h3⟩:=(show bg P w H h a (.tup [.ref c,.ref d]) from ok a _ e1)
 refine ⟨o,its.toArray,n,h1,h2,h3,?_⟩
 cases r with
 | cons r1 r =>
  cases r with
  | cons r2 r =>
   cases r
   cases (show _=Value.ref c from r1)
   cases (show _=Value.ref d from r2)
   exact .cons (eW ok e2) (.cons (eW ok e3) .nil)
theorem qO {kvs:List (K2×V)} (ok:HOk P w H h) (e:eC P w H a kvs):kvs.length≤sizeLine∧(a==sysModules)=false ∧
  ∃ xs,KT2 H kvs xs∧h.DictOfH (dE (a8 P w)) a xs:=by
 rcases e with ⟨rfl,e⟩ | ⟨xs,e,r,z⟩
 ·obtain ⟨z,y,xs,r,o,es,ep,h1,h2,h3,h4,h5⟩:=(show bg P w H h a (.dT []) from ok a _ e)
  cases r;exact ⟨z,y,[],.nil,o,es,ep,h1,h2,h3,h4,(fun x hx=>nomatch hx),.nil⟩
 ·obtain ⟨⟨y,o,es,ep,h1,h2,h3,h4,h5⟩,_⟩:=(show bg P w H h a (D2o P w a xs) from ok a _ e)
  refine ⟨z,y,xs,r,o,es,ep,h1,h2,h3,h4,fun x hx=>?_,h5⟩
  have all:∀ {l:List (K2×V)} {m:List (K2×Addr×Value)},KT2 H l m→∀ x∈m,(dE (a8 P w)).is h x.1 x.2.1:=by
   intro l m q
   induction q with
   | nil=>intro x hx; exact nomatch hx
   | @cons p q ps qs hq t ih =>
    intro x hx;rcases List.mem_cons.mp hx with e | hx
    ·subst e;obtain ⟨h1,⟨u,v,h2,h3⟩,_⟩:=hq;rw [← h1,h2];exact jd ok h3
    ·exact ih x hx
  exact all r x hx
end
section
variable {X:Cx} {pins:List (Addr×Obj)} {σ:St} {H:Hp} {s:Shared} {a b:Addr} {v:V} {r:Value} {k l:List Key} {kvs:List (K2×V)} {A:Around} {E:Value→Shared→Prop}
theorem pG {Q:Value→Shared→Prop} (hu:A.units+2<cLine) (I:Inv X pins σ H s) (e:eC X.prog X.w H a kvs) (eb:gb H b k l) (hv:bp kvs [k,l]=some v) (h:∀ w' s',Inv X pins σ H s'→aQ v w'→Q w' s') :
  wpAny (model X.prog X.w) A (getItem (.ref a) (.ref b)) Q E s:=by
 obtain ⟨z,hd,xs,rel,dd⟩:=qO I.hok e;obtain ⟨w',hw,rw'⟩:=dW.some_of (v:=v) (o:=(atKey xs [k,l]).map (·.2)) (by rw [← hv]; exact rel.val _);obtain ⟨p,hp,hp2⟩:=Option.map_eq_some_iff.mp hw;refine wpAny_getItem_heap (knd:=dE (a8 X.prog X.w)) (show A.units+1+1<cLine from hu) (jd I.hok eb) dd hp ?_;rw [hp2];exact h w' _ (I.tok _) rw'
theorem Bc {Q:Value→Shared→Prop} (hu:A.units+2<cLine) (I:Inv X pins σ H s) (e:eC X.prog X.w H a kvs) (eb:gb H b k l) (h:∀ s',Inv X pins σ H s'→Q (.bool (bp kvs [k,l]).isSome) s') :
  wpAny (model X.prog X.w) A (compareOp .In (.ref b) (.ref a)) Q E s:=by
 obtain ⟨z,hd,xs,rel,dd⟩:=qO I.hok e;refine wpAny_in_heap (knd:=dE (a8 X.prog X.w)) (show A.units+1+1<cLine from hu) (jd I.hok eb) hd dd ?_;have q:=(rel.val [k,l]).isSome_eq;rw [Option.isSome_map] at q;rw [← q];exact h _ (I.tok _)
theorem pH {Q:Unit→Shared→Prop} (hu:A.units+2<cLine) (I:Inv X pins σ H s) (e:eC X.prog X.w H a kvs) (eb:gb H b k l) (hl:kvs.length<sizeLine) (rv:aQ v r)
  (h:∀ H' s',(∀ c,c≠a→H' c=H c)→eC X.prog X.w H' a (b9 kvs [k,l] v)→Inv X pins σ H' s'→Q () s') :
  wpAny (model X.prog X.w) A (setItem (.ref a) (.ref b) r) Q E s:=by
 obtain ⟨z,hd,xs,rel,dd⟩:=qO I.hok e;have hz:xs.length≤sizeLine:=by rw [← Paired.length rel]; exact z
 have hl:(b9 kvs [k,l] v).length≤sizeLine:=by have:=cP kvs [k,l] v; omega
 have mu:Mut (H a):=by rcases e with ⟨_,e⟩ | ⟨_,e,_⟩<;>rw [e]<;>exact True.intro
 have nt:∀ c ys,H c=some (.tup ys)→c≠a:=fun c ys ec z=>by
  subst z;rcases e with ⟨_,e⟩ | ⟨_,e,_⟩<;>rw [ec] at e<;>cases e
 refine wpAny_setItem_heap (knd:=dE (a8 X.prog X.w)) (hsz:=hz) (show A.units+1+1<cLine from hu) (jd I.hok eb) dd fun h' dd' hs=>?_;obtain ⟨q,es,ep,hq,h2,h3,h4,_,h5⟩:=dd';refine h (upd H a (D2o X.prog X.w a (storedH xs [k,l] b r))) _ (fun c hc=>aj hc) (.inr ⟨_,ag,(rel.put eb rv).keeps fun c ys ec=>?_,hl⟩) (i6 I mu hs ⟨q,hq⟩ ?_)
 ·rw [aj (nt c ys ec)]; exact ec
 ·refine ⟨⟨hd,q,es,ep,hq,h2,h3,h4,h5⟩,⟨q,hq⟩,fun h1 h2' p k'=>?_⟩;obtain ⟨y,o,es,ep,q1,q2⟩:=p;exact ⟨y,o,es,ep,k' _ q1,q2⟩
end
noncomputable def v8 (P:Program) (w:World) (td ty:TE):TE:=fun σ H Q=>td σ H fun x H1=>ty σ H1 fun y H2=>∃ a b k l kvs v,x=.ref a∧y=.ref b∧eC P w H2 a kvs∧gb H2 b k l∧bp kvs [k,l]=some v∧Q v H2
noncomputable def y9 (P:Program) (w:World) (ty td:TE):TE:=fun σ H Q=>ty σ H fun y H1=>td σ H1 fun x H2=>∃ a b k l kvs,x=.ref a∧y=.ref b∧eC P w H2 a kvs∧gb H2 b k l∧Q (.bl (bp kvs [k,l]).isSome) H2
noncomputable def vN (P:Program) (w:World) (td ty tv:TE):TS:=fun D σ H=>tv σ H fun v H1=>td σ H1 fun x H2=>ty σ H2 fun y H3=>∃ a b k l kvs,x=.ref a∧y=.ref b∧eC P w H3 a kvs∧gb H3 b k l∧kvs.length<sizeLine ∧
 ∀ H4,(∀ c,c≠a→H4 c=H3 c)→eC P w H4 a (b9 kvs [k,l] v)→D.nx σ H4
section
variable {X:Cx} {o i value:Expr} {pos pos':Pos} {td ty tv:TE}
theorem rS {pins:List (Addr×Obj)} {σ:St} {H:Hp} {s:Shared} {a:Addr} {kvs:List (K2×V)} (I:Inv X pins σ H s) (e:eC X.prog X.w H a kvs):s.TypeIs (.ref a) "dict":=by
 obtain ⟨_,_,xs,_,dd⟩:=qO I.hok e;exact dd.typeIs
theorem om {P:Program} {w:World} (hP:X.prog=P) (hw:X.w=w) (hu:X.A.units+2<cLine) (ho:PE X o td) (hi:PE X i ty) (hs:wG i):PE X (.Subscript o i pos) (v8 P w td ty):=by
 subst hP hw;intro pins s σ H Q I h;refine mX PySem.F.slot_dict_getitem.lookup hs (thn (ho pins s σ H _ I h) fun u s1 ⟨x,H1,I1,rx,q1⟩=>thn (hi pins s1 σ H1 _ I1 q1) fun iv s2 ⟨y,H2,I2,ry,a,b,k,l,kvs,v,ex,ey,e,eb,hv,q2⟩=>?_);subst ex ey;obtain rfl:u=Value.ref a:=rx
 obtain rfl:iv=Value.ref b:=ry
 exact ⟨rS I2 e,pG hu I2 e eb hv fun w' s3 I3 rw'=>⟨v,H2,I3,rw',q2⟩⟩
theorem xq {P:Program} {w:World} (hP:X.prog=P) (hw:X.w=w) (hu:X.A.units+2<cLine) (hi:PE X i ty) (ho:PE X o td):PC X .In i o (y9 P w ty td):=by
 subst hP hw;intro pins s σ H Q I h;refine thn (hi pins s σ H _ I h) fun iv s1 ⟨y,H1,I1,ry,q1⟩=>thn (ho pins s1 σ H1 _ I1 q1) fun u s2 ⟨x,H2,I2,rx,a,b,k,l,kvs,ex,ey,e,eb,q2⟩=>?_;subst ex ey;obtain rfl:u=Value.ref a:=rx
 obtain rfl:iv=Value.ref b:=ry
 exact Bc hu I2 e eb fun s3 I3=>⟨.bl (bp kvs [k,l]).isSome,H2,I3,rfl,q2⟩
theorem u7 {P:Program} {w:World} (hP:X.prog=P) (hw:X.w=w) (hu:X.A.units+2<cLine) (ho:PE X o td) (hi:PE X i ty) (hv:PE X value tv) (hs:swapsWith value (some (.Subscript o i pos')) pos.line X.env=pure false) :
  PS X (.Assign [.Subscript o i pos'] value pos) (vN P w td ty tv):=by
 subst hP hw;intro pins s σ H D I h;refine wpAny_Assign_Subscript (thn (hv pins s σ H _ I h) fun r s1 ⟨v,H1,I1,rv,q1⟩=>thn (ho pins s1 σ H1 _ I1 q1) fun u s2 ⟨x,H2,I2,rx,q2⟩=>thn (hi pins s2 σ H2 _ I2 q2) fun iv s3 ⟨y,H3,I3,ry,a,b,k,l,kvs,ex,ey,e,eb,hl,q3⟩=>?_) hs;subst ex ey;obtain rfl:u=Value.ref a:=rx
 obtain rfl:iv=Value.ref b:=ry
 exact pH hu I3 e eb hl rv fun H4 s4 hc e4 I4=>⟨σ,H4,I4,q3 H4 hc e4⟩
end
section
variable {P:Program} {w:World} {td ty tv:TE} {σ:L2.St} {H:Hp} {Q:VK}
theorem vi (h:td σ H fun x H1=>ty σ H1 fun y H2=>∃ a b k l kvs v,x=.ref a∧y=.ref b∧eC P w H2 a kvs∧gb H2 b k l∧bp kvs [k,l]=some v∧Q v H2):v8 P w td ty σ H Q:=h
theorem xI (h:ty σ H fun y H1=>td σ H1 fun x H2=>∃ a b k l kvs,x=.ref a∧y=.ref b∧eC P w H2 a kvs∧gb H2 b k l∧Q (.bl (bp kvs [k,l]).isSome) H2):y9 P w ty td σ H Q:=h
theorem vj {D} (h:tv σ H fun v H1=>td σ H1 fun x H2=>ty σ H2 fun y H3=>∃ a b k l kvs,x=.ref a∧y=.ref b∧eC P w H3 a kvs∧gb H3 b k l∧kvs.length<sizeLine ∧
 ∀ H4,(∀ c,c≠a→H4 c=H3 c)→eC P w H4 a (b9 kvs [k,l] v)→D.nx σ H4):vN P w td ty tv D σ H:=h
end
theorem l9 {A:Around} {k:Nat} (hr:b7 k A):A.units+2<cLine:=Nat.lt_of_le_of_lt (Nat.add_le_add_left (by decide:2≤64) _) hr.units
end L2
namespace Ts
open PySem PyProof.Rows PySem.W
section
variable {prog:Program} {w:World} {A:Around} {E:Value→Shared→Prop} {s:Shared}
theorem ko {v u:Value} {p q:Int×Int} {Q:Value→Shared→Prop} (hu:A.units<cLine) (hv:bw s.heap v p) (hw:bw s.heap u q) (h:Q (.bool (plt q p)) s):wpAny (model prog w) A (richCompare .Gt v u) Q E s:=by
 refine wpAny_richCompare_same_room hv.ty hw.ty F.slot_tuple_gt (wpAny_call_entry F.slot_tuple_gt hv.ty F.entry_tuple_gt ?_ (F.args_tuple_gt_2 _ _)) hu;obtain ⟨b,o,t1,t2,n,rfl,h1,c1,d1⟩:=hv;obtain ⟨c,o2,t3,t4,m,rfl,h2,c2,d2⟩:=hw;unfold Builtin.«tuple.__gt__»;refine wpAny_bind (wpAny_pure ?_);dsimp only;refine wpAny_bind (wpAny_isInstance (T:="tuple") (b:=true) ⟨o2,h2,c2⟩ (by rw [isSubtype_type]; kernel_rfl) ?_);rw [if_neg (by decide)];refine wpAny_bind (wpAny_tupleItemsOf h1 d1 (wpAny_bind (wpAny_tupleItemsOf h2 d2 ?_)))
 show wpAny (model prog w) A.in1 (forIn [(Value.int p.1 t1,Value.int q.1 t3),(Value.int p.2 t2,Value.int q.2 t4)] _ _ >>= _) _ E s
 have nn:∀ b:Bool,Value.bool b≠Value.notImplemented:=fun b e=>nomatch e
 refine wpAny_bind ?_;rw [List.forIn_cons];refine wpAny_bind (wpAny_bind (wpAny_eqBool_int ?_));by_cases e1:p.1=q.1
 ·have e1':(p.1==q.1)=true:=by rw [e1]; exact beq_self_eq_true _
  rw [e1',if_neg (by decide)];refine wpAny_pure ?_;dsimp only;rw [List.forIn_cons];refine wpAny_bind (wpAny_bind (wpAny_eqBool_int ?_));by_cases e2:p.2=q.2
  ·have e2':(p.2==q.2)=true:=by rw [e2]; exact beq_self_eq_true _
   rw [e2',if_neg (by decide)];refine wpAny_pure ?_;dsimp only;rw [List.forIn_nil];refine wpAny_pure ?_;have:plt q p=false:=cE.mpr (by unfold ple; omega)
   rw [this] at h;exact wpAny_pure ⟨_,rfl,nn _,h⟩
  ·have e2':(p.2==q.2)=false:=by simpa using e2
   rw [e2',if_pos (by decide)];refine wpAny_bind (wpAny_rule ?_);refine wpAny_bind (gt_int ?_);refine wpAny_bind (wpAny_pure (wpAny_pure ?_));dsimp only;refine wpAny_pure ?_;have:plt q p=decide (q.2<p.2):=by unfold plt; rw [e1]; simp
   rw [this] at h;exact wpAny_pure ⟨_,rfl,nn _,h⟩
 ·have e1':(p.1==q.1)=false:=by simpa using e1
  rw [e1',if_pos (by decide)];refine wpAny_bind (wpAny_rule ?_);refine wpAny_bind (gt_int ?_);refine wpAny_bind (wpAny_pure (wpAny_pure ?_));dsimp only;refine wpAny_pure ?_;have:plt q p=decide (q.1<p.1):=by unfold plt; simp [Ne.symm e1]
  rw [this] at h;exact wpAny_pure ⟨_,rfl,nn _,h⟩
theorem xi {R:Result→Shared→Prop} {I l S:Addr} {vs:List Value} {g:Value→Int×Int} (hu:A.units+8<cLine) (hh:A.in1.handled=none) (hl:l≠I) (hSI:S≠I) (hSl:S≠l) :
  ∀ (k j:Nat) (s:Shared) (vb:Value) (c:Nat),vs.length - (j+1)=k→j+1≤vs.length→s.heap.IsTupleIter I l (j+1)→s.heap.IsTuple l vs.toArray→bK s.heap vs g I S→vb∈vs→(∀ i v,i≤j→vs[i]?=some v→ple (g vb) (g v)) →
  s.heap.get? S=some { cls:=.type "list",dict:=none,data:=.seq #[vb,vb] c,slots:=#[] } →
  (∀ v h' tk,v∈vs→(∀ u∈vs,ple (g v) (g u))→(∀ b o,b≠I→b≠S→s.heap.get? b=some o→h'.get? b=some o)→R (.ok (.ret v)) { s with heap:=h',toks:=tk }) →
  codeAny (model prog w) A (.builtin "min.loop" ⟨[.ref I,.none,.ref S],[]⟩) R s:=by
 have W:=Walks.tuple (prog:=prog) (w:=w) hh I l hl vs.toArray;have nm:(toString "min"++toString ".loop":String)="min.loop":=by decide
 have sz:vs.toArray.size=vs.length:=by simp
 intro k
 induction k with
 | zero =>
  intro j s vb c hk hj hit hls hap hvb hmin hS hR
  (refine codeAny_builtin F.entry_min_loop ?_; rw [Around.under_plainId F.plain_min_loop _]; show wpAny _ A.in1 (seqItems? (.ref S) >>= _) _ _ s; refine wpAny_bind (wpAny_seqItems hS rfl ?_))
  (show wpAny _ A.in1 (tryCatch (pyNext (.ref I)) _ >>= _) _ _ s; refine wpAny_bind (wpAny_tryCatch (W.done s _ _ ⟨by rw [sz,show vs.length=j+1 by omega]; exact hit,hls⟩ fun h' tk hk'=>?_)))
  have hS':=hk' S _ (by simp [hSI]) hS
  (show wpAny _ A.in1 (updateSeq S (fun _=>#[]) >>= _) _ _ _; refine wpAny_bind ?_; refine wpAny_updateSeq hS' rfl (wpAny_bind (wpAny_letGo (wpAny_pure ?_))))
  refine hR vb _ tk hvb (fun u hu'=>?_) fun b o hI hbS e=>(Heap.get?_update_other _ _ (Ne.symm hbS)).trans (hk' b o (by simp [hI]) e);obtain ⟨i,hi⟩:=List.mem_iff_getElem?.mp hu';exact hmin i u (by have:=(List.getElem?_eq_some_iff.mp hi).1; omega) hi
 | succ k ih =>
  intro j s vb c hk hj hit hls hap hvb hmin hS hR
  (refine codeAny_builtin F.entry_min_loop ?_; rw [Around.under_plainId F.plain_min_loop _]; show wpAny _ A.in1 (seqItems? (.ref S) >>= _) _ _ s; refine wpAny_bind (wpAny_seqItems hS rfl ?_))
  (show wpAny _ A.in1 (tryCatch (pyNext (.ref I)) _ >>= _) _ _ s; refine wpAny_bind (wpAny_tryCatch (W.item (j+1) s _ _ (by omega) ⟨hit,hls⟩ fun v h' tk hP hst' hk'=>?_)))
  have hS':=hk' S _ (by simp [hSI]) hS;have hap':bK h' vs g I S:=hap.keep fun b o hI _ e=>hk' b o (by simp [hI]) e;have hv:vs[j+1]?=some v:=by rw [← hP]; simp
  have hvm:v∈vs:=List.mem_of_getElem? hv
  (show wpAny _ A.in1 (tryCatch (holding [v,v] (richCompare .Lt v vb >>= _)) _ >>= _) _ _ _; refine wpAny_bind (wpAny_tryCatch (wpAny_holding (wpAny_bind (eg (s:={ s with heap:=h',toks:=tk }) (by show A.units+1<cLine; omega) (hap' v hvm).1 (hap' vb hvb).1 ?_)))))
  (refine wpAny_bind (wpAny_holding (wpAny_truthy_bool ?_)); refine wpAny_bind (wpAny_letGo (wpAny_pure ?_)))
  cases hb:plt (g v) (g vb) with
  | true =>
   simp only [if_true]
   (refine wpAny_bind ?_; refine wpAny_updateSeq hS' rfl (wpAny_bind (wpAny_letGo ?_)); rw [nm])
   have kp:∀ b o,b≠S→h'.get? b=some o→(h'.update S (Obj.mapSeq fun _=>#[v,v])).get? b=some o:=fun b o hbS e=>(Heap.get?_update_other _ _ (Ne.symm hbS)).trans e;refine wpAny_pure ⟨plainId_quiet F.plain_min_loop _,ih (j+1) _ v _ (by omega) (by omega) (hst'.1.at fun o e=>kp I o (Ne.symm hSI) e) (hst'.2.at fun o e=>kp l o (Ne.symm hSl) e) (hap'.keep fun b o _ hbS e=>kp b o hbS e) hvm (fun i u hi hu'=>?_) (Heap.get?_update_self _ hS' rfl) fun v' h'' tk'' hm hmi hk''=>?_⟩
   ·have hlt:=iT.mp hb;have:ple (g v) (g vb):=by unfold ple; omega
    by_cases hij:i≤j
    ·exact iF this (hmin i u hij hu')
    ·have:i=j+1:=by omega
     subst this;rw [hv] at hu'; cases hu';exact dg _
   ·exact hR v' h'' tk'' hm hmi fun b o hI hbS e=>hk'' b o hI hbS (kp b o hbS (hk' b o (by simp [hI]) e))
  | false =>
   simp only [Bool.false_eq_true,if_false]
   (refine wpAny_bind (wpAny_letGo ?_); rw [nm])
   refine wpAny_pure ⟨plainId_quiet F.plain_min_loop _,ih (j+1) _ vb c (by omega) (by omega) hst'.1 hst'.2 hap' hvb (fun i u hi hu'=>?_) hS' fun v' h'' tk'' hm hmi hk''=>?_⟩
   ·by_cases hij:i≤j
    ·exact hmin i u hij hu'
    ·have:i=j+1:=by omega
     subst this;rw [hv] at hu'; cases hu';exact cE.mp hb
   ·exact hR v' h'' tk'' hm hmi fun b o hI hbS e=>hk'' b o hI hbS (hk' b o (by simp [hI]) e)
theorem pT {v0 v1:Value} {g:Value→Int×Int} {Q:Value→Shared→Prop} (hu:A.units+16<cLine) (hh:A.handled=none) (hp:∀ v∈[v0,v1],bw s.heap v (g v))
  (h:∀ v h' tk,v∈[v0,v1]→(∀ u∈[v0,v1],ple (g v) (g u))→(∀ b o,s.heap.get? b=some o→h'.get? b=some o)→Q v { s with heap:=h',toks:=tk }):wpAny (model prog w) A (call (.builtin "min") [v0,v1]) Q E s:=by
 have nm:(toString "min"++toString ".loop":String)="min.loop":=by decide
 refine call_function_tree F.kind_min F.plain_min F.entry_min (F.args_min2 _ _) ?_
 show wpAny _ A.in1 (Builtin.Builtins.bindParams "min" ["key","default"] 0 ⟨[],[]⟩ >>= _) _ _ s
 refine wpAny_bind (wpAny_of_eq (show Builtin.Builtins.bindParams "min" ["key","default"] 0 ⟨[],[]⟩=pure [none,none] from rfl) ?_)
 show wpAny _ A.in1 (newTuple [v0,v1] >>= _) _ _ s
 refine wpAny_bind (wpAny_newObj_type ?_);have hl:(s.heap.push { cls:=.type "tuple",data:=.seq #[v0,v1] }).IsTuple s.heap.objs.size [v0,v1].toArray:=⟨_,Heap.get?_push_size _ rfl,rfl,0,by simp⟩
 have kp0:∀ b o,s.heap.get? b=some o→(s.heap.push { cls:=.type "tuple",data:=.seq #[v0,v1] }).get? b=some o:=fun b o e=>Heap.get?_push_of_some _ e;have hp0:∀ v∈[v0,v1],bw (s.heap.push { cls:=.type "tuple",data:=.seq #[v0,v1] }) v (g v):=fun v hv=>by
  obtain ⟨b,o,t,u,n,rfl,h1,h2,h3⟩:=hp v hv;exact ⟨b,o,t,u,n,rfl,kp0 _ _ h1,h2,h3⟩
 have hne:[v0,v1]≠[]:=by simp
 have hlt:s.heap.objs.size<(s.heap.push { cls:=.type "tuple",data:=.seq #[v0,v1] }).objs.size:=by rw [Heap.size_push]; exact Nat.lt_succ_self _
 have h:∀ v h' tk,v∈[v0,v1]→(∀ u∈[v0,v1],ple (g v) (g u))→(∀ b o,(s.heap.push { cls:=.type "tuple",data:=.seq #[v0,v1] }).get? b=some o→h'.get? b=some o)→Q v { s with heap:=h',toks:=tk }:=fun v h' tk a b c=>h v h' tk a b fun x o e=>c x o (kp0 x o e);generalize hsh:s.heap.push { cls:=.type "tuple",data:=.seq #[v0,v1] }=sh at hl kp0 hp0 hlt h ⊢
 show wpAny _ _ _ _ _ { s with heap:=sh }
 generalize s.heap.objs.size=l at hl hlt ⊢;generalize [v0,v1]=vs at hl hp0 hne h ⊢;clear hsh kp0 hp;obtain ⟨s',hs'⟩:∃ s',s'=({ s with heap:=sh }:Shared):=⟨_,rfl⟩
 rw [← hs'];have eh:s'.heap=sh:=by rw [hs']
 have hp:∀ v∈vs,bw s'.heap v (g v):=by rw [eh]; exact hp0
 have hl:s'.heap.IsTuple l vs.toArray:=by rw [eh]; exact hl
 have hlt:l<s'.heap.objs.size:=by rw [eh]; exact hlt
 have h:∀ v h' tk,v∈vs→(∀ u∈vs,ple (g v) (g u))→(∀ b o,s'.heap.get? b=some o→h'.get? b=some o)→Q v { s' with heap:=h',toks:=tk }:=fun v h' tk a b c=>by
  have:=h v h' tk a b (by rw [← eh]; exact c)
  rw [hs']; exact this
 clear hs' eh hp0
 (refine wpAny_bind (wpAny_pyIter_tuple hl ?_); refine wpAny_bind (wpAny_newObj_type ?_); rw [nm])
 generalize hI:s'.heap.objs.size=I;have hS:(s'.heap.push { cls:=.type "tuple_iterator",data:=.fields #[.ref l,.int 0 0] }).objs.size=I+1:=by rw [Heap.size_push,hI]
 have kp:∀ b o,s'.heap.get? b=some o→((s'.heap.push { cls:=.type "tuple_iterator",data:=.fields #[.ref l,.int 0 0] }).push { cls:=.type "list",data:=.seq #[] }).get? b=some o:=fun b o e=>Heap.get?_push_of_some _ (Heap.get?_push_of_some _ e);have hSI:I+1≠I:=Nat.succ_ne_self I;have hlI:l≠I:=by rw [← hI]; exact Nat.ne_of_lt hlt
 have hSl:I+1≠l:=by rw [← hI]; exact Nat.ne_of_gt (Nat.lt_succ_of_lt hlt)
 have hap:bK ((s'.heap.push { cls:=.type "tuple_iterator",data:=.fields #[.ref l,.int 0 0] }).push { cls:=.type "list",data:=.seq #[] }) vs g I (I+1):=by
  intro v hv;obtain ⟨b,o,t,u,n,rfl,h1,h2,h3⟩:=hp v hv;have hb:=Heap.lt_size h1;rw [hI] at hb;refine ⟨⟨b,o,t,u,n,rfl,kp _ _ h1,h2,h3⟩,(fun e=>?_),(fun e=>?_)⟩
  ·injection e with e; rw [e] at hb; exact Nat.lt_irrefl _ hb
  ·injection e with e; rw [e] at hb; exact absurd hb (Nat.not_lt.mpr (Nat.le_succ _))
 have it0:((s'.heap.push { cls:=.type "tuple_iterator",data:=.fields #[.ref l,.int 0 0] }).push { cls:=.type "list",data:=.seq #[] }).IsTupleIter I l 0:=⟨_,Heap.get?_push_of_some _ (by rw [← hI]; exact Heap.get?_push_size _ rfl),rfl,rfl⟩
 have hl2:((s'.heap.push { cls:=.type "tuple_iterator",data:=.fields #[.ref l,.int 0 0] }).push { cls:=.type "list",data:=.seq #[] }).IsTuple l vs.toArray:=hl.at fun o e=>kp l o e;have hS0:((s'.heap.push { cls:=.type "tuple_iterator",data:=.fields #[.ref l,.int 0 0] }).push { cls:=.type "list",data:=.seq #[] }).get? (I+1)=some { cls:=.type "list",dict:=none,data:=.seq #[] 0,slots:=#[] }:=by rw [← hS]; exact Heap.get?_push_size _ rfl
 show wpAny _ _ (pure (Fin.again (.builtin "min.loop" ⟨[.ref I,.none,.ref (s'.heap.push { cls:=.type "tuple_iterator",data:=.fields #[.ref l,.int 0 0] }).objs.size],[]⟩))) _ _ { s' with heap:=(s'.heap.push { cls:=.type "tuple_iterator",data:=.fields #[.ref l,.int 0 0] }).push { cls:=.type "list",data:=.seq #[] } }
 rw [hS];generalize (s'.heap.push { cls:=.type "tuple_iterator",data:=.fields #[.ref l,.int 0 0] }).push { cls:=.type "list",data:=.seq #[] }=h2 at kp hap it0 hl2 hS0 ⊢;have W:=Walks.tuple (prog:=prog) (w:=w) (A:=A.in1) hh I l hlI vs.toArray;have sz:vs.toArray.size=vs.length:=by simp
 have pos:0<vs.length:=List.length_pos_iff.mpr hne;refine wpAny_pure ⟨plainId_quiet F.plain_min_loop _,?_⟩
 (refine codeAny_builtin F.entry_min_loop ?_; rw [Around.under_plainId F.plain_min_loop _]; show wpAny _ A.in1 (seqItems? (.ref (I+1)) >>= _) _ _ _; refine wpAny_bind (wpAny_seqItems hS0 rfl ?_))
 (show wpAny _ A.in1 (tryCatch (pyNext (.ref I)) _ >>= _) _ _ _; refine wpAny_bind (wpAny_tryCatch (W.item 0 { s' with heap:=h2 } _ _ (by omega) ⟨it0,hl2⟩ fun v h' tk hP hst' hk'=>?_)))
 have hS':=hk' (I+1) _ (by simp) hS0;have hap':bK h' vs g I (I+1):=hap.keep fun b o hI _ e=>hk' b o (by simp [hI]) e;have hv:vs[0]?=some v:=by rw [← hP]; simp
 (show wpAny _ A.in1 (updateSeq (I+1) (fun _=>#[v,v]) >>= _) _ _ _; refine wpAny_bind ?_; refine wpAny_updateSeq hS' rfl ?_; rw [nm])
 have kp2:∀ b o,b≠I+1→h'.get? b=some o→(h'.update (I+1) (Obj.mapSeq fun _=>#[v,v])).get? b=some o:=fun b o hbS e=>(Heap.get?_update_other _ _ (Ne.symm hbS)).trans e;refine wpAny_pure ⟨plainId_quiet F.plain_min_loop _,xi (g:=g) (by omega) hh hlI hSI hSl _ 0 _ v _ rfl (by omega) (hst'.1.at fun o e=>kp2 I o (Ne.symm hSI) e) (hst'.2.at fun o e=>kp2 l o (Ne.symm hSl) e) (hap'.keep fun b o _ hbS e=>kp2 b o hbS e) (List.mem_of_getElem? hv) (fun i u hi hu'=>?_) (Heap.get?_update_self _ hS' rfl) fun v' h'' tk'' hm hmi hk''=>?_⟩
 ·have:i=0:=by omega
  subst this;rw [hv] at hu'; cases hu';exact dg _
 ·refine h v' h'' tk'' hm hmi fun b o e=>?_;have hb:=Heap.lt_size e;rw [hI] at hb;have n1:b≠I:=Nat.ne_of_lt hb;have n2:b≠I+1:=Nat.ne_of_lt (Nat.lt_succ_of_lt hb);exact hk'' b o n1 n2 (kp2 b o n2 (hk' b o (by simp [n1]) (kp b o e)))
theorem xg {R:Result→Shared→Prop} {I l S:Addr} {vs:List Value} {g:Value→Int×Int} (hu:A.units+8<cLine) (hh:A.in1.handled=none) (hl:l≠I) (hSI:S≠I) (hSl:S≠l) :
  ∀ (k j:Nat) (s:Shared) (vb:Value) (c:Nat),vs.length - (j+1)=k→j+1≤vs.length→s.heap.IsTupleIter I l (j+1)→s.heap.IsTuple l vs.toArray→bK s.heap vs g I S→vb∈vs→(∀ i v,i≤j→vs[i]?=some v→ple (g v) (g vb)) →
  s.heap.get? S=some { cls:=.type "list",dict:=none,data:=.seq #[vb,vb] c,slots:=#[] } →
  (∀ v h' tk,v∈vs→(∀ u∈vs,ple (g u) (g v))→(∀ b o,b≠I→b≠S→s.heap.get? b=some o→h'.get? b=some o)→R (.ok (.ret v)) { s with heap:=h',toks:=tk }) →
  codeAny (model prog w) A (.builtin "max.loop" ⟨[.ref I,.none,.ref S],[]⟩) R s:=by
 have W:=Walks.tuple (prog:=prog) (w:=w) hh I l hl vs.toArray;have nm:(toString "max"++toString ".loop":String)="max.loop":=by decide
 have sz:vs.toArray.size=vs.length:=by simp
 intro k
 induction k with
 | zero =>
  intro j s vb c hk hj hit hls hap hvb hmin hS hR
  (refine codeAny_builtin F.entry_max_loop ?_; rw [Around.under_plainId F.plain_max_loop _]; show wpAny _ A.in1 (seqItems? (.ref S) >>= _) _ _ s; refine wpAny_bind (wpAny_seqItems hS rfl ?_))
  (show wpAny _ A.in1 (tryCatch (pyNext (.ref I)) _ >>= _) _ _ s; refine wpAny_bind (wpAny_tryCatch (W.done s _ _ ⟨by rw [sz,show vs.length=j+1 by omega]; exact hit,hls⟩ fun h' tk hk'=>?_)))
  have hS':=hk' S _ (by simp [hSI]) hS
  (show wpAny _ A.in1 (updateSeq S (fun _=>#[]) >>= _) _ _ _; refine wpAny_bind ?_; refine wpAny_updateSeq hS' rfl (wpAny_bind (wpAny_letGo (wpAny_pure ?_))))
  refine hR vb _ tk hvb (fun u hu'=>?_) fun b o hI hbS e=>(Heap.get?_update_other _ _ (Ne.symm hbS)).trans (hk' b o (by simp [hI]) e);obtain ⟨i,hi⟩:=List.mem_iff_getElem?.mp hu';exact hmin i u (by have:=(List.getElem?_eq_some_iff.mp hi).1; omega) hi
 | succ k ih =>
  intro j s vb c hk hj hit hls hap hvb hmin hS hR
  (refine codeAny_builtin F.entry_max_loop ?_; rw [Around.under_plainId F.plain_max_loop _]; show wpAny _ A.in1 (seqItems? (.ref S) >>= _) _ _ s; refine wpAny_bind (wpAny_seqItems hS rfl ?_))
  (show wpAny _ A.in1 (tryCatch (pyNext (.ref I)) _ >>= _) _ _ s; refine wpAny_bind (wpAny_tryCatch (W.item (j+1) s _ _ (by omega) ⟨hit,hls⟩ fun v h' tk hP hst' hk'=>?_)))
  have hS':=hk' S _ (by simp [hSI]) hS;have hap':bK h' vs g I S:=hap.keep fun b o hI _ e=>hk' b o (by simp [hI]) e;have hv:vs[j+1]?=some v:=by rw [← hP]; simp
  have hvm:v∈vs:=List.mem_of_getElem? hv
  (show wpAny _ A.in1 (tryCatch (holding [v,v] (richCompare .Gt v vb >>= _)) _ >>= _) _ _ _; refine wpAny_bind (wpAny_tryCatch (wpAny_holding (wpAny_bind (ko (s:={ s with heap:=h',toks:=tk }) (by show A.units+1<cLine; omega) (hap' v hvm).1 (hap' vb hvb).1 ?_)))))
  (refine wpAny_bind (wpAny_holding (wpAny_truthy_bool ?_)); refine wpAny_bind (wpAny_letGo (wpAny_pure ?_)))
  cases hb:plt (g vb) (g v) with
  | true =>
   simp only [if_true]
   (refine wpAny_bind ?_; refine wpAny_updateSeq hS' rfl (wpAny_bind (wpAny_letGo ?_)); rw [nm])
   have kp:∀ b o,b≠S→h'.get? b=some o→(h'.update S (Obj.mapSeq fun _=>#[v,v])).get? b=some o:=fun b o hbS e=>(Heap.get?_update_other _ _ (Ne.symm hbS)).trans e;refine wpAny_pure ⟨plainId_quiet F.plain_max_loop _,ih (j+1) _ v _ (by omega) (by omega) (hst'.1.at fun o e=>kp I o (Ne.symm hSI) e) (hst'.2.at fun o e=>kp l o (Ne.symm hSl) e) (hap'.keep fun b o _ hbS e=>kp b o hbS e) hvm (fun i u hi hu'=>?_) (Heap.get?_update_self _ hS' rfl) fun v' h'' tk'' hm hmi hk''=>?_⟩
   ·have hlt:=iT.mp hb;have:ple (g vb) (g v):=by unfold ple; omega
    by_cases hij:i≤j
    ·exact iF (hmin i u hij hu') this
    ·have:i=j+1:=by omega
     subst this;rw [hv] at hu'; cases hu';exact dg _
   ·exact hR v' h'' tk'' hm hmi fun b o hI hbS e=>hk'' b o hI hbS (kp b o hbS (hk' b o (by simp [hI]) e))
  | false =>
   simp only [Bool.false_eq_true,if_false]
   (refine wpAny_bind (wpAny_letGo ?_); rw [nm])
   refine wpAny_pure ⟨plainId_quiet F.plain_max_loop _,ih (j+1) _ vb c (by omega) (by omega) hst'.1 hst'.2 hap' hvb (fun i u hi hu'=>?_) hS' fun v' h'' tk'' hm hmi hk''=>?_⟩
   ·by_cases hij:i≤j
    ·exact hmin i u hij hu'
    ·have:i=j+1:=by omega
     subst this;rw [hv] at hu'; cases hu';exact cE.mp hb
   ·exact hR v' h'' tk'' hm hmi fun b o hI hbS e=>hk'' b o hI hbS (hk' b o (by simp [hI]) e)
theorem pS {v0 v1:Value} {g:Value→Int×Int} {Q:Value→Shared→Prop} (hu:A.units+16<cLine) (hh:A.handled=none) (hp:∀ v∈[v0,v1],bw s.heap v (g v))
  (h:∀ v h' tk,v∈[v0,v1]→(∀ u∈[v0,v1],ple (g u) (g v))→(∀ b o,s.heap.get? b=some o→h'.get? b=some o)→Q v { s with heap:=h',toks:=tk }):wpAny (model prog w) A (call (.builtin "max") [v0,v1]) Q E s:=by
 have nm:(toString "max"++toString ".loop":String)="max.loop":=by decide
 refine call_function_tree F.kind_max F.plain_max F.entry_max (F.args_max2 _ _) ?_
 show wpAny _ A.in1 (Builtin.Builtins.bindParams "max" ["key","default"] 0 ⟨[],[]⟩ >>= _) _ _ s
 refine wpAny_bind (wpAny_of_eq (show Builtin.Builtins.bindParams "max" ["key","default"] 0 ⟨[],[]⟩=pure [none,none] from rfl) ?_)
 show wpAny _ A.in1 (newTuple [v0,v1] >>= _) _ _ s
 refine wpAny_bind (wpAny_newObj_type ?_);have hl:(s.heap.push { cls:=.type "tuple",data:=.seq #[v0,v1] }).IsTuple s.heap.objs.size [v0,v1].toArray:=⟨_,Heap.get?_push_size _ rfl,rfl,0,by simp⟩
 have kp0:∀ b o,s.heap.get? b=some o→(s.heap.push { cls:=.type "tuple",data:=.seq #[v0,v1] }).get? b=some o:=fun b o e=>Heap.get?_push_of_some _ e;have hp0:∀ v∈[v0,v1],bw (s.heap.push { cls:=.type "tuple",data:=.seq #[v0,v1] }) v (g v):=fun v hv=>by
  obtain ⟨b,o,t,u,n,rfl,h1,h2,h3⟩:=hp v hv;exact ⟨b,o,t,u,n,rfl,kp0 _ _ h1,h2,h3⟩
 have hne:[v0,v1]≠[]:=by simp
 have hlt:s.heap.objs.size<(s.heap.push { cls:=.type "tuple",data:=.seq #[v0,v1] }).objs.size:=by rw [Heap.size_push]; exact Nat.lt_succ_self _
 have h:∀ v h' tk,v∈[v0,v1]→(∀ u∈[v0,v1],ple (g u) (g v))→(∀ b o,(s.heap.push { cls:=.type "tuple",data:=.seq #[v0,v1] }).get? b=some o→h'.get? b=some o)→Q v { s with heap:=h',toks:=tk }:=fun v h' tk a b c=>h v h' tk a b fun x o e=>c x o (kp0 x o e);generalize hsh:s.heap.push { cls:=.type "tuple",data:=.seq #[v0,v1] }=sh at hl kp0 hp0 hlt h ⊢
 show wpAny _ _ _ _ _ { s with heap:=sh }
 generalize s.heap.objs.size=l at hl hlt ⊢;generalize [v0,v1]=vs at hl hp0 hne h ⊢;clear hsh kp0 hp;obtain ⟨s',hs'⟩:∃ s',s'=({ s with heap:=sh }:Shared):=⟨_,rfl⟩
 rw [← hs'];have eh:s'.heap=sh:=by rw [hs']
 have hp:∀ v∈vs,bw s'.heap v (g v):=by rw [eh]; exact hp0
 have hl:s'.heap.IsTuple l vs.toArray:=by rw [eh]; exact hl
 have hlt:l<s'.heap.objs.size:=by rw [eh]; exact hlt
 have h:∀ v h' tk,v∈vs→(∀ u∈vs,ple (g u) (g v))→(∀ b o,s'.heap.get? b=some o→h'.get? b=some o)→Q v { s' with heap:=h',toks:=tk }:=fun v h' tk a b c=>by
  have:=h v h' tk a b (by rw [← eh]; exact c)
  rw [hs']; exact this
 clear hs' eh hp0
 (refine wpAny_bind (wpAny_pyIter_tuple hl ?_); refine wpAny_bind (wpAny_newObj_type ?_); rw [nm])
 generalize hI:s'.heap.objs.size=I;have hS:(s'.heap.push { cls:=.type "tuple_iterator",data:=.fields #[.ref l,.int 0 0] }).objs.size=I+1:=by rw [Heap.size_push,hI]
 have kp:∀ b o,s'.heap.get? b=some o→((s'.heap.push { cls:=.type "tuple_iterator",data:=.fields #[.ref l,.int 0 0] }).push { cls:=.type "list",data:=.seq #[] }).get? b=some o:=fun b o e=>Heap.get?_push_of_some _ (Heap.get?_push_of_some _ e);have hSI:I+1≠I:=Nat.succ_ne_self I;have hlI:l≠I:=by rw [← hI]; exact Nat.ne_of_lt hlt
 have hSl:I+1≠l:=by rw [← hI]; exact Nat.ne_of_gt (Nat.lt_succ_of_lt hlt)
 have hap:bK ((s'.heap.push { cls:=.type "tuple_iterator",data:=.fields #[.ref l,.int 0 0] }).push { cls:=.type "list",data:=.seq #[] }) vs g I (I+1):=by
  intro v hv;obtain ⟨b,o,t,u,n,rfl,h1,h2,h3⟩:=hp v hv;have hb:=Heap.lt_size h1;rw [hI] at hb;refine ⟨⟨b,o,t,u,n,rfl,kp _ _ h1,h2,h3⟩,(fun e=>?_),(fun e=>?_)⟩
  ·injection e with e; rw [e] at hb; exact Nat.lt_irrefl _ hb
  ·injection e with e; rw [e] at hb; exact absurd hb (Nat.not_lt.mpr (Nat.le_succ _))
 have it0:((s'.heap.push { cls:=.type "tuple_iterator",data:=.fields #[.ref l,.int 0 0] }).push { cls:=.type "list",data:=.seq #[] }).IsTupleIter I l 0:=⟨_,Heap.get?_push_of_some _ (by rw [← hI]; exact Heap.get?_push_size _ rfl),rfl,rfl⟩
 have hl2:((s'.heap.push { cls:=.type "tuple_iterator",data:=.fields #[.ref l,.int 0 0] }).push { cls:=.type "list",data:=.seq #[] }).IsTuple l vs.toArray:=hl.at fun o e=>kp l o e;have hS0:((s'.heap.push { cls:=.type "tuple_iterator",data:=.fields #[.ref l,.int 0 0] }).push { cls:=.type "list",data:=.seq #[] }).get? (I+1)=some { cls:=.type "list",dict:=none,data:=.seq #[] 0,slots:=#[] }:=by rw [← hS]; exact Heap.get?_push_size _ rfl
 show wpAny _ _ (pure (Fin.again (.builtin "max.loop" ⟨[.ref I,.none,.ref (s'.heap.push { cls:=.type "tuple_iterator",data:=.fields #[.ref l,.int 0 0] }).objs.size],[]⟩))) _ _ { s' with heap:=(s'.heap.push { cls:=.type "tuple_iterator",data:=.fields #[.ref l,.int 0 0] }).push { cls:=.type "list",data:=.seq #[] } }
 rw [hS];generalize (s'.heap.push { cls:=.type "tuple_iterator",data:=.fields #[.ref l,.int 0 0] }).push { cls:=.type "list",data:=.seq #[] }=h2 at kp hap it0 hl2 hS0 ⊢;have W:=Walks.tuple (prog:=prog) (w:=w) (A:=A.in1) hh I l hlI vs.toArray;have sz:vs.toArray.size=vs.length:=by simp
 have pos:0<vs.length:=List.length_pos_iff.mpr hne;refine wpAny_pure ⟨plainId_quiet F.plain_max_loop _,?_⟩
 (refine codeAny_builtin F.entry_max_loop ?_; rw [Around.under_plainId F.plain_max_loop _]; show wpAny _ A.in1 (seqItems? (.ref (I+1)) >>= _) _ _ _; refine wpAny_bind (wpAny_seqItems hS0 rfl ?_))
 (show wpAny _ A.in1 (tryCatch (pyNext (.ref I)) _ >>= _) _ _ _; refine wpAny_bind (wpAny_tryCatch (W.item 0 { s' with heap:=h2 } _ _ (by omega) ⟨it0,hl2⟩ fun v h' tk hP hst' hk'=>?_)))
 have hS':=hk' (I+1) _ (by simp) hS0;have hap':bK h' vs g I (I+1):=hap.keep fun b o hI _ e=>hk' b o (by simp [hI]) e;have hv:vs[0]?=some v:=by rw [← hP]; simp
 (show wpAny _ A.in1 (updateSeq (I+1) (fun _=>#[v,v]) >>= _) _ _ _; refine wpAny_bind ?_; refine wpAny_updateSeq hS' rfl ?_; rw [nm])
 have kp2:∀ b o,b≠I+1→h'.get? b=some o→(h'.update (I+1) (Obj.mapSeq fun _=>#[v,v])).get? b=some o:=fun b o hbS e=>(Heap.get?_update_other _ _ (Ne.symm hbS)).trans e;refine wpAny_pure ⟨plainId_quiet F.plain_max_loop _,xg (g:=g) (by omega) hh hlI hSI hSl _ 0 _ v _ rfl (by omega) (hst'.1.at fun o e=>kp2 I o (Ne.symm hSI) e) (hst'.2.at fun o e=>kp2 l o (Ne.symm hSl) e) (hap'.keep fun b o _ hbS e=>kp2 b o hbS e) (List.mem_of_getElem? hv) (fun i u hi hu'=>?_) (Heap.get?_update_self _ hS' rfl) fun v' h'' tk'' hm hmi hk''=>?_⟩
 ·have:i=0:=by omega
  subst this;rw [hv] at hu'; cases hu';exact dg _
 ·refine h v' h'' tk'' hm hmi fun b o e=>?_;have hb:=Heap.lt_size e;rw [hI] at hb;have n1:b≠I:=Nat.ne_of_lt hb;have n2:b≠I+1:=Nat.ne_of_lt (Nat.lt_succ_of_lt hb);exact hk'' b o n1 n2 (kp2 b o n2 (hk' b o (by simp [n1]) (kp b o e)))
end
end Ts
namespace L2
open PySem PySem.Spec PyProof.Rows
noncomputable def mnP (p q:Int×Int):Int×Int:=if Ts.plt q p=true then q else p
noncomputable def mxP (p q:Int×Int):Int×Int:=if Ts.plt p q=true then q else p
theorem jN {h:Heap} {v:Value} {p q:Int×Int} (a:Ts.bw h v p) (b:Ts.bw h v q):p=q:=by
 obtain ⟨b1,o,t,u,n,rfl,h1,h2,h3⟩:=a;obtain ⟨b2,o',t',u',n',e,h1',h2',h3'⟩:=b
 cases e;rw [h1] at h1'
 cases h1';rw [h3] at h3';injection h3' with e e';have e2:=congrArg Array.toList e;simp at e2
 exact Prod.ext e2.1.1 e2.2.1
theorem xj {p q:Int×Int} (h:Ts.ple p q):mnP p q=p:=by
 unfold mnP;rw [Ts.cE.mpr h,if_neg (by decide)]
theorem zX {p q:Int×Int} (h:Ts.ple q p):mnP p q=q:=by
 unfold mnP;by_cases c:Ts.plt q p=true
 ·rw [if_pos c]
 ·rw [if_neg c];have h2:=Ts.cE.mp (by simpa using c:Ts.plt q p=false);unfold Ts.ple at h h2;exact Prod.ext (by omega) (by omega)
theorem xk {p q:Int×Int} (h:Ts.ple q p):mxP p q=p:=by
 unfold mxP;rw [Ts.cE.mpr h,if_neg (by decide)]
theorem zY {p q:Int×Int} (h:Ts.ple p q):mxP p q=q:=by
 unfold mxP;by_cases c:Ts.plt p q=true
 ·rw [if_pos c]
 ·rw [if_neg c];have h2:=Ts.cE.mp (by simpa using c:Ts.plt p q=false);unfold Ts.ple at h h2;exact Prod.ext (by omega) (by omega)
noncomputable def vf (f:Int×Int→Int×Int→Int×Int):List V→Hp→VK→Prop:=fun xs H Q=>∃ x y p q,xs=[x,y]∧PtV H x p∧PtV H y q∧∀ v,PtV H v (f p q)→Q v H
theorem tS {X:Cx} (hc:X.calm=true) (hu:X.A.units+64<cLine):bI X (.builtin "min") (vf mnP):=by
 intro pins s σ H xs us Q I hv h;obtain ⟨x,y,p,q,rfl,hx,hy,k⟩:=h;obtain ⟨u0,u1,rfl,r0,r1⟩:=rH hv;have p0:=dQ I hx r0;have p1:=dQ I hy r1;refine Ts.pT (g:=fun u=>if u=u0 then p else q) (by omega) (I.ok.hd hc) (fun v hv=>?_) fun v h' tk hm hmin hk=>?_
 ·by_cases e:v=u0
  ·rw [if_pos e,e]; exact p0
  ·rw [if_neg e];rcases List.mem_cons.mp hv with z | z
   ·exact absurd z e
   ·rw [List.mem_singleton.mp z]; exact p1
 ·have m0:=hmin u0 (by simp);have m1:=hmin u1 (by simp);rw [if_pos rfl] at m0;by_cases e:v=u0
  ·subst e;rw [if_pos rfl] at m1;refine ⟨x,H,I.kept hk,r0,k x ?_⟩;by_cases e1:u1=v
   ·rw [e1] at p1;rw [jN p1 p0,xj (Ts.dg _)]; exact hx
   ·rw [if_neg e1] at m1;rw [xj m1]; exact hx
  ·rw [if_neg e] at m0
   have ev:v=u1:=by
    rcases List.mem_cons.mp hm with z | z
    ·exact absurd z e
    ·exact List.mem_singleton.mp z
   subst ev;refine ⟨y,H,I.kept hk,r1,k y ?_⟩;rw [zX m0]; exact hy
theorem tR {X:Cx} (hc:X.calm=true) (hu:X.A.units+64<cLine):bI X (.builtin "max") (vf mxP):=by
 intro pins s σ H xs us Q I hv h;obtain ⟨x,y,p,q,rfl,hx,hy,k⟩:=h;obtain ⟨u0,u1,rfl,r0,r1⟩:=rH hv;have p0:=dQ I hx r0;have p1:=dQ I hy r1;refine Ts.pS (g:=fun u=>if u=u0 then p else q) (by omega) (I.ok.hd hc) (fun v hv=>?_) fun v h' tk hm hmin hk=>?_
 ·by_cases e:v=u0
  ·rw [if_pos e,e]; exact p0
  ·rw [if_neg e];rcases List.mem_cons.mp hv with z | z
   ·exact absurd z e
   ·rw [List.mem_singleton.mp z]; exact p1
 ·have m0:=hmin u0 (by simp);have m1:=hmin u1 (by simp);rw [if_pos rfl] at m0;by_cases e:v=u0
  ·subst e;rw [if_pos rfl] at m1;refine ⟨x,H,I.kept hk,r0,k x ?_⟩;by_cases e1:u1=v
   ·rw [e1] at p1;rw [jN p1 p0,xk (Ts.dg _)]; exact hx
   ·rw [if_neg e1] at m1;rw [xk m1]; exact hx
  ·rw [if_neg e] at m0
   have ev:v=u1:=by
    rcases List.mem_cons.mp hm with z | z
    ·exact absurd z e
    ·exact List.mem_singleton.mp z
   subst ev;refine ⟨y,H,I.kept hk,r1,k y ?_⟩;rw [zY m0]; exact hy
theorem sE {X:Cx}:MtR X "list.count" ji:=sD
theorem vJ {f:Int×Int→Int×Int→Int×Int} {x y:V} {p q:Int×Int} {H:Hp} {Q:VK} (hx:PtV H x p) (hy:PtV H y q) (k:∀ v,PtV H v (f p q)→Q v H):vf f [x,y] H Q:=⟨x,y,p,q,rfl,hx,hy,k⟩
end L2
namespace L2
open PySem PySem.Spec PyProof.Rows PySem.W Builtin Builtin.ObjectAttr Builtin.Getset_descriptor
end L2
namespace L2
open PySem PySem.Spec PyProof.Rows PySem.W
end L2
namespace Fc
noncomputable def it:Nat→Nat→Nat
 | 0,x=>x
 | n+1,x=>it n (5*x+1)
noncomputable def lp (M:Nat):Nat→Nat×Nat→Nat×Nat
 | 0,q=>q
 | r+1,q=>lp M r ((q.1*5+1+q.2 / 32)%M,q.2 / 32)
end Fc
namespace Fc
open PySem PySem.SetTable
noncomputable def st (mask:Nat) (q:Nat×Nat):Probe:={ j:=q.1,more:=runEnd mask q.1 - q.1,i:=q.1,perturb:=q.2,dummy:=none }
noncomputable def pr (t:SetTable) (h:Int):Nat→Probe
 | 0=>t.probeStart h
 | m+1=>t.advance (pr t h m)
end Fc
namespace Fc
open PySem PySem.SetTable PyProof.Rows
section
variable {prog:Program} {w:World} {A:Around} {E:Value→Shared→Prop} {s:Shared}
noncomputable abbrev TK (prog:Program) (w:World) (h:Heap) (q:List Int) (b:Addr):Prop:=IsTupleKey (intKind prog w) h q b
end
end Fc
namespace Fc
open PySem PySem.SetTable PyProof.Rows
section
variable {prog:Program} {w:World} {A:Around} {E:Value→Shared→Prop} {s:Shared}
noncomputable def Els (prog:Program) (w:World) (h:Heap) (es:Array (Int×Value)) (ks:List (List Int)):Prop:=∀ e∈es.toList,∃ q∈ks,∃ b,e.2=.ref b∧TK prog w h q b
end
end Fc
namespace Fc
open PySem PySem.SetTable PyProof.Rows
end Fc
namespace Fc
open PySem PySem.SetTable PyProof.Rows
section
variable {prog:Program} {w:World} {A:Around} {E:Value→Shared→Prop} {s:Shared}
noncomputable def BW (prog:Program) (w:World) (h:Heap) (a:Addr) (ks:List (List Int)):Prop:=∃ o es ep t k,h.get? a=some o∧o.ExactSet∧o.data=.set es ep t∧t.mask+1=2 ^ k∧3≤k∧k≤13∧t.dummies=#[]∧t.place.size=es.size∧es.size=ks.length∧es.size*5<t.mask*3∧Els prog w h es ks
end
end Fc
namespace Fc
open PySem PySem.SetTable PyProof.Rows
end Fc
namespace L2
open PySem PySem.Spec PyProof.Rows PySem.W
theorem yf {k:Key} {v:Value} (h:jJ k v=true):aQ (kV k) v:=by
 rcases bJ h with ⟨i,t,rfl,rfl⟩ | ⟨x,t,rfl,rfl⟩
 ·exact ⟨t,rfl⟩
 ·exact ⟨t,rfl⟩
noncomputable def Itk (d:Addr) (F:HO) (kvs:List (Key×V)):It :=
 ⟨fun i H=>H d=some F∧i<kvs.length,fun i H x H'=>H'=H∧∃ k v,kvs[i]?=some (k,v)∧x=kV k,fun i H=>H d=some F∧kvs.length≤i⟩
theorem tE {P:Program} {w:World} {K:W.Frag} {tg:Expr} (d it:Addr) (kvs:List (Key×V)) (vs:List (Key×Value)) (ep:Nat) :
  pB P w K tg (Itk d (FzO P w d kvs vs ep) kvs) [it] it (fun i h=>h.IsKeyIter it d i vs.length ep) where
 mem:=by simp
 obj:=fun i h st b hb=>by
  have e:b=it:=by simpa using hb
  subst e;obtain ⟨o,e,c,d⟩:=st;exact ⟨o,e,fun v z=>by rw [d] at z; cases z⟩
 keep:=fun i h h' st k=>st.at fun o e=>k it (by simp) o e
 item:=by
  intro X hP hw hK hc i pins s σ H E I hf st hg;subst hP hw hK;obtain ⟨hd,hi⟩:=hg;obtain ⟨⟨z,lo,rel,at'⟩,_,_⟩:=(show bg X.prog X.w H s.heap d (.ext (wC X.prog X.w d kvs vs ep)) from I.hok d _ hd)
  have hl:i<vs.length:=by rw [← rel.length]; exact hi
  obtain ⟨⟨k,u⟩,hu⟩:∃ q,vs[i]?=some q:=⟨_,List.getElem?_eq_getElem hl⟩
  obtain ⟨x,hx,ru⟩:=uw rel hu;obtain ⟨f0,f1,f2,f3,f4,f5⟩:=hf it (by simp);refine wpAny_pyNext_dict_item st at' hu fun key h' hk st' sb=>?_;have I1:Inv X pins σ H { s with heap:=h' }:=I.turned (t':=s.toks) (fun b o hb e=>(sb.2 b hb).trans e) f0 f1 f3 f4 f5;obtain ⟨o,e,c,dd⟩:=id st';exact ⟨key,rfl,ui (s:={ s with heap:=h' }) e c dd (by decide) ⟨kV k,H,I1,yf hk,⟨rfl,k,x,hx,rfl⟩,st',fun b hb=>(hf b hb).1⟩⟩
 done:=by
  intro X hP hw hK hc i pins s σ H E I hf st hg;subst hP hw hK;obtain ⟨hd,hi⟩:=hg;obtain ⟨⟨z,lo,rel,at'⟩,_,_⟩:=(show bg X.prog X.w H s.heap d (.ext (wC X.prog X.w d kvs vs ep)) from I.hok d _ hd)
  obtain ⟨f0,f1,f2,f3,f4,f5⟩:=hf it (by simp);exact wpAny_pyNext_dict_end (I.ok.hd hc) st at' (List.getElem?_eq_none (by rw [← rel.length]; exact hi)) fun h' eb=>⟨rfl,I.turned (t':=s.toks) (fun b o hb e=>eb b o hb e) f0 f1 f3 f4 f5⟩
 self:=fun _ _ _ _ _ st h=>wpAny_pyIter_keyiter st h
noncomputable def yL (P:Program) (w:World) (tl:TE):TI:=fun σ H R=>tl σ H fun x H1=>∃ d kvs,x=.ref d∧H1 d=some (.dK kvs)∧∀ F,wD P w d kvs F→R (Itk d F kvs) (upd H1 d F)
theorem vA {P:Program} {w:World} {tl:TE} {σ:St} {H:Hp} {R:It→Hp→Prop} (h:tl σ H fun x H1=>∃ d kvs,x=.ref d∧H1 d=some (.dK kvs)∧∀ F,wD P w d kvs F→R (Itk d F kvs) (upd H1 d F)):yL P w tl σ H R:=h
theorem xw {X:Cx} {tg l:Expr} {tl:TE} (hl:PE X l tl):PI X tg l (yL X.prog X.w tl):=by
 intro pins s σ H R I h;refine thn (hl pins s σ H _ I h) fun v s1 ⟨x,H1,I1,r1,q1⟩=>?_;obtain ⟨d,kvs,e,hd,q⟩:=q1;subst e
 cases r1;obtain ⟨z,lo,_,_,_⟩:=t9 I1.hok hd;obtain ⟨vs,ep,I2,at'⟩:=I1.freeze hd;refine wpAny_pyIter_dict lo at' ?_;refine ⟨s1.heap.objs.size,[s1.heap.objs.size],_,_,_,rfl,I2.kept (t':=s1.toks) fun b o e=>Heap.get?_push_of_some _ e,tE d _ kvs vs ep,⟨_,Heap.get?_push_size _ rfl,rfl,rfl⟩,fun b hb=>?_,q _ ⟨vs,ep,rfl⟩⟩;have e:b=s1.heap.objs.size:=by simpa using hb
 subst e;exact I2.fpOk (Nat.le_refl _) (I2.hok.fresh (Nat.le_refl _))
end L2
namespace L2
open PySem PySem.Spec PyProof.Rows
open Builtin Builtin.Str
noncomputable def B9 (neg:Bool):R2:=fun x y H Q=>∃ (a b:Addr) (xs:List V),x=.ref a∧y=.ref b∧H a=some (.lst xs)∧H b=some (.lst [])∧Q (.bl (if neg then !xs.isEmpty else xs.isEmpty)) H
theorem wt {us:List Value} (h:Vals [] us):us=[]:=by cases h; rfl
theorem Ac {X:Cx} (hu:X.A.units+64<cLine):OpR X (compareOp .Eq) (B9 false):=by
 intro pins s σ H x y v u Q I rx ry h;obtain ⟨a,b,xs,rfl,rfl,ha,hb,q⟩:=h
 cases (show v=Value.ref a from rx)
 cases (show u=Value.ref b from ry)
 obtain ⟨z1,us,n1,r1,o1⟩:=(show bg X.prog X.w H s.heap a (.lst xs) from I.hok a _ ha)
 obtain ⟨z2,ws,n2,r2,o2⟩:=(show bg X.prog X.w H s.heap b (.lst []) from I.hok b _ hb)
 cases wt r2
 have i1:s.heap.IsList a us.toArray:=⟨_,o1,rfl,n1,rfl⟩
 have i2:s.heap.IsList b ([]:List Value).toArray:=⟨_,o2,rfl,n2,rfl⟩
 cases r1 with
 | nil=>exact SeqAt.eq_listAt (e:=fun _=>true) i1 i2 rfl (by omega) (fun j h1 _=>absurd h1 (by simp)) ⟨.bl true,H,I,rfl,q⟩
 | cons r rs=>exact SeqAt.eq_list_lengthsAt i1 i2 (by simp) (by omega) ⟨.bl false,H,I,rfl,q⟩
end L2
namespace L2
open PySem PySem.Spec PyProof.Rows PySem.W
end L2
namespace L2
open PySem PySem.Spec PyProof.Rows
end L2
namespace L2
open PySem PySem.Spec PyProof.Rows PySem.W
open Builtin Builtin.Str
open PySem.NumText
end L2
namespace L2
open PySem PySem.Spec PyProof.Rows
end L2
namespace L2
open PySem PySem.Spec PyProof.Rows PySem.W
noncomputable def nT (n:Nat):Str:=(toString ((n:Nat):Int):String)
end L2
namespace L2
open PySem PySem.Spec PyProof.Rows
theorem rmo {j k:Nat} {A:Around} (r:b7 k A) (h:j≤k:=by first | decide | omega):b7 j A:=r.mono h
section
variable {X:Cx}
theorem aM (i:Nat) {x:Str} {e:Expr} {te:TE} {pos pos':Pos} (hN:X.N.Nodup) (he:PE X e te) (hi:X.N[i]?=some x:=by rfl) (hx:Loc X.env.scope x:=by exact Or.inl rfl) (hs:swapsWith e (some (.Name x pos')) pos.line X.env=pure false:=by rfl) (hf:X.fn x=true∨X.env.scope.names.lookup x=some .local:=by first | exact .inl rfl | exact .inr rfl | assumption) :
  PS X (.Assign [.Name x pos'] e pos) (v3 te (dw i)):=gw hN hi hx he hs hf
theorem au {r:R2} {a b:Expr} {ta tb:TE} {pos:Pos} (hr:IxR X r) (ha:PE X a ta) (hb:PE X b tb) (hs:qE b:=by exact fun _ _=>rfl):PE X (.Subscript a b pos) (tOp r ta tb):=Bl hr ha hb hs
theorem gk {op:CmpOp} {r:R2} {a b:Expr} {ta tb:TE} {pos:Pos} (ho:OpR X (compareOp op) r) (ha:PE X a ta) (hb:PE X b tb) (hm:behindInMarks op b=false:=by first | exact uF _ | rfl):PE X (.Compare a [op] [b] pos) (tOp r ta tb):=xr ho ha hb hm
theorem bQ {op:CmpOp} {r:R2} {a b:Expr} {ta tb:TE} {pos:Pos} (ho:OpR X (compareOp op) r) (ha:PE X a ta) (hb:PE X b tb) (hm:behindInMarks op b=false:=by first | exact uF _ | rfl):PT X (.Compare a [op] [b] pos) (rD (tOp r ta tb)):=xA ho ha hb hm
end
section
variable {σ:L2.St} {H:Hp} {Q:VK}
noncomputable abbrev NwT (xs:List V) (H:Hp) (Q:VK):Prop:=xs.length≤sizeLine∧∀ p,H p=none→Q (.ref p) (upd H p (.tup xs))
noncomputable abbrev NwL (xs:List V) (H:Hp) (Q:VK):Prop:=xs.length≤sizeLine∧∀ p,H p=none→Q (.ref p) (upd H p (.lst xs))
theorem yd {t:TA} (h:t σ H fun xs H1=>NwT xs H1 Q):BO t σ H Q:=h
theorem xS {t:TA} (h:t σ H fun xs H1=>NwL xs H1 Q):BL t σ H Q:=h
theorem ub {xs:List V} (z:(xs.drop 99).isEmpty=true):xs.length≤sizeLine:=by
 have:xs.drop 99=[]:=List.isEmpty_iff.mp z
 have:=List.drop_eq_nil_iff.mp this
 exact Nat.le_trans this (by decide)
theorem nwT {xs:List V} (q:∀ p H1,ah H H1→H p=none→H1 p=some (.tup xs)→Q (.ref p) H1) (z:(xs.drop 99).isEmpty=true:=by rfl):NwT xs H Q:=⟨ub z,fun p n=>q p _ (ah.new n) n ag⟩
theorem nwL {xs:List V} (q:∀ p H1,ah H H1→H p=none→H1 p=some (.lst xs)→Q (.ref p) H1) (z:(xs.drop 99).isEmpty=true:=by rfl):NwL xs H Q:=⟨ub z,fun p n=>q p _ (ah.new n) n ag⟩
theorem aT {p:Prop} [d:Decidable p] (h:p):decide p=true:=decide_eq_true h
theorem bA {p:Prop} [d:Decidable p] (h:¬ p):decide p=false:=decide_eq_false h
end
end L2
namespace My
open PySem PySem.Spec PyProof.Rows L2
noncomputable def top (i:Nat):Stmt:=PySem.Challenge.pw_sashiko_k20_whole_fences_part.main.body.getD i (.Pass ⟨0,0,0,0⟩)
noncomputable abbrev s_as:Stmt:=(top 10)
noncomputable abbrev s_ah:Stmt:=(top 11)
noncomputable abbrev s_aF:Stmt:=(top 12)
noncomputable abbrev s_at:Stmt:=(top 13)
noncomputable abbrev s_ay:Stmt:=(top 14)
noncomputable abbrev s_ag:Stmt:=(top 15)
noncomputable abbrev s_ao:Stmt:=(dN (top 33) 0)
noncomputable abbrev s_ai:Stmt:=(dN (top 34) 0)
noncomputable abbrev s_ae:Stmt:=(dN (top 33) 1)
noncomputable abbrev s_ad:Stmt:=(dN (top 33) 2)
noncomputable abbrev s_ac:Stmt:=(dN (top 33) 5)
noncomputable abbrev s_ap:Stmt:=(dN (top 33) 6)
noncomputable abbrev s_aa:Stmt:=(dN (top 33) 7)
noncomputable abbrev s_af:Stmt:=(dN (top 34) 2)
noncomputable abbrev s_ak:Stmt:=(top 17)
noncomputable abbrev s_az:Stmt:=(top 18)
noncomputable abbrev s_am:Stmt:=(top 19)
noncomputable abbrev s_aD:Stmt:=(top 20)
noncomputable abbrev s_an:Stmt:=(top 21)
noncomputable abbrev s_ar:Stmt:=(top 22)
noncomputable abbrev s_aM:Stmt:=(top 23)
noncomputable abbrev s_al:Stmt:=(top 24)
noncomputable abbrev s_aB:Stmt:=(top 25)
noncomputable abbrev s_aA:Stmt:=(top 27)
noncomputable abbrev s_aw:Stmt:=(top 28)
noncomputable abbrev s_aK:Stmt:=(top 29)
noncomputable abbrev s_au:Stmt:=(top 30)
noncomputable abbrev s_aE:Stmt:=(top 31)
noncomputable abbrev s_av:Stmt:=(top 36)
noncomputable abbrev s_aG:Stmt:=(top 37)
noncomputable abbrev s_aJ:Stmt:=(top 38)
noncomputable abbrev s_aH:Stmt:=(top 39)
noncomputable abbrev s_aI:Stmt:=(top 40)
noncomputable abbrev s_aC:Stmt:=(top 41)
noncomputable abbrev s_aq:Stmt:=(top 42)
noncomputable abbrev vO:Stmt:=(top 43)
theorem sc_as:aw ["value"] ["value"] (ak s_as):=.by
theorem sc_ah:aw ["value","bound"] ["value","bound"] (ak s_ah):=.by
theorem sc_aF:aw ["value"] ["value"] (ak s_aF):=.by
theorem sc_at:aw ["values"] ["values"] (ak s_at):=.by
theorem sc_ay:aw ["count"] ["count"] (ak s_ay):=.by
theorem sc_ag:aw ["board","x","y"] ["board","x","y"] (ak s_ag):=.by
theorem sc_ao:aw ["self","wide","tall","cols","rows"] ["self","wide","tall","cols","rows"] (ak s_ao):=.by
theorem sc_ai:aw ["self","shade","cols","rows"] ["self","shade","cols","rows"] (ak s_ai):=.by
theorem sc_ae:aw ["self"] ["self"] (ak s_ae):=.by
theorem sc_ad:aw ["self"] ["self"] (ak s_ad):=.by
theorem sc_ac:aw ["self","way"] ["self","way"] (ak s_ac):=.by
theorem sc_ap:aw ["self","way","k","bits"] ["self","way","k"] (ak s_ap):=.by
theorem sc_aa:aw ["self","way","k","step","line_bit","steps"] ["self","way","k","step"] (ak s_aa):=.by
theorem sc_af:aw ["self","x","y","stitches"] ["self","x","y"] (ak s_af):=.by
theorem sc_ak:aw ["cloth","x","y"] ["cloth","x","y"] (ak s_ak):=.by
theorem sc_az:aw ["cloth","x","y"] ["cloth","x","y"] (ak s_az):=.by
theorem sc_am:aw ["cloth","point","x","y","found"] ["cloth","point"] (ak s_am):=.by
theorem sc_aD:aw ["cloth","start","onward","line","here","behind","ways"] ["cloth","start","onward"] (ak s_aD):=.by
theorem sc_an:aw ["cloth","line","least"] ["cloth","line"] (ak s_an):=.by
theorem sc_ar:aw ["cloth","end","line"] ["cloth","end"] (ak s_ar):=.by
theorem sc_aM:aw ["cloth","point","ways","line"] ["cloth","point"] (ak s_aM):=.by
theorem sc_al:aw ["told"] ["told"] (ak s_al):=.by
theorem sc_aB:aw ["cloth","found","seen","x","y","told","point"] ["cloth"] (ak s_aB):=.by
theorem sc_aA:aw ["cloth","cell","x","y","found"] ["cloth","cell"] (ak s_aA):=.by
theorem sc_aw:aw ["cloth","goal","onward","cells","place","here","cell"] ["cloth","goal"] (ak s_aw):=.by
theorem sc_aK:aw ["cloth","one","other","onward","cells","here"] ["cloth","one","other"] (ak s_aK):=.by
theorem sc_au:aw ["cloth","one","other","found","k"] ["cloth","one","other"] (ak s_au):=.by
theorem sc_aE:aw ["cloth","one","other","lines","number_at","number","line","point","numbers"] ["cloth","one","other"] (ak s_aE):=.by
theorem sc_av:aw ["_law_script","_law_many","_law_rows","_law_mix","_law_cell","_law_rest"] ["_law_script","_law_many"] (ak s_av):=.by
theorem sc_aG:aw ["_law_number","_law_many","_law_row_here","_law_k"] ["_law_number","_law_many"] (ak s_aG):=.by
theorem sc_aJ:aw ["_law_some","_law_many","_law_raw","_law_row_here"] ["_law_some","_law_many"] (ak s_aJ):=.by
theorem sc_aH:aw ["_law_some","_law_wide","_law_tall"] ["_law_some"] (ak s_aH):=.by
theorem sc_aI:aw ["_law_plan_here"] ["_law_plan_here"] (ak s_aI):=.by
theorem sc_aC:aw ["_law_told","_law_due"] ["_law_told","_law_due"] (ak s_aC):=.by
theorem sc_aq:aw ["_law_cloth","_law_found","_law_number","_law_comes_back","_law_line","_law_at"] ["_law_cloth"] (ak s_aq):=.by
theorem cB:aw ["_law_script","_law_some","_law_plan_here","_law_cloth","_law_known","_law_first","_law_here","_law_odd","_law_turn","_law_x","_law_y","_law_there","_law_step","_law_due"] ["_law_script"] (ak vO):=.by
noncomputable abbrev QNs (K:W.Frag) (x:Str) (C:Addr):Prop:=W.nsIn K mainGlobals x=some (some (.ref C))
noncomputable abbrev QNn (K:W.Frag) (x:Str):Prop:=W.nsIn K mainGlobals x=some none
noncomputable abbrev QFi (K:W.Frag) (C:Addr) (x:Str) (f:Addr):Prop:=W.findIn K (.ref C) x=some (some (.ref f))
noncomputable abbrev QFn (K:W.Frag) (C:Addr) (x:Str):Prop:=W.findIn K (.ref C) x=some none
noncomputable abbrev QIf (K:W.Frag) (f:Addr):Prop:=W.isFn K (.ref f)=true
noncomputable abbrev QXc (K:W.Frag) (C:Addr):Prop:=W.excIn K C [.type "ValueError",.type "Exception",.type "BaseException",.type "object"] "ValueError.__new__"=true
set_option genInjectivity false in
set_option genSizeOf false in
structure Ad where
 (a_aU a_ab f_as f_ah f_aF f_at f_ay f_ag f_ao f_ai f_ae f_ad:Addr)
 (f_ac f_ap f_aa f_af f_ak f_az f_am f_aD f_an f_ar f_aM f_al:Addr)
 (f_aB f_aA f_aw f_aK f_au f_aE f_av f_aG f_aJ f_aH f_aI f_aC:Addr)
 (f_aq f_law a_aO a_aN a_aR a_aP a_aT a_aQ:Addr)
 (d_as d_ah d_aF d_at d_ay d_ag d_ao d_ai d_ae d_ad d_ac d_ap:FuncData)
 (d_aa d_af d_ak d_az d_am d_aD d_an d_ar d_aM d_al d_aB d_aA:FuncData)
 (d_aw d_aK d_au d_aE d_av d_aG d_aJ d_aH d_aI d_aC d_aq d_law:FuncData)
 (tk_LONGEST_SIDE:Tok)
structure Txt (K:W.Frag) (mg:Str→Option Value) (t:Ad):Prop where
 mg_aU:mg "Board"=some (.ref t.a_aU)
 mg_ab:mg "Cloth"=some (.ref t.a_ab)
 cl_ab:Cls K t.a_ab
 mk_ab:Mk K t.a_ab t.f_ai
 na_columns_count:cM K t.a_ab "columns_count"
 na_rows_count:cM K t.a_ab "rows_count"
 na_col_bits:cM K t.a_ab "col_bits"
 na_row_bits:cM K t.a_ab "row_bits"
 na_first_colour:cM K t.a_ab "first_colour"
 F_as:Fun K "is_number" "is_number" s_as t.f_as t.d_as
 b_as:aL K t.d_as ["value"] []
 mg_as:mg "is_number"=some (.ref t.f_as)
 F_ah:Fun K "is_below" "is_below" s_ah t.f_ah t.d_ah
 b_ah:aL K t.d_ah ["value","bound"] []
 mg_ah:mg "is_below"=some (.ref t.f_ah)
 F_aF:Fun K "is_bit" "is_bit" s_aF t.f_aF t.d_aF
 b_aF:aL K t.d_aF ["value"] []
 mg_aF:mg "is_bit"=some (.ref t.f_aF)
 F_at:Fun K "all_bits" "all_bits" s_at t.f_at t.d_at
 b_at:aL K t.d_at ["values"] []
 mg_at:mg "all_bits"=some (.ref t.f_at)
 F_ay:Fun K "is_side" "is_side" s_ay t.f_ay t.d_ay
 b_ay:aL K t.d_ay ["count"] []
 mg_ay:mg "is_side"=some (.ref t.f_ay)
 F_ag:Fun K "need_cell" "need_cell" s_ag t.f_ag t.d_ag
 b_ag:aL K t.d_ag ["board","x","y"] []
 mg_ag:mg "need_cell"=some (.ref t.f_ag)
 F_ao:Fun K "__init__" "Board.__init__" s_ao t.f_ao t.d_ao
 b_ao:aL K t.d_ao ["self","wide","tall","cols","rows"] []
 cf_ao:yB K t.a_aU "__init__" t.f_ao
 F_ai:Fun K "__init__" "Cloth.__init__" s_ai t.f_ai t.d_ai
 b_ai:aL K t.d_ai ["self","shade","cols","rows"] []
 F_ae:Fun K "wide" "Board.wide" s_ae t.f_ae t.d_ae
 b_ae:aL K t.d_ae ["self"] []
 m_ae:lI K t.a_ab "wide" t.f_ae
 F_ad:Fun K "tall" "Board.tall" s_ad t.f_ad t.d_ad
 b_ad:aL K t.d_ad ["self"] []
 m_ad:lI K t.a_ab "tall" t.f_ad
 F_ac:Fun K "bits_along" "Board.bits_along" s_ac t.f_ac t.d_ac
 b_ac:aL K t.d_ac ["self","way"] []
 m_ac:lI K t.a_ab "bits_along" t.f_ac
 F_ap:Fun K "bit" "Board.bit" s_ap t.f_ap t.d_ap
 b_ap:aL K t.d_ap ["self","way","k"] []
 m_ap:lI K t.a_ab "bit" t.f_ap
 F_aa:Fun K "stitched" "Board.stitched" s_aa t.f_aa t.d_aa
 b_aa:aL K t.d_aa ["self","way","k","step"] []
 m_aa:lI K t.a_ab "stitched" t.f_aa
 F_af:Fun K "colour" "Cloth.colour" s_af t.f_af t.d_af
 b_af:aL K t.d_af ["self","x","y"] []
 m_af:lI K t.a_ab "colour" t.f_af
 F_ak:Fun K "sewn_right" "sewn_right" s_ak t.f_ak t.d_ak
 b_ak:aL K t.d_ak ["cloth","x","y"] []
 mg_ak:mg "sewn_right"=some (.ref t.f_ak)
 F_az:Fun K "sewn_up" "sewn_up" s_az t.f_az t.d_az
 b_az:aL K t.d_az ["cloth","x","y"] []
 mg_az:mg "sewn_up"=some (.ref t.f_az)
 F_am:Fun K "joined" "joined" s_am t.f_am t.d_am
 b_am:aL K t.d_am ["cloth","point"] []
 mg_am:mg "joined"=some (.ref t.f_am)
 F_aD:Fun K "walk" "walk" s_aD t.f_aD t.d_aD
 b_aD:aL K t.d_aD ["cloth","start","onward"] []
 mg_aD:mg "walk"=some (.ref t.f_aD)
 F_an:Fun K "told_round" "told_round" s_an t.f_an t.d_an
 b_an:aL K t.d_an ["cloth","line"] []
 mg_an:mg "told_round"=some (.ref t.f_an)
 F_ar:Fun K "told_open" "told_open" s_ar t.f_ar t.d_ar
 b_ar:aL K t.d_ar ["cloth","end"] []
 mg_ar:mg "told_open"=some (.ref t.f_ar)
 F_aM:Fun K "seam" "seam" s_aM t.f_aM t.d_aM
 b_aM:aL K t.d_aM ["cloth","point"] []
 mg_aM:mg "seam"=some (.ref t.f_aM)
 F_al:Fun K "first_point" "first_point" s_al t.f_al t.d_al
 b_al:aL K t.d_al ["told"] []
 mg_al:mg "first_point"=some (.ref t.f_al)
 F_aB:Fun K "seams" "seams" s_aB t.f_aB t.d_aB
 b_aB:aL K t.d_aB ["cloth"] []
 mg_aB:mg "seams"=some (.ref t.f_aB)
 F_aA:Fun K "beside" "beside" s_aA t.f_aA t.d_aA
 b_aA:aL K t.d_aA ["cloth","cell"] []
 mg_aA:mg "beside"=some (.ref t.f_aA)
 F_aw:Fun K "ways_to" "ways_to" s_aw t.f_aw t.d_aw
 b_aw:aL K t.d_aw ["cloth","goal"] []
 mg_aw:mg "ways_to"=some (.ref t.f_aw)
 F_aK:Fun K "path" "path" s_aK t.f_aK t.d_aK
 b_aK:aL K t.d_aK ["cloth","one","other"] []
 mg_aK:mg "path"=some (.ref t.f_aK)
 F_au:Fun K "crossed" "crossed" s_au t.f_au t.d_au
 b_au:aL K t.d_au ["cloth","one","other"] []
 mg_au:mg "crossed"=some (.ref t.f_au)
 F_aE:Fun K "fence" "fence" s_aE t.f_aE t.d_aE
 b_aE:aL K t.d_aE ["cloth","one","other"] []
 mg_aE:mg "fence"=some (.ref t.f_aE)
 F_av:Fun K "_law_draws" "_law_draws" s_av t.f_av t.d_av
 b_av:aL K t.d_av ["_law_script","_law_many"] []
 mg_av:mg "_law_draws"=some (.ref t.f_av)
 F_aG:Fun K "_law_bits" "_law_bits" s_aG t.f_aG t.d_aG
 b_aG:aL K t.d_aG ["_law_number","_law_many"] []
 mg_aG:mg "_law_bits"=some (.ref t.f_aG)
 F_aJ:Fun K "_law_row" "_law_row" s_aJ t.f_aJ t.d_aJ
 b_aJ:aL K t.d_aJ ["_law_some","_law_many"] []
 mg_aJ:mg "_law_row"=some (.ref t.f_aJ)
 F_aH:Fun K "_law_plan" "_law_plan" s_aH t.f_aH t.d_aH
 b_aH:aL K t.d_aH ["_law_some"] []
 mg_aH:mg "_law_plan"=some (.ref t.f_aH)
 F_aI:Fun K "_law_made" "_law_made" s_aI t.f_aI t.d_aI
 b_aI:aL K t.d_aI ["_law_plan_here"] []
 mg_aI:mg "_law_made"=some (.ref t.f_aI)
 F_aC:Fun K "_law_same" "_law_same" s_aC t.f_aC t.d_aC
 b_aC:aL K t.d_aC ["_law_told","_law_due"] []
 mg_aC:mg "_law_same"=some (.ref t.f_aC)
 F_aq:Fun K "_law_numbers" "_law_numbers" s_aq t.f_aq t.d_aq
 b_aq:aL K t.d_aq ["_law_cloth"] []
 mg_aq:mg "_law_numbers"=some (.ref t.f_aq)
 F_law:Fun K "law" "law" vO t.f_law t.d_law
 b_law:aL K t.d_law ["_law_script"] []
 mg_law:mg "law"=some (.ref t.f_law)
 mg_aO:mg "BadSize"=some (.ref t.a_aO)
 mg_aN:mg "BadBit"=some (.ref t.a_aN)
 mg_aR:mg "NoCell"=some (.ref t.a_aR)
 mg_aP:mg "NoLine"=some (.ref t.a_aP)
 mg_aT:mg "NoStep"=some (.ref t.a_aT)
 mg_aQ:mg "NoPoint"=some (.ref t.a_aQ)
 x_aO:QXc K t.a_aO
 x_aN:QXc K t.a_aN
 x_aR:QXc K t.a_aR
 x_aP:QXc K t.a_aP
 x_aT:QXc K t.a_aT
 x_aQ:QXc K t.a_aQ
 mg_LONGEST_SIDE:mg "LONGEST_SIDE"=some (.int 40 t.tk_LONGEST_SIDE)
 no_aL:mg "isinstance"=none
 no_int:mg "int"=none
 no_bool:mg "bool"=none
 no_all:mg "all"=none
 no_len:mg "len"=none
 no_aj:mg "tuple"=none
 no_list:mg "list"=none
 no_ax:mg "range"=none
 no_abs:mg "abs"=none
 no_str:mg "str"=none
 no_zip:mg "zip"=none
 no_aS:mg "ValueError"=none
 no_sorted:mg "sorted"=none
 no_min:mg "min"=none
 no_max:mg "max"=none
 no_reversed:mg "reversed"=none
 no_sum:mg "sum"=none
 no_aV:mg "enumerate"=none
theorem txt_mk {K:W.Frag} {h:Heap} {mg:Str→Option Value} (X:K.In h) (G:h.Ns mainGlobals mg) {C_aU C_ab f_as f_ah f_aF f_at f_ay f_ag f_ao f_ai f_ae f_ad:Addr} {f_ac f_ap f_aa f_af f_ak f_az f_am f_aD f_an f_ar f_aM f_al:Addr} {f_aB f_aA f_aw f_aK f_au f_aE f_av f_aG f_aJ f_aH f_aI f_aC:Addr} {f_aq f_law C_aO C_aN C_aR C_aP C_aT C_aQ:Addr} {d_as d_ah d_aF d_at d_ay d_ag d_ao d_ai d_ae d_ad d_ac d_ap:FuncData} {d_aa d_af d_ak d_az d_am d_aD d_an d_ar d_aM d_al d_aB d_aA:FuncData} {d_aw d_aK d_au d_aE d_av d_aG d_aJ d_aH d_aI d_aC d_aq d_law:FuncData} {tk_LONGEST_SIDE:Tok}
  (aC_aU:QNs K "Board" C_aU)
  (ga_aU:W.specialIn K (.ref C_aU) "__getattribute__"=some (some (.builtin "type.__getattribute__")))
  (rd_aU:W.readsIn K C_aU (.type "type")=true)
  (aC_ab:QNs K "Cloth" C_ab)
  (pg_ab:W.plainGet K C_ab Str.empty=true)
  (hd_ab:W.hasDictIn K C_ab=true)
  (po_ab:W.plainOver K C_ab=true)
  (sa_ab:W.findIn K (.ref C_ab) "__setattr__"=some (some (.builtin "object.__setattr__")))
  (mk_ab:W.makesIn K C_ab=true)
  (kc_ab:W.keepIn K (.ref C_ab)=true)
  (na_columns_count:QFn K C_ab "columns_count")
  (na_rows_count:QFn K C_ab "rows_count")
  (na_col_bits:QFn K C_ab "col_bits")
  (na_row_bits:QFn K C_ab "row_bits")
  (na_first_colour:QFn K C_ab "first_colour")
  (a_as:QNs K "is_number" f_as)
  (F_as:Fun K "is_number" "is_number" s_as f_as d_as)
  (a_ah:QNs K "is_below" f_ah)
  (F_ah:Fun K "is_below" "is_below" s_ah f_ah d_ah)
  (a_aF:QNs K "is_bit" f_aF)
  (F_aF:Fun K "is_bit" "is_bit" s_aF f_aF d_aF)
  (a_at:QNs K "all_bits" f_at)
  (F_at:Fun K "all_bits" "all_bits" s_at f_at d_at)
  (a_ay:QNs K "is_side" f_ay)
  (F_ay:Fun K "is_side" "is_side" s_ay f_ay d_ay)
  (a_ag:QNs K "need_cell" f_ag)
  (F_ag:Fun K "need_cell" "need_cell" s_ag f_ag d_ag)
  (fc_ao:W.findCls K (.ref C_aU) (.type "type") "__init__"=some (.val (.ref f_ao)))
  (F_ao:Fun K "__init__" "Board.__init__" s_ao f_ao d_ao)
  (a_ai:QFi K C_ab "__init__" f_ai)
  (i_ai:QIf K f_ai)
  (F_ai:Fun K "__init__" "Cloth.__init__" s_ai f_ai d_ai)
  (a_ae:QFi K C_ab "wide" f_ae)
  (i_ae:QIf K f_ae)
  (F_ae:Fun K "wide" "Board.wide" s_ae f_ae d_ae)
  (a_ad:QFi K C_ab "tall" f_ad)
  (i_ad:QIf K f_ad)
  (F_ad:Fun K "tall" "Board.tall" s_ad f_ad d_ad)
  (a_ac:QFi K C_ab "bits_along" f_ac)
  (i_ac:QIf K f_ac)
  (F_ac:Fun K "bits_along" "Board.bits_along" s_ac f_ac d_ac)
  (a_ap:QFi K C_ab "bit" f_ap)
  (i_ap:QIf K f_ap)
  (F_ap:Fun K "bit" "Board.bit" s_ap f_ap d_ap)
  (a_aa:QFi K C_ab "stitched" f_aa)
  (i_aa:QIf K f_aa)
  (F_aa:Fun K "stitched" "Board.stitched" s_aa f_aa d_aa)
  (a_af:QFi K C_ab "colour" f_af)
  (i_af:QIf K f_af)
  (F_af:Fun K "colour" "Cloth.colour" s_af f_af d_af)
  (a_ak:QNs K "sewn_right" f_ak)
  (F_ak:Fun K "sewn_right" "sewn_right" s_ak f_ak d_ak)
  (a_az:QNs K "sewn_up" f_az)
  (F_az:Fun K "sewn_up" "sewn_up" s_az f_az d_az)
  (a_am:QNs K "joined" f_am)
  (F_am:Fun K "joined" "joined" s_am f_am d_am)
  (a_aD:QNs K "walk" f_aD)
  (F_aD:Fun K "walk" "walk" s_aD f_aD d_aD)
  (a_an:QNs K "told_round" f_an)
  (F_an:Fun K "told_round" "told_round" s_an f_an d_an)
  (a_ar:QNs K "told_open" f_ar)
  (F_ar:Fun K "told_open" "told_open" s_ar f_ar d_ar)
  (a_aM:QNs K "seam" f_aM)
  (F_aM:Fun K "seam" "seam" s_aM f_aM d_aM)
  (a_al:QNs K "first_point" f_al)
  (F_al:Fun K "first_point" "first_point" s_al f_al d_al)
  (a_aB:QNs K "seams" f_aB)
  (F_aB:Fun K "seams" "seams" s_aB f_aB d_aB)
  (a_aA:QNs K "beside" f_aA)
  (F_aA:Fun K "beside" "beside" s_aA f_aA d_aA)
  (a_aw:QNs K "ways_to" f_aw)
  (F_aw:Fun K "ways_to" "ways_to" s_aw f_aw d_aw)
  (a_aK:QNs K "path" f_aK)
  (F_aK:Fun K "path" "path" s_aK f_aK d_aK)
  (a_au:QNs K "crossed" f_au)
  (F_au:Fun K "crossed" "crossed" s_au f_au d_au)
  (a_aE:QNs K "fence" f_aE)
  (F_aE:Fun K "fence" "fence" s_aE f_aE d_aE)
  (a_av:QNs K "_law_draws" f_av)
  (F_av:Fun K "_law_draws" "_law_draws" s_av f_av d_av)
  (a_aG:QNs K "_law_bits" f_aG)
  (F_aG:Fun K "_law_bits" "_law_bits" s_aG f_aG d_aG)
  (a_aJ:QNs K "_law_row" f_aJ)
  (F_aJ:Fun K "_law_row" "_law_row" s_aJ f_aJ d_aJ)
  (a_aH:QNs K "_law_plan" f_aH)
  (F_aH:Fun K "_law_plan" "_law_plan" s_aH f_aH d_aH)
  (a_aI:QNs K "_law_made" f_aI)
  (F_aI:Fun K "_law_made" "_law_made" s_aI f_aI d_aI)
  (a_aC:QNs K "_law_same" f_aC)
  (F_aC:Fun K "_law_same" "_law_same" s_aC f_aC d_aC)
  (a_aq:QNs K "_law_numbers" f_aq)
  (F_aq:Fun K "_law_numbers" "_law_numbers" s_aq f_aq d_aq)
  (a_law:QNs K "law" f_law)
  (F_law:Fun K "law" "law" vO f_law d_law)
  (aX_aO:QNs K "BadSize" C_aO)
  (aX_aN:QNs K "BadBit" C_aN)
  (aX_aR:QNs K "NoCell" C_aR)
  (aX_aP:QNs K "NoLine" C_aP)
  (aX_aT:QNs K "NoStep" C_aT)
  (aX_aQ:QNs K "NoPoint" C_aQ)
  (x_aO:QXc K C_aO)
  (x_aN:QXc K C_aN)
  (x_aR:QXc K C_aR)
  (x_aP:QXc K C_aP)
  (x_aT:QXc K C_aT)
  (x_aQ:QXc K C_aQ)
  (v_LONGEST_SIDE:W.nsIn K mainGlobals "LONGEST_SIDE"=some (some (.int 40 tk_LONGEST_SIDE)))
  (z_aL:QNn K "isinstance")
  (z_int:QNn K "int")
  (z_bool:QNn K "bool")
  (z_all:QNn K "all")
  (z_len:QNn K "len")
  (z_aj:QNn K "tuple")
  (z_list:QNn K "list")
  (z_ax:QNn K "range")
  (z_abs:QNn K "abs")
  (z_str:QNn K "str")
  (z_zip:QNn K "zip")
  (z_aS:QNn K "ValueError")
  (z_sorted:QNn K "sorted")
  (z_min:QNn K "min")
  (z_max:QNn K "max")
  (z_reversed:QNn K "reversed")
  (z_sum:QNn K "sum")
  (z_aV:QNn K "enumerate"):∃ t:Ad,Txt K mg t :=
 ⟨{ a_aU:=C_aU,a_ab:=C_ab,f_as:=f_as,d_as:=d_as,f_ah:=f_ah,d_ah:=d_ah,f_aF:=f_aF,d_aF:=d_aF,f_at:=f_at,d_at:=d_at,f_ay:=f_ay,d_ay:=d_ay,f_ag:=f_ag,d_ag:=d_ag,f_ao:=f_ao,d_ao:=d_ao,f_ai:=f_ai,d_ai:=d_ai,f_ae:=f_ae,d_ae:=d_ae,f_ad:=f_ad,d_ad:=d_ad,f_ac:=f_ac,d_ac:=d_ac,f_ap:=f_ap,d_ap:=d_ap,f_aa:=f_aa,d_aa:=d_aa,f_af:=f_af,d_af:=d_af,f_ak:=f_ak,d_ak:=d_ak,f_az:=f_az,d_az:=d_az,f_am:=f_am,d_am:=d_am,f_aD:=f_aD,d_aD:=d_aD,f_an:=f_an,d_an:=d_an,f_ar:=f_ar,d_ar:=d_ar,f_aM:=f_aM,d_aM:=d_aM,f_al:=f_al,d_al:=d_al,f_aB:=f_aB,d_aB:=d_aB,f_aA:=f_aA,d_aA:=d_aA,f_aw:=f_aw,d_aw:=d_aw,f_aK:=f_aK,d_aK:=d_aK,f_au:=f_au,d_au:=d_au,f_aE:=f_aE,d_aE:=d_aE,f_av:=f_av,d_av:=d_av,f_aG:=f_aG,d_aG:=d_aG,f_aJ:=f_aJ,d_aJ:=d_aJ,f_aH:=f_aH,d_aH:=d_aH,f_aI:=f_aI,d_aI:=d_aI,f_aC:=f_aC,d_aC:=d_aC,f_aq:=f_aq,d_aq:=d_aq,f_law:=f_law,d_law:=d_law,a_aO:=C_aO,a_aN:=C_aN,a_aR:=C_aR,a_aP:=C_aP,a_aT:=C_aT,a_aQ:=C_aQ,tk_LONGEST_SIDE:=tk_LONGEST_SIDE },⟨W.mg_of X G aC_aU,W.mg_of X G aC_ab,⟨pg_ab,hd_ab,po_ab,sa_ab⟩,⟨mk_ab,a_ai,i_ai,kc_ab⟩,na_columns_count,na_rows_count,na_col_bits,na_row_bits,na_first_colour,F_as,F_as.b1 fun _ _ _ _ _ _ _=>rfl,W.mg_of X G a_as,F_ah,F_ah.b2 fun _ _ _ _ _ _ _ _=>rfl,W.mg_of X G a_ah,F_aF,F_aF.b1 fun _ _ _ _ _ _ _=>rfl,W.mg_of X G a_aF,F_at,F_at.b1 fun _ _ _ _ _ _ _=>rfl,W.mg_of X G a_at,F_ay,F_ay.b1 fun _ _ _ _ _ _ _=>rfl,W.mg_of X G a_ay,F_ag,F_ag.b3 fun _ _ _ _ _ _ _ _ _=>rfl,W.mg_of X G a_ag,F_ao,F_ao.b5 fun _ _ _ _ _ _ _ _ _ _ _=>rfl,⟨ga_aU,rd_aU,fc_ao,F_ao.kp⟩,F_ai,F_ai.b4 fun _ _ _ _ _ _ _ _ _ _=>rfl,F_ae,F_ae.b1 fun _ _ _ _ _ _ _=>rfl,⟨a_ae,i_ae,F_ae.kp⟩,F_ad,F_ad.b1 fun _ _ _ _ _ _ _=>rfl,⟨a_ad,i_ad,F_ad.kp⟩,F_ac,F_ac.b2 fun _ _ _ _ _ _ _ _=>rfl,⟨a_ac,i_ac,F_ac.kp⟩,F_ap,F_ap.b3 fun _ _ _ _ _ _ _ _ _=>rfl,⟨a_ap,i_ap,F_ap.kp⟩,F_aa,F_aa.b4 fun _ _ _ _ _ _ _ _ _ _=>rfl,⟨a_aa,i_aa,F_aa.kp⟩,F_af,F_af.b3 fun _ _ _ _ _ _ _ _ _=>rfl,⟨a_af,i_af,F_af.kp⟩,F_ak,F_ak.b3 fun _ _ _ _ _ _ _ _ _=>rfl,W.mg_of X G a_ak,F_az,F_az.b3 fun _ _ _ _ _ _ _ _ _=>rfl,W.mg_of X G a_az,F_am,F_am.b2 fun _ _ _ _ _ _ _ _=>rfl,W.mg_of X G a_am,F_aD,F_aD.b3 fun _ _ _ _ _ _ _ _ _=>rfl,W.mg_of X G a_aD,F_an,F_an.b2 fun _ _ _ _ _ _ _ _=>rfl,W.mg_of X G a_an,F_ar,F_ar.b2 fun _ _ _ _ _ _ _ _=>rfl,W.mg_of X G a_ar,F_aM,F_aM.b2 fun _ _ _ _ _ _ _ _=>rfl,W.mg_of X G a_aM,F_al,F_al.b1 fun _ _ _ _ _ _ _=>rfl,W.mg_of X G a_al,F_aB,F_aB.b1 fun _ _ _ _ _ _ _=>rfl,W.mg_of X G a_aB,F_aA,F_aA.b2 fun _ _ _ _ _ _ _ _=>rfl,W.mg_of X G a_aA,F_aw,F_aw.b2 fun _ _ _ _ _ _ _ _=>rfl,W.mg_of X G a_aw,F_aK,F_aK.b3 fun _ _ _ _ _ _ _ _ _=>rfl,W.mg_of X G a_aK,F_au,F_au.b3 fun _ _ _ _ _ _ _ _ _=>rfl,W.mg_of X G a_au,F_aE,F_aE.b3 fun _ _ _ _ _ _ _ _ _=>rfl,W.mg_of X G a_aE,F_av,F_av.b2 fun _ _ _ _ _ _ _ _=>rfl,W.mg_of X G a_av,F_aG,F_aG.b2 fun _ _ _ _ _ _ _ _=>rfl,W.mg_of X G a_aG,F_aJ,F_aJ.b2 fun _ _ _ _ _ _ _ _=>rfl,W.mg_of X G a_aJ,F_aH,F_aH.b1 fun _ _ _ _ _ _ _=>rfl,W.mg_of X G a_aH,F_aI,F_aI.b1 fun _ _ _ _ _ _ _=>rfl,W.mg_of X G a_aI,F_aC,F_aC.b2 fun _ _ _ _ _ _ _ _=>rfl,W.mg_of X G a_aC,F_aq,F_aq.b1 fun _ _ _ _ _ _ _=>rfl,W.mg_of X G a_aq,F_law,F_law.b1 fun _ _ _ _ _ _ _=>rfl,W.mg_of X G a_law,W.mg_of X G aX_aO,W.mg_of X G aX_aN,W.mg_of X G aX_aR,W.mg_of X G aX_aP,W.mg_of X G aX_aT,W.mg_of X G aX_aQ,x_aO,x_aN,x_aR,x_aP,x_aT,x_aQ,W.mg_of X G v_LONGEST_SIDE,W.mg_none_of X G z_aL,W.mg_none_of X G z_int,W.mg_none_of X G z_bool,W.mg_none_of X G z_all,W.mg_none_of X G z_len,W.mg_none_of X G z_aj,W.mg_none_of X G z_list,W.mg_none_of X G z_ax,W.mg_none_of X G z_abs,W.mg_none_of X G z_str,W.mg_none_of X G z_zip,W.mg_none_of X G z_aS,W.mg_none_of X G z_sorted,W.mg_none_of X G z_min,W.mg_none_of X G z_max,W.mg_none_of X G z_reversed,W.mg_none_of X G z_sum,W.mg_none_of X G z_aV⟩⟩
local macro_rules | `(tactic| walk_at "rd1") => `(tactic| first
  | ((with_reducible refine' AR (v:=?kv) ?ke ?kh); (case ke=>exact rfl)) | (with_reducible refine ya fun _ _=>?_) | (with_reducible refine Ax ?_) | (with_reducible refine cV ?_) | (with_reducible refine AO ?_) | (with_reducible refine xM ?_) | (with_reducible refine AH ?_) | (with_reducible refine Bz ?_) | (with_reducible refine vI ?_) | (with_reducible refine xN ?_) | (with_reducible refine Cc ?_) | (with_reducible refine Bw ?_) | (with_reducible refine BA ?_) | (with_reducible refine xE ?_) | (with_reducible refine xZ ?_) | (with_reducible refine Aw ?_) | (with_reducible refine Bx ?_) | (with_reducible refine AN ?_) | (with_reducible refine fW ?_) | (with_reducible refine Bt ?_) | (with_reducible refine Cb ?_) | (with_reducible refine AD ?_) | (with_reducible refine AL ?_) | (with_reducible refine AE ?_) | (with_reducible refine AB ?_) | (with_reducible refine AK ?_) | (with_reducible refine vh ?_) | (with_reducible refine xF ?_) | (with_reducible refine AM ?_) | (with_reducible refine xH ?_) | (with_reducible refine Bs ?_) | (with_reducible refine vi ?_) | (with_reducible refine xI ?_) | (with_reducible refine vj ?_) | (with_reducible refine yd ?_) | (with_reducible refine xS ?_) | (with_reducible refine xY ?_) | ((with_reducible refine' Ay (x:=?kv) ?ke ?kh); (case ke=>exact rfl)) | (with_reducible refine AI ?_) | (with_reducible refine fx ?_) | (with_reducible refine mw ?_) | (with_reducible refine yb ?_) | (with_reducible refine vK ?_) | (with_reducible refine xG ?_) | (with_reducible refine AF ?_) | (with_reducible refine xV ?_) | (with_reducible refine xT ?_) | (with_reducible refine vE ?_) | (with_reducible refine Bu ?_) | (with_reducible refine By ?_) | (with_reducible refine sR ?_) | (with_reducible refine x6 ?_) | (with_reducible refine vt ?_) | (with_reducible refine vx ?_) | (with_reducible refine Bv ?_) | (with_reducible refine xK ?_) | (with_reducible refine AA ?_) | (with_reducible refine sQ ?_) | (with_reducible refine vq ?_) | (with_reducible refine vp ?_) | (with_reducible refine xJ ?_) | (with_reducible refine vo ?_) | (with_reducible refine vm ?_) | (with_reducible refine vy ?_) | (with_reducible refine Av ?_) | (with_reducible refine xW ?_) | (with_reducible refine xU ?_) | (with_reducible refine xO ?_) | (with_reducible refine AG ?_) | (with_reducible refine x9 ?_) | (with_reducible refine vB ?_) | (with_reducible refine vC ?_) | (with_reducible refine pN ?_) | (with_reducible refine B1 ?_) | (with_reducible refine Bg ?_) | (with_reducible refine Bh ?_) | ((with_reducible refine' Az (r:=?kr) ?ke ?kh); (case ke=>assumption)) | (dsimp only))
local macro_rules | `(tactic| walk_at "") => `(tactic| repeat walk_at "rd1")
local macro_rules | `(tactic| left) => `(tactic| walk_at "")
local macro_rules | `(tactic| apply $e) => `(tactic| (walk_at ""; refine $e))
section
variable {P:Program} {w:World} {K:W.Frag} {mg:Str→Option Value} {base:Heap} {t:Ad}
noncomputable def de (i:Int):Bool:=decide (0≤i)&&decide (i<2)
noncomputable def sp_as:Sp:=fun vs H Q _=>∃ i,vs=[.int i]∧Q (.bl true) H
theorem ok_as (T:Txt K mg t):a7 P w K mg base CX0 1 t.f_as t.d_as ["value"] sp_as:=by
 refine T.F_as.ok sc_as (fun vs H Q E h=>?_) (fun cdv A outer s H vs Q E hr h=>?_)
 ·obtain ⟨i,rfl,_⟩:=h; rfl
 ·obtain ⟨i,rfl,k⟩:=h;refine ⟨_,(ai (aG (jO (ao (bh K rfl) rfl T.no_aL (by rfl) (aa (pv 0) (aa (cf (v:=.ty "int") rfl T.no_int (by rfl:bootBuiltins "int"=some (.type "int")) rfl) ae))) (jQ (uV (ao (bh K rfl) rfl T.no_aL (by rfl) (aa (pv 0) (aa (cf (v:=.ty "bool") rfl T.no_bool (by rfl:bootBuiltins "bool"=some (.type "bool")) rfl) ae)))))))),?_⟩;apply cO (.int i) zV ?_;apply cO (.int i) zU ?_;left;exact k
noncomputable def sp_ah:Sp:=fun vs H Q _=>∃ i b,vs=[.int i,.int b]∧Q (.bl (decide (0≤i)&&decide (i<b))) H
theorem ok_ah (T:Txt K mg t):a7 P w K mg base CX0 2 t.f_ah t.d_ah ["value","bound"] sp_ah:=by
 refine T.F_ah.ok sc_ah (fun vs H Q E h=>?_) (fun cdv A outer s H vs Q E hr h=>?_)
 ·obtain ⟨i,b,rfl,_⟩:=h; rfl
 ·obtain ⟨i,b,rfl,k⟩:=h;refine ⟨_,(ai (aG (jO (aq (ok_as T) (rmo hr) rfl T.mg_as T.F_as.kp T.b_as .nil aJ (aa (pv 0) ae)) (jQ (uR og dz af (pv 0) (pv 1)))))),?_⟩;apply ⟨i,rfl,?_⟩;apply iY (fun h0=>?_) (fun h0=>?_)
  ·left;rw [h0] at k;exact k
  ·rw [Bool.not_eq_true] at h0;rw [h0] at k;exact k
noncomputable def sp_aF:Sp:=fun vs H Q _=>∃ i,vs=[.int i]∧Q (.bl (de i)) H
theorem ok_aF (T:Txt K mg t):a7 P w K mg base CX0 3 t.f_aF t.d_aF ["value"] sp_aF:=by
 refine T.F_aF.ok sc_aF (fun vs H Q E h=>?_) (fun cdv A outer s H vs Q E hr h=>?_)
 ·obtain ⟨i,rfl,_⟩:=h; rfl
 ·obtain ⟨i,rfl,k⟩:=h;refine ⟨_,(ai (aG (aq (ok_ah T) (rmo hr) rfl T.mg_ah T.F_ah.kp T.b_ah .nil aJ (aa (pv 0) (aa af ae))))),?_⟩;left;exact ⟨i,2,rfl,k⟩
noncomputable def gp (n:Int):Bool:=decide (0<n)&&decide (n<41)
noncomputable def sp_ay:Sp:=fun vs H Q _=>∃ i,vs=[.int i]∧Q (.bl (gp i)) H
theorem ok_ay (T:Txt K mg t):a7 P w K mg base CX0 3 t.f_ay t.d_ay ["count"] sp_ay:=by
  refine T.F_ay.ok sc_ay (fun vs H Q E h=>?_) (fun cdv A outer s H vs Q E hr h=>?_)
  · obtain ⟨i,rfl,_⟩:=h; rfl
  · obtain ⟨i,rfl,k⟩:=h
    refine ⟨_,(ai (aG (jO (aq (ok_ah T) (rmo hr) rfl T.mg_ah T.F_ah.kp T.b_ah .nil aJ (aa (pv 0) (aa (ar aY (rh (v:=.int 40) rfl T.mg_LONGEST_SIDE ⟨_,rfl⟩) af) ae))) (jQ (gk q8 (pv 0) af))))),?_⟩;apply ⟨i,_,rfl,?_⟩;apply iY (fun h0=>?_) (fun h0=>?_)
    · left
      have e:gp i=decide (0<i):=by
        rw [Bool.and_eq_true,decide_eq_true_eq,decide_eq_true_eq] at h0;unfold gp;rw [aT (by omega:i<41),Bool.and_true]
      rw [e] at k;exact k
    · have e:gp i=false:=by
        rw [Bool.and_eq_true,decide_eq_true_eq,decide_eq_true_eq] at h0;unfold gp;by_cases hi:0<i
        · rw [bA (by omega:¬ i<41),Bool.and_false]
        · rw [bA hi,Bool.false_and]
      rw [e] at k;exact k
theorem oF {n:Nat}:gp ((n:Int)+1)=decide (n≤39):=by
 unfold gp;rw [aT (by omega:(0:Int)<(n:Int)+1),Bool.true_and];exact decide_eq_decide.mpr (by omega)
noncomputable def sp_at:Sp:=fun vs H Q _=>∃ (p:Addr) (ns:List Int),vs=[.ref p]∧H p=some (.lst (ns.map V.int))∧ns.length≤1000∧∀ H',ah H H'→Q (.bl (ns.all de)) H'
theorem ok_at (T:Txt K mg t):a7 P w K mg base CX0 4 t.f_at t.d_at ["values"] sp_at:=by
 refine T.F_at.ok sc_at (fun vs H Q E h=>?_) (fun cdv A outer s H vs Q E hr h=>?_)
 ·obtain ⟨p,ns,rfl,_⟩:=h; rfl
 ·obtain ⟨p,ns,rfl,hp,hl,k⟩:=h;refine ⟨_,(ai (aG (ao (qI K rfl rfl) rfl T.no_all (by rfl) (aa (fU (N:=["value"]) (cap:=[none]) rfl ⟨rfl,rfl,rfl,rfl,rfl,rfl⟩ (dR (pv 0)) (fun _ _ _=>(aW (i:=0) (show (["value"]:List Str).Nodup by decide +kernel) rfl (Or.inl rfl))) (fun _ _ _=>hV) (fun _ _ _=>(aq (ok_aF T) (rmo hr) rfl T.mg_aF T.F_aF.kp T.b_aF .nil aJ (aa (pv 0) ae)))) ae)))),?_⟩;apply ⟨⟨_,SqL.of hp⟩,fun l hn=>?_⟩;refine jz (fun v=>match v with | .int i=>.bl (de i) | _=>.non) (SqL.of hp) (by rw [List.length_map]; exact hl) hn (fun x o H' Q' hx s1 q=>?_) (fun H' s1 e=>?_)
  ·obtain ⟨i,_,rfl⟩:=List.mem_map.mp hx;left;exact ⟨i,rfl,q H' (ah.refl _)⟩
  ·left;have e':H' l=some (.lst ((ns.map de).map V.bl)):=by rw [e,List.map_map,List.map_map]; rfl
   refine p5 e' ?_;rw [List.all_map];exact k H' s1
noncomputable def bfl (a b:Addr) (w h:Int):List (Str×V):=dA "row_bits" (.ref b) (dA "col_bits" (.ref a) (dA "rows_count" (.int h) (dA "columns_count" (.int w) [])))
noncomputable def cfl (s:Int) (a b:Addr) (w h:Int):List (Str×V):=dA "first_colour" (.int s) (bfl a b w h)
noncomputable abbrev NoF (m:Str):Prop:=((¬ m="first_colour")∧¬ m="col_bits")∧(¬ m="row_bits")∧(¬ m="columns_count")∧¬ m="rows_count"
theorem A7 {w h:Int} (a b:Addr):(bfl a b w h).lookup ("columns_count":Str)=some (.int w):=by
 unfold bfl; rw [aB,if_neg (by decide +kernel),aB,if_neg (by decide +kernel),aB,if_neg (by decide +kernel),aB,if_pos rfl]
theorem A5 {w h:Int} (a b:Addr):(bfl a b w h).lookup ("rows_count":Str)=some (.int h):=by
 unfold bfl; rw [aB,if_neg (by decide +kernel),aB,if_neg (by decide +kernel),aB,if_pos rfl]
theorem A4 {w h:Int} (a b:Addr):(bfl a b w h).lookup ("col_bits":Str)=some (.ref a):=by
 unfold bfl; rw [aB,if_neg (by decide +kernel),aB,if_pos rfl]
theorem A6 {w h:Int} (a b:Addr):(bfl a b w h).lookup ("row_bits":Str)=some (.ref b):=by
 unfold bfl; rw [aB,if_pos rfl]
theorem zp {w h:Int} (a b:Addr) {m:Str} (n:NoF m):(bfl a b w h).lookup m=none:=by
 obtain ⟨⟨n1,n2⟩,n3,n4,n5⟩:=n;unfold bfl; rw [aB,if_neg n3,aB,if_neg n2,aB,if_neg n5,aB,if_neg n4]; rfl
theorem A8 {w h:Int} (s:Int) (a b:Addr):(cfl s a b w h).lookup ("first_colour":Str)=some (.int s):=by
 unfold cfl; rw [aB,if_pos rfl]
theorem Ba {w h:Int} (s:Int) (a b:Addr):(cfl s a b w h).lookup ("columns_count":Str)=some (.int w):=by
 unfold cfl; rw [aB,if_neg (by decide +kernel),A7]
theorem A9 {w h:Int} (s:Int) (a b:Addr):(cfl s a b w h).lookup ("rows_count":Str)=some (.int h):=by
 unfold cfl; rw [aB,if_neg (by decide +kernel),A5]
theorem yE {w h:Int} (s:Int) (a b:Addr):(cfl s a b w h).lookup ("col_bits":Str)=some (.ref a):=by
 unfold cfl; rw [aB,if_neg (by decide +kernel),A4]
theorem yF {w h:Int} (s:Int) (a b:Addr):(cfl s a b w h).lookup ("row_bits":Str)=some (.ref b):=by
 unfold cfl; rw [aB,if_neg (by decide +kernel),A6]
theorem dZ {w h:Int} (s:Int) (a b:Addr) {m:Str} (n:NoF m):(cfl s a b w h).lookup m=none:=by
 unfold cfl; rw [aB,if_neg n.1.1,zp _ _ n]
structure qB (C:Addr) (H:Hp) (p:Addr) (w h:Int) (cs rs:List Int):Prop where
 ob:∃ dx a b,H p=some (.ins C dx (bfl a b w h))∧H a=some (.tup (cs.map V.int))∧H b=some (.tup (rs.map V.int))
structure aK (C:Addr) (H:Hp) (p:Addr) (s:Int) (cs rs:List Int):Prop where
 ob:∃ dx a b,H p=some (.ins C dx (cfl s a b ((cs.length:Int)+1) ((rs.length:Int)+1)))∧H a=some (.tup (cs.map V.int))∧H b=some (.tup (rs.map V.int))
theorem aK.mono {C:Addr} {H H':Hp} {p:Addr} {s:Int} {cs rs:List Int} (e:ah H H') (c:aK C H p s cs rs):aK C H' p s cs rs:=by
 obtain ⟨dx,a,b,h1,h2,h3⟩:=c.ob;exact ⟨dx,a,b,e _ _ h1,e _ _ h2,e _ _ h3⟩
noncomputable def gE (l:List Int):Prop:=l.length≤39∧∀ z∈l,z=0∨z=1
theorem gE.all {l:List Int} (h:gE l):l.all de=true:=by
 rw [List.all_eq_true];intro z hz;rcases h.2 z hz with rfl | rfl<;>rfl
noncomputable def js (H:Hp) (p:Addr) (H':Hp):Prop:=∀ b o,H b=some o→b≠p→H' b=some o
noncomputable def dX (s:Int) (cs rs:List Int):Bool:=de s&&(cs.all de&&rs.all de)
theorem gE.ok {s:Int} {cs rs:List Int} (hs:s=0∨s=1) (bc:gE cs) (br:gE rs):dX s cs rs=true:=by
 unfold dX;rw [bc.all,br.all];rcases hs with rfl | rfl<;>rfl
noncomputable def kz (C BB:Addr):Sp:=fun vs H Q E=>∃ (p dx c r:Addr) (w h:Int) (cs rs:List Int),vs=[.ref p,.int w,.int h,.ref c,.ref r]∧H p=some (.ins C dx [])∧H c=some (.lst (cs.map V.int))∧H r=some (.lst (rs.map V.int)) ∧
 cs.length≤1000∧rs.length≤1000∧(((cs.all de&&rs.all de)=false∧∀ H',ah H H'→E (.ref BB) none H') ∨
  ((cs.all de&&rs.all de)=true∧∀ H',js H p H'→qB C H' p w h cs rs→Q .non H'))
theorem okx_ao (T:Txt K mg t):a7 P w K mg base (CX1 P w) 5 t.f_ao t.d_ao ["self","wide","tall","cols","rows"] (kz t.a_ab t.a_aN):=by
 refine T.F_ao.ok1 sc_ao (fun vs H Q E h=>?_) (fun cdv A outer s H vs Q E hr h=>?_)
 ·obtain ⟨p,dx,c,r,wd,ht,cs,rs,rfl,_⟩:=h; rfl
 ·obtain ⟨p,dx,c,r,wd,ht,cs,rs,rfl,hp,hc,hr',lc,lr,k⟩:=h;refine aI (bo (cA (PW.pt (dB (bE (aq (ok_at T).up (rmo hr) rfl T.mg_at T.F_at.kp T.b_at .nil b8 (aa (pv 3) ae))) (cU (bE (aq (ok_at T).up (rmo hr) rfl T.mg_at T.F_at.kp T.b_at .nil b8 (aa (pv 4) ae))))))) (ai (cQ T.mg_aN T.x_aN PySem.F.excBase_ValueError rfl rfl (fun _ _ _ _ _ _ _ _ I m q=>fL I m q) (aa bZ ae))) aE) fun _ _=>aI (jS (pv 0) (pv 1) rfl) fun _ _=>aI (jS (pv 0) (pv 2) rfl) fun _ _=>aI (jS (pv 0) (eM (kI K rfl) rfl T.no_aj (by rfl) (aa (pv 3) ae)) rfl) fun _ _=>dr (jS (pv 0) (eM (kI K rfl) rfl T.no_aj (by rfl) (aa (pv 4) ae)) rfl) fun _ _=>?_;apply ⟨c,cs,rfl,hc,lc,fun H1 s1=>?_⟩
  cases b2:cs.all de with
  | false =>
   apply ⟨by show 1≤sizeLine; decide,?_⟩;rcases k with ⟨_,e⟩ | ⟨y,_⟩
   ·exact e _ s1
   ·rw [b2] at y; cases y
  | true =>
   apply ⟨r,rs,rfl,s1 _ _ hr',lr,fun H2 s2=>?_⟩;have s12:=s1.trans s2
   cases b3:rs.all de with
   | false =>
    apply ⟨by show 1≤sizeLine; decide,?_⟩;rcases k with ⟨_,e⟩ | ⟨y,_⟩
    ·exact e _ s12
    ·rw [b2,b3] at y; cases y
   | true =>
    left
    have k:∀ H',js H p H'→qB t.a_ab H' p wd ht cs rs→Q .non H':=by
     rcases k with ⟨y,_⟩ | ⟨_,z⟩
     ·rw [b2,b3] at y; cases y
     ·exact z
    have npc:c≠p:=cm hc hp (by intro z; cases z);have npr:r≠p:=cm hr' hp (by intro z; cases z);refine fy (s12 _ _ hp) T.cl_ab T.na_columns_count (by show 0<1000; decide) ?_;apply fy ag T.cl_ab T.na_rows_count (Nat.lt_of_le_of_lt (bu _ _ _) (by show 1<1000; decide)) ?_;rw [rF];apply lg (by rw [aj npc]; exact s12 _ _ hc) fun a ha=>?_;have pa:p≠a:=by intro z; subst z; rw [ag] at ha; cases ha
    apply fy (by rw [aj pa,ag]) T.cl_ab T.na_col_bits (Nat.lt_of_le_of_lt (bu _ _ _) (Nat.lt_of_le_of_lt (Nat.succ_le_succ (bu _ _ _)) (by show 2<1000; decide))) ?_;left;have ra:r≠a:=by intro z; subst z; rw [aj npr,s12 _ _ hr'] at ha; cases ha
    refine lg (by rw [aj npr,aj ra,aj npr]; exact s12 _ _ hr') fun b hb=>?_;have pb:p≠b:=by intro z; subst z; rw [ag] at hb; cases hb
    have ab:a≠b:=by intro z; subst z; rw [aj pa.symm,ag] at hb; cases hb
    apply fy (by rw [aj pb,ag]) T.cl_ab T.na_row_bits (Nat.lt_of_le_of_lt (bu _ _ _) (Nat.lt_of_le_of_lt (Nat.succ_le_succ (bu _ _ _)) (Nat.lt_of_le_of_lt (Nat.succ_le_succ (Nat.succ_le_succ (bu _ _ _))) (by show 3<1000; decide)))) ?_;apply k _ (fun x o e hx=>?_) ⟨⟨dx,a,b,ag,?_,?_⟩⟩
    ·have e2:=s12 _ _ e;have xa:x≠a:=by intro z; subst z; rw [aj hx,e2] at ha; cases ha
     have xb:x≠b:=by intro z; subst z; rw [aj hx,aj xa,aj hx,e2] at hb; cases hb
     rw [aj hx,aj xb,aj hx,aj xa,aj hx];exact e2
    ·rw [aj pa.symm,aj ab,aj pa.symm,ag]
    ·rw [aj pb.symm,ag]
noncomputable def kA (C BS BB:Addr):Sp:=fun vs H Q E=>∃ (p dx c r:Addr) (s:Int) (cs rs:List Int),vs=[.ref p,.int s,.ref c,.ref r]∧H p=some (.ins C dx [])∧H c=some (.lst (cs.map V.int))∧H r=some (.lst (rs.map V.int)) ∧
 cs.length≤1000∧rs.length≤1000∧((¬ (cs.length≤39∧rs.length≤39)∧E (.ref BS) none H)∨((cs.length≤39∧rs.length≤39)∧dX s cs rs=false∧∀ H',js H p H'→E (.ref BB) none H') ∨
  ((cs.length≤39∧rs.length≤39)∧dX s cs rs=true∧∀ H',js H p H'→aK C H' p s cs rs→Q .non H'))
theorem okx_ai (T:Txt K mg t):a7 P w K mg base (CX1 P w) 6 t.f_ai t.d_ai ["self","shade","cols","rows"] (kA t.a_ab t.a_aO t.a_aN):=by
 refine T.F_ai.ok1 sc_ai (fun vs H Q E h=>?_) (fun cdv A outer s H vs Q E hr h=>?_)
 ·obtain ⟨p,dx,c,r,s,cs,rs,rfl,_⟩:=h; rfl
 ·obtain ⟨p,dx,c,r,s,cs,rs,rfl,hp,hc,hr',lc,lr,k⟩:=h;refine aI (bo (cA (PW.pt (dB (bE (aq (ok_ay T).up (rmo hr) rfl T.mg_ay T.F_ay.kp T.b_ay .nil b8 (aa (ar aY (ao (bW K rfl) rfl T.no_len (by rfl) (aa (pv 2) ae)) af) ae))) (cU (bE (aq (ok_ay T).up (rmo hr) rfl T.mg_ay T.F_ay.kp T.b_ay .nil b8 (aa (ar aY (ao (bW K rfl) rfl T.no_len (by rfl) (aa (pv 3) ae)) af) ae))))))) (ai (cQ T.mg_aO T.x_aO PySem.F.excBase_ValueError rfl rfl (fun _ _ _ _ _ _ _ _ I m q=>fL I m q) (aa bZ ae))) aE) fun _ _=>aI (bo (cA (bE (aq (ok_aF T).up (rmo hr) rfl T.mg_aF T.F_aF.kp T.b_aF .nil b8 (aa (pv 1) ae)))) (ai (cQ T.mg_aN T.x_aN PySem.F.excBase_ValueError rfl rfl (fun _ _ _ _ _ _ _ _ I m q=>fL I m q) (aa bZ ae))) aE) fun _ _=>aI (bf (uQ rfl T.mg_aU T.cf_ao (okx_ao T) (rmo hr) T.b_ao .nil b8 (aa (pv 0) (aa (ar aY (ao (bW K rfl) rfl T.no_len (by rfl) (aa (pv 2) ae)) af) (aa (ar aY (ao (bW K rfl) rfl T.no_len (by rfl) (aa (pv 3) ae)) af) (aa (pv 2) (aa (pv 3) ae))))))) fun _ _=>dr (jS (pv 0) (pv 1) rfl) fun _ _=>?_;apply bX hc ?_;apply ⟨_,rfl,?_⟩;rw [List.length_map,oF];have sz:(¬ (cs.length≤39∧rs.length≤39)→E (.ref t.a_aO) none H):=fun n=>by
   rcases k with ⟨_,e⟩ | ⟨z,_⟩ | ⟨z,_⟩
   ·exact e
   ·exact absurd z n
   ·exact absurd z n
  by_cases c1:cs.length≤39
  ·rw [aT c1];apply bX hr' ?_;apply ⟨_,rfl,?_⟩;rw [List.length_map,oF];by_cases c2:rs.length≤39
   ·rw [aT c2];left
    have k:(dX s cs rs=false∧∀ H',js H p H'→E (.ref t.a_aN) none H')∨(dX s cs rs=true∧∀ H',js H p H'→aK t.a_ab H' p s cs rs→Q .non H'):=by
     rcases k with ⟨z,_⟩ | ⟨_,z⟩ | ⟨_,z⟩
     ·exact absurd ⟨c1,c2⟩ z
     ·exact .inl z
     ·exact .inr z
    have bad:∀ H',dX s cs rs=false→ah H H'→E (.ref t.a_aN) none H':=fun H' z sm=>by
     rcases k with ⟨_,e⟩ | ⟨y,_⟩
     ·exact e H' fun b o eb _=>sm b o eb
     ·rw [z] at y; cases y
    refine ⟨s,rfl,?_⟩
    cases b1:de s with
    | false =>
     apply ⟨by show 1≤sizeLine; decide,?_⟩;exact bad _ (by unfold dX; rw [b1]; rfl) (ah.refl _)
    | true =>
     apply bX hc ?_;apply bX hr' ?_;left;rw [List.length_map,List.length_map];refine ⟨p,dx,c,r,_,_,cs,rs,rfl,hp,hc,hr',lc,lr,?_⟩
     cases b2:(cs.all de&&rs.all de) with
     | false=>exact .inl ⟨rfl,fun H' s1=>bad _ (by unfold dX; rw [b2,Bool.and_false]) s1⟩
     | true =>
      refine .inr ⟨rfl,fun H' kp ⟨dx',a,b,h1,h2,h3⟩=>?_⟩
      have k:∀ H',js H p H'→aK t.a_ab H' p s cs rs→Q .non H':=by
       rcases k with ⟨y,_⟩ | ⟨_,z⟩
       ·unfold dX at y; rw [b1,b2] at y; cases y
       ·exact z
      apply fy h1 T.cl_ab T.na_first_colour (by unfold bfl; exact Nat.lt_of_le_of_lt (bu _ _ _) (Nat.lt_of_le_of_lt (Nat.succ_le_succ (bu _ _ _)) (Nat.lt_of_le_of_lt (Nat.succ_le_succ (Nat.succ_le_succ (bu _ _ _))) (Nat.lt_of_le_of_lt (Nat.succ_le_succ (Nat.succ_le_succ (Nat.succ_le_succ (bu _ _ _)))) (by show 4<1000; decide))))) ?_;left;have pa:a≠p:=cm h2 h1 (by intro z; cases z);have pb:b≠p:=cm h3 h1 (by intro z; cases z);refine k _ (fun x o e hx=>?_) ⟨⟨dx',a,b,ag,?_,?_⟩⟩
      ·rw [aj hx]; exact kp x o e hx
      ·rw [aj pa]; exact h2
      ·rw [aj pb]; exact h3
   ·rw [bA c2];left;exact ⟨by show 1≤sizeLine; decide,sz fun z=>c2 z.2⟩
  ·rw [bA c1];left;exact ⟨by show 1≤sizeLine; decide,sz fun z=>c1 z.1⟩
noncomputable def sp_ai (C:Addr):Sp:=fun vs H Q _=>∃ (p dx c r:Addr) (s:Int) (cs rs:List Int),vs=[.ref p,.int s,.ref c,.ref r]∧H p=some (.ins C dx [])∧H c=some (.lst (cs.map V.int))∧H r=some (.lst (rs.map V.int)) ∧
 (s=0∨s=1)∧gE cs∧gE rs∧∀ H',(∀ b o,H b=some o→b≠p→H' b=some o)→aK C H' p s cs rs→Q .non H'
theorem ok_ai (T:Txt K mg t):a7 P w K mg base CX0 6 t.f_ai t.d_ai ["self","shade","cols","rows"] (sp_ai t.a_ab) :=
 (okx_ai T).down fun vs H Q E hh=>by
  obtain ⟨p,dx,c,r,s,cs,rs,e,hp,hc,hr,hs,bc,br,k⟩:=hh;exact ⟨p,dx,c,r,s,cs,rs,e,hp,hc,hr,by have:=bc.1; omega,by have:=br.1; omega,.inr (.inr ⟨⟨bc.1,br.1⟩,gE.ok hs bc br,k⟩)⟩
noncomputable def sp_ae (C:Addr):Sp:=fun vs H Q _=>∃ (p:Addr) (s:Int) (cs rs:List Int),vs=[.ref p]∧aK C H p s cs rs∧Q (.int ((cs.length:Int)+1)) H
theorem ok_ae (T:Txt K mg t):a7 P w K mg base CX0 1 t.f_ae t.d_ae ["self"] (sp_ae t.a_ab):=by
 refine T.F_ae.ok sc_ae (fun vs H Q E h=>?_) (fun cdv A outer s H vs Q E hr h=>?_)
 ·obtain ⟨p,s,cs,rs,rfl,_⟩:=h; rfl
 ·obtain ⟨p,s,cs,rs,rfl,⟨dx,a,b,h1,h2,h3⟩,k⟩:=h;refine ⟨_,(ai (aG (eY K rfl (pv 0) rfl))),?_⟩;apply e8 h1 T.cl_ab T.na_columns_count (Ba _ _ _) ?_;left;exact k
noncomputable def sp_ad (C:Addr):Sp:=fun vs H Q _=>∃ (p:Addr) (s:Int) (cs rs:List Int),vs=[.ref p]∧aK C H p s cs rs∧Q (.int ((rs.length:Int)+1)) H
theorem ok_ad (T:Txt K mg t):a7 P w K mg base CX0 1 t.f_ad t.d_ad ["self"] (sp_ad t.a_ab):=by
 refine T.F_ad.ok sc_ad (fun vs H Q E h=>?_) (fun cdv A outer s H vs Q E hr h=>?_)
 ·obtain ⟨p,s,cs,rs,rfl,_⟩:=h; rfl
 ·obtain ⟨p,s,cs,rs,rfl,⟨dx,a,b,h1,h2,h3⟩,k⟩:=h;refine ⟨_,(ai (aG (eY K rfl (pv 0) rfl))),?_⟩;apply e8 h1 T.cl_ab T.na_rows_count (A9 _ _ _) ?_;left;exact k
noncomputable def gG (w:Str) (cs rs bs:List Int):Prop:=(w="col"∧bs=cs)∨(w="row"∧bs=rs)
theorem vg:¬ (("row":Str)="col"):=by decide +kernel
noncomputable def gC (C NL:Addr):Sp:=fun vs H Q E=>∃ (p:Addr) (w:Str) (s:Int) (cs rs:List Int),vs=[.ref p,.str w]∧aK C H p s cs rs ∧
 ((∃ bs,gG w cs rs bs∧∀ a,H a=some (.tup (bs.map V.int))→Q (.ref a) H)∨(¬ w="col"∧¬ w="row"∧E (.ref NL) none H))
theorem okx_ac (T:Txt K mg t):a7 P w K mg base (CX1 P w) 1 t.f_ac t.d_ac ["self","way"] (gC t.a_ab t.a_aP):=by
 refine T.F_ac.ok1 sc_ac (fun vs H Q E h=>?_) (fun cdv A outer s H vs Q E hr h=>?_)
 ·obtain ⟨p,w,s,cs,rs,rfl,_⟩:=h; rfl
 ·obtain ⟨p,w,s,cs,rs,rfl,⟨dx,a,b,h1,h2,h3⟩,hw⟩:=h;refine aI (bo (bQ dy (pv 1) bZ) (ai (aG (eY K rfl (pv 0) rfl))) aE) fun _ _=>aI (bo (bQ dy (pv 1) bZ) (ai (aG (eY K rfl (pv 0) rfl))) aE) fun _ _=>dr (cQ T.mg_aP T.x_aP PySem.F.excBase_ValueError rfl rfl (fun _ _ _ _ _ _ _ _ I m q=>fL I m q) (aa bZ ae)) fun _ _=>?_;left;rcases hw with ⟨bs,⟨rfl,rfl⟩ | ⟨rfl,rfl⟩,k⟩ | ⟨n1,n2,k⟩
  ·rw [aT (rfl:("col":Str)="col")];apply e8 h1 T.cl_ab T.na_col_bits (yE _ _ _) ?_;left;exact k a h2
  ·rw [bA vg];left;rw [aT (rfl:("row":Str)="row")];apply e8 h1 T.cl_ab T.na_row_bits (yF _ _ _) ?_;left;exact k b h3
  ·rw [bA n1];left;rw [bA n2];left;exact ⟨by show 1≤sizeLine; decide,k⟩
noncomputable def A3 (w:Str) (k:Int) (cs rs:List Int):Prop:=(¬ w="col"∧¬ w="row")∨∃ bs,gG w cs rs bs∧¬ (0≤k∧k<bs.length)
noncomputable def mV (C NL:Addr):Sp:=fun vs H Q E=>∃ (p:Addr) (w:Str) (k s:Int) (cs rs:List Int),vs=[.ref p,.str w,.int k]∧aK C H p s cs rs ∧
 ((∃ bs,gG w cs rs bs∧0≤k∧k<bs.length∧Q (.int (bs.getD k.toNat 0)) H)∨(A3 w k cs rs∧E (.ref NL) none H))
theorem okx_ap (T:Txt K mg t):a7 P w K mg base (CX1 P w) 3 t.f_ap t.d_ap ["self","way","k"] (mV t.a_ab t.a_aP):=by
 refine T.F_ap.ok1 sc_ap (fun vs H Q E h=>?_) (fun cdv A outer s H vs Q E hr h=>?_)
 ·obtain ⟨p,w,k,s,cs,rs,rfl,_⟩:=h; rfl
 ·obtain ⟨p,w,k,s,cs,rs,rfl,hc,h⟩:=h;obtain ⟨dx,a,b,e1,e2,e3⟩:=hc.ob;refine aI (aM 3 sc_ap.nd (cH (pv 0) T.cl_ab T.m_ac (okx_ac T) (rmo hr) T.b_ac .nil b8 (aa (pv 1) ae))) fun _ _=>aI (bo (cA (bE (aq (ok_ah T).up (rmo hr) rfl T.mg_ah T.F_ah.kp T.b_ah .nil b8 (aa (pv 2) (aa (ao (bW K rfl) rfl T.no_len (by rfl) (aa (pv 3) ae)) ae))))) (ai (cQ T.mg_aP T.x_aP PySem.F.excBase_ValueError rfl rfl (fun _ _ _ _ _ _ _ _ I m q=>fL I m q) (aa bZ ae))) aE) fun _ _=>dr (aG (au (aD K rfl) (pv 3) (pv 2))) fun _ _=>?_;apply aF e1 (dZ _ _ _ (by decide +kernel)) ?_;left;rcases h with ⟨bs,hw,h0,h1,q⟩ | ⟨⟨n1,n2⟩ | ⟨bs,hw,hn⟩,q⟩
  ·refine ⟨p,w,s,cs,rs,rfl,hc,.inl ⟨bs,hw,fun z hz=>?_⟩⟩;apply jj hz ?_;apply ⟨k,_,rfl,?_⟩;rw [List.length_map,aT h0,aT h1];apply aN (SqT.of hz) (bC h0 h1) ?_;exact q
  ·exact ⟨p,w,s,cs,rs,rfl,hc,.inr ⟨n1,n2,q⟩⟩
  ·refine ⟨p,w,s,cs,rs,rfl,hc,.inl ⟨bs,hw,fun z hz=>?_⟩⟩;apply jj hz ?_;apply ⟨k,_,rfl,?_⟩;rw [List.length_map]
   have e:(decide (0≤k)&&decide (k<(bs.length:Int)))=false:=by
    rw [Bool.eq_false_iff];intro z;rw [Bool.and_eq_true,decide_eq_true_eq,decide_eq_true_eq] at z;exact hn z
   rw [e];left;exact ⟨by show 1≤sizeLine; decide,q⟩
theorem tP {l:List Int} (h:∀ z∈l,z=0∨z=1):0≤l.sum∧l.sum≤l.length:=by
 induction l with
 | nil=>exact ⟨Int.le_refl 0,Int.le_refl 0⟩
 | cons z r ih =>
  have:=ih fun y hy=>h y (List.mem_cons_of_mem _ hy)
  rw [List.sum_cons,List.length_cons];rcases h z List.mem_cons_self with rfl | rfl<;>omega
theorem jy {l:List Int} (h:∀ z∈l,z=0∨z=1) (hl:l.length≤1000):gJ l:=fun k hk=>by
 refine ⟨?_,fun n hn=>?_⟩
 ·have:=tP (l:=l.take k) fun z hz=>h z (List.mem_of_mem_take hz)
  rw [List.length_take] at this;unfold InLong;omega
 ·unfold InLong;rcases h n hn with rfl | rfl<;>decide
theorem kL {zs:List Int} {x:Int} (h:0≤x):gd (zs.map V.int) none (some x)=(zs.take x.toNat).map V.int:=by
 obtain ⟨k,rfl⟩:∃ k:Nat,x=(k:Int):=⟨x.toNat,by omega⟩
 unfold gd;rw [HT.oB,HT.ro,List.drop_zero,Nat.sub_zero,Int.toNat_natCast,← List.map_take]
 congr 1
 rw [List.length_map];rcases Nat.le_total k zs.length with h | h
 ·rw [Nat.min_eq_left h]
 ·rw [Nat.min_eq_right h,List.take_of_length_le (Nat.le_refl _),List.take_of_length_le h]
noncomputable def wZ (x y:Int) (cs rs:List Int):Prop:=(0≤x∧x<(cs.length:Int)+1)∧0≤y∧y<(rs.length:Int)+1
noncomputable def mW (C NC:Addr):Sp:=fun vs H Q E=>∃ (p:Addr) (x y s:Int) (cs rs:List Int),vs=[.ref p,.int x,.int y]∧aK C H p s cs rs∧((wZ x y cs rs∧Q .non H)∨(¬ wZ x y cs rs∧E (.ref NC) none H))
theorem i3 {x b:Int} (h:0≤x∧x<b):(decide (0≤x)&&decide (x<b))=true:=by rw [aT h.1,aT h.2]; rfl
theorem fM {x b:Int} (h:¬ (0≤x∧x<b)):(decide (0≤x)&&decide (x<b))=false:=by
 rw [Bool.eq_false_iff];intro z;rw [Bool.and_eq_true,decide_eq_true_eq,decide_eq_true_eq] at z;exact h z
theorem okx_ag (T:Txt K mg t):a7 P w K mg base (CX1 P w) 3 t.f_ag t.d_ag ["board","x","y"] (mW t.a_ab t.a_aR):=by
 refine T.F_ag.ok1 sc_ag (fun vs H Q E h=>?_) (fun cdv A outer s H vs Q E hr h=>?_)
 ·obtain ⟨p,x,y,s,cs,rs,rfl,_⟩:=h; rfl
 ·obtain ⟨p,x,y,s,cs,rs,rfl,hc,h⟩:=h;obtain ⟨dx,a,b,e1,e2,e3⟩:=hc.ob;have nl:∀ {w h:Int} {m:Str},NoF m→(cfl s a b w h).lookup m=none:=fun x=>dZ _ _ _ x;refine ⟨_,(ai (bo (PW.pt (rk (cA (bE (aq (ok_ah T).up (rmo hr) rfl T.mg_ah T.F_ah.kp T.b_ah .nil b8 (aa (pv 1) (aa (bz (pv 0) T.cl_ab T.m_ae (ok_ae T).up (rmo hr) T.b_ae .nil b8) ae))))) (mv (cA (bE (aq (ok_ah T).up (rmo hr) rfl T.mg_ah T.F_ah.kp T.b_ah .nil b8 (aa (pv 2) (aa (bz (pv 0) T.cl_ab T.m_ad (ok_ad T).up (rmo hr) T.b_ad .nil b8) ae)))))))) (ai (cQ T.mg_aR T.x_aR PySem.F.excBase_ValueError rfl rfl (fun _ _ _ _ _ _ _ _ I m q=>fL I m q) (aa bZ ae))) aE)),?_⟩;apply aF e1 (nl (by decide +kernel)) ?_;apply ⟨p,s,cs,rs,rfl,hc,?_⟩;apply ⟨x,_,rfl,?_⟩;by_cases hx:0≤x∧x<(cs.length:Int)+1
  ·rw [i3 hx];apply aF e1 (nl (by decide +kernel)) ?_;apply ⟨p,s,cs,rs,rfl,hc,?_⟩;apply ⟨y,_,rfl,?_⟩;by_cases hy:0≤y∧y<(rs.length:Int)+1
   ·rw [i3 hy];left;rcases h with ⟨_,q⟩ | ⟨n,_⟩
    ·exact q
    ·exact absurd ⟨hx,hy⟩ n
   ·rw [fM hy];left;rcases h with ⟨n,_⟩ | ⟨_,q⟩
    ·exact absurd n.2 hy
    ·exact ⟨by show 1≤sizeLine; decide,q⟩
  ·rw [fM hx];left;rcases h with ⟨n,_⟩ | ⟨_,q⟩
   ·exact absurd n.1 hx
   ·exact ⟨by show 1≤sizeLine; decide,q⟩
noncomputable def gM (s:Int) (cs rs:List Int) (x y:Int):Int:=(s+((cs.take x.toNat).sum+(rs.take y.toNat).sum+x*y))%2
noncomputable def i0 (C NC:Addr):Sp:=fun vs H Q E=>∃ (p:Addr) (x y s:Int) (cs rs:List Int),vs=[.ref p,.int x,.int y]∧aK C H p s cs rs∧gE cs∧gE rs ∧
 ((wZ x y cs rs∧∀ H',ah H H'→Q (.int (gM s cs rs x y)) H')∨(¬ wZ x y cs rs∧E (.ref NC) none H))
theorem okx_af (T:Txt K mg t):a7 P w K mg base (CX1 P w) 4 t.f_af t.d_af ["self","x","y"] (i0 t.a_ab t.a_aR):=by
 refine T.F_af.ok1 sc_af (fun vs H Q E h=>?_) (fun cdv A outer s H vs Q E hr h=>?_)
 ·obtain ⟨p,x,y,s,cs,rs,rfl,_⟩:=h; rfl
 ·obtain ⟨p,x,y,s,cs,rs,rfl,hc,bc,br,h⟩:=h;obtain ⟨dx,a,b,e1,e2,e3⟩:=hc.ob;refine aI (bf (aq (okx_ag T) (rmo hr) rfl T.mg_ag T.F_ag.kp T.b_ag .nil b8 (aa (pv 0) (aa (pv 1) (aa (pv 2) ae))))) fun _ _=>aI (aM 3 sc_af.nd (ar aY (ar aY (ao (qL K rfl rfl) rfl T.no_sum (by rfl) (aa (gX (rp K rfl) (eY K rfl (pv 0) rfl) jf (jg (pv 1))) ae)) (ao (qL K rfl rfl) rfl T.no_sum (by rfl) (aa (gX (rp K rfl) (eY K rfl (pv 0) rfl) jf (jg (pv 2))) ae))) (ar gr (pv 1) (pv 2)))) fun _ _=>dr (aG (ar bN (ar aY (eY K rfl (pv 0) rfl) (pv 3)) af)) fun _ _=>?_;left;rcases h with ⟨i,k⟩ | ⟨n,q⟩
  ·obtain ⟨⟨x0,x1⟩,y0,y1⟩:=id i;refine ⟨p,x,y,s,cs,rs,rfl,hc,.inl ⟨i,?_⟩⟩;apply e8 e1 T.cl_ab T.na_col_bits (yE _ _ _) ?_;apply vG e2 fun H1 u s1 hu=>?_;rw [kL x0] at hu;apply rn hu (jy (fun z hz=>bc.2 z (List.mem_of_mem_take hz)) (by rw [List.length_take]; have:=bc.1; omega)) ?_;apply e8 (s1 _ _ e1) T.cl_ab T.na_row_bits (yF _ _ _) ?_;apply vG (s1 _ _ e3) fun H2 v s2 hv=>?_;rw [kL y0] at hv;apply rn hv (jy (fun z hz=>br.2 z (List.mem_of_mem_take hz)) (by rw [List.length_take]; have:=br.1; omega)) ?_;apply b6 (.inl ⟨by omega,by have:=bc.1; omega⟩) ?_;apply e8 (s2 _ _ (s1 _ _ e1)) T.cl_ab T.na_first_colour (A8 _ _ _) ?_;apply b6 (by decide) ?_;exact k H2 (s1.trans s2)
  ·exact ⟨p,x,y,s,cs,rs,rfl,hc,.inr ⟨n,q⟩⟩
noncomputable def sp_af (C:Addr):Sp:=fun vs H Q _=>∃ (p:Addr) (x y s:Int) (cs rs:List Int),vs=[.ref p,.int x,.int y]∧aK C H p s cs rs∧gE cs∧gE rs∧0≤x∧x<cs.length+1∧0≤y∧y<rs.length+1 ∧
 ∀ H',ah H H'→Q (.int (gM s cs rs x y)) H'
theorem ok_af (T:Txt K mg t):a7 P w K mg base CX0 4 t.f_af t.d_af ["self","x","y"] (sp_af t.a_ab) :=
 (okx_af T).down fun vs H Q E hh=>by
  obtain ⟨p,x,y,s,cs,rs,e,hc,bc,br,x0,x1,y0,y1,k⟩:=hh;exact ⟨p,x,y,s,cs,rs,e,hc,bc,br,.inl ⟨⟨⟨x0,x1⟩,y0,y1⟩,k⟩⟩
noncomputable def BU (w:Str) (k st:Int) (cs rs:List Int):Prop:=∃ bs os,gG w cs rs bs∧gG w rs cs os∧0≤k∧k<bs.length∧¬ (0≤st∧st<(os.length:Int)+1)
noncomputable def ip (C NL NS:Addr):Sp:=fun vs H Q E=>∃ (p:Addr) (w:Str) (k st s:Int) (cs rs:List Int),vs=[.ref p,.str w,.int k,.int st]∧aK C H p s cs rs ∧
 ((∃ bs os,gG w cs rs bs∧gG w rs cs os∧0≤k∧k<bs.length∧0≤st∧st<os.length+1∧Q (.bl (decide ((st+bs.getD k.toNat 0)%2=1))) H)∨(A3 w k cs rs∧E (.ref NL) none H)∨(BU w k st cs rs∧E (.ref NS) none H))
theorem okx_aa (T:Txt K mg t):a7 P w K mg base (CX1 P w) 4 t.f_aa t.d_aa ["self","way","k","step"] (ip t.a_ab t.a_aP t.a_aT):=by
 refine T.F_aa.ok1 sc_aa (fun vs H Q E h=>?_) (fun cdv A outer s H vs Q E hr h=>?_)
 ·obtain ⟨p,w,k,st,s,cs,rs,rfl,_⟩:=h; rfl
 ·obtain ⟨p,w,k,st,s,cs,rs,rfl,hc,h⟩:=h;obtain ⟨dx,a,b,e1,e2,e3⟩:=hc.ob;have nl:∀ {w h:Int} {m:Str},NoF m→(cfl s a b w h).lookup m=none:=fun x=>dZ _ _ _ x;refine aI (aM 4 sc_aa.nd (cH (pv 0) T.cl_ab T.m_ap (okx_ap T) (rmo hr) T.b_ap .nil b8 (aa (pv 1) (aa (pv 2) ae)))) fun _ _=>aI (aM 5 sc_aa.nd (oq (bQ dy (pv 1) bZ) (bz (pv 0) T.cl_ab T.m_ad (ok_ad T).up (rmo hr) T.b_ad .nil b8) (bz (pv 0) T.cl_ab T.m_ae (ok_ae T).up (rmo hr) T.b_ae .nil b8))) fun _ _=>aI (bo (cA (bE (aq (ok_ah T).up (rmo hr) rfl T.mg_ah T.F_ah.kp T.b_ah .nil b8 (aa (pv 3) (aa (pv 5) ae))))) (ai (cQ T.mg_aT T.x_aT PySem.F.excBase_ValueError rfl rfl (fun _ _ _ _ _ _ _ _ I m q=>fL I m q) (aa bZ ae))) aE) fun _ _=>dr (aG (gk dy (ar bN (ar aY (pv 3) (pv 4)) af) af)) fun _ _=>?_;apply aF e1 (nl (by decide +kernel)) ?_;left;rcases h with ⟨bs,os,hw,ho,h0,h1,g0,g1,q⟩ | ⟨n,q⟩ | ⟨⟨bs,os,hw,ho,h0,h1,hn⟩,q⟩
  ·refine ⟨p,w,k,s,cs,rs,rfl,hc,.inl ⟨bs,hw,h0,h1,?_⟩⟩;left;rcases ho with ⟨rfl,rfl⟩ | ⟨rfl,rfl⟩
   ·rw [aT (rfl:("col":Str)="col")];apply aF e1 (nl (by decide +kernel)) ?_;apply ⟨p,s,cs,_,rfl,hc,?_⟩;apply ⟨st,_,rfl,?_⟩;rw [aT g0,aT g1];apply b6 (by decide) ?_;left;exact q
   ·rw [bA vg];apply aF e1 (nl (by decide +kernel)) ?_;apply ⟨p,s,_,rs,rfl,hc,?_⟩;apply ⟨st,_,rfl,?_⟩;rw [aT g0,aT g1];apply b6 (by decide) ?_;left;exact q
  ·exact ⟨p,w,k,s,cs,rs,rfl,hc,.inr ⟨n,q⟩⟩
  ·refine ⟨p,w,k,s,cs,rs,rfl,hc,.inl ⟨bs,hw,h0,h1,?_⟩⟩;left;rcases ho with ⟨rfl,rfl⟩ | ⟨rfl,rfl⟩
   ·rw [aT (rfl:("col":Str)="col")];apply aF e1 (nl (by decide +kernel)) ?_;apply ⟨p,s,cs,_,rfl,hc,?_⟩;apply ⟨st,_,rfl,?_⟩;rw [fM hn];left;exact ⟨by show 1≤sizeLine; decide,q⟩
   ·rw [bA vg];apply aF e1 (nl (by decide +kernel)) ?_;apply ⟨p,s,_,rs,rfl,hc,?_⟩;apply ⟨st,_,rfl,?_⟩;rw [fM hn];left;exact ⟨by show 1≤sizeLine; decide,q⟩
noncomputable def sp_aa (C:Addr):Sp:=fun vs H Q _=>∃ (p:Addr) (w:Str) (k st s:Int) (cs rs bs os:List Int),vs=[.ref p,.str w,.int k,.int st]∧aK C H p s cs rs∧gG w cs rs bs∧gG w rs cs os∧0≤k∧k<bs.length∧0≤st∧st<os.length+1 ∧
 Q (.bl (decide ((st+bs.getD k.toNat 0)%2=1))) H
theorem ok_aa (T:Txt K mg t):a7 P w K mg base CX0 4 t.f_aa t.d_aa ["self","way","k","step"] (sp_aa t.a_ab) :=
 (okx_aa T).down fun vs H Q E hh=>by
  obtain ⟨p,w,k,st,s,cs,rs,bs,os,e,hc,hw,ho,h0,h1,g0,g1,q⟩:=hh;exact ⟨p,w,k,st,s,cs,rs,e,hc,.inl ⟨bs,os,hw,ho,h0,h1,g0,g1,q⟩⟩
end
section
theorem aZ {n:Nat} (h:n<2000):n<sizeLine:=Nat.lt_of_lt_of_le h (by decide)
noncomputable def Pt (H:Hp) (v:V) (q:Int×Int):Prop:=∃ a,v=.ref a∧H a=some (.tup [.int q.1,.int q.2])
theorem Pt.mono {H H':Hp} {v:V} {q:Int×Int} (s:ah H H') (h:Pt H v q):Pt H' v q:=by
 obtain ⟨a,rfl,ha⟩:=h;exact ⟨a,rfl,s _ _ ha⟩
theorem Pt.upd {H:Hp} {v:V} {q:Int×Int} {l:Addr} {u o:HO} (h:Pt H v q) (e:H l=some u) (ne:∀ ys,HO.tup ys≠u):Pt (upd H l o) v q:=by
 obtain ⟨a,rfl,ha⟩:=h;exact ⟨a,rfl,by rw [aj (cm ha e (ne _))]; exact ha⟩
noncomputable def aP (H:Hp) (xs:List V) (ps:List (Int×Int)):Prop:=xs.length=ps.length∧∀ (i:Nat) v q,xs[i]?=some v→ps[i]?=some q→Pt H v q
theorem aP.mono {H H':Hp} {xs:List V} {ps:List (Int×Int)} (s:ah H H') (h:aP H xs ps):aP H' xs ps:=⟨h.1,fun i v q h1 h2=>(h.2 i v q h1 h2).mono s⟩
theorem aP.upd {H:Hp} {xs:List V} {ps:List (Int×Int)} {l:Addr} {u o:HO} (h:aP H xs ps) (e:H l=some u) (ne:∀ ys,HO.tup ys≠u):aP (upd H l o) xs ps:=⟨h.1,fun i v q h1 h2=>(h.2 i v q h1 h2).upd e ne⟩
theorem aP.nil {H:Hp}:aP H [] []:=⟨rfl,fun i v q h=>by simp at h⟩
theorem aP.cons {H:Hp} {v:V} {q:Int×Int} {xs:List V} {ps:List (Int×Int)} (h1:Pt H v q) (h:aP H xs ps):aP H (v::xs) (q::ps):=by
 refine ⟨by rw [List.length_cons,List.length_cons,h.1],fun i v' q' e1 e2=>?_⟩
 cases i with
 | zero=>simp only [List.getElem?_cons_zero,Option.some.injEq] at e1 e2; rw [← e1,← e2]; exact h1
 | succ i=>simp only [List.getElem?_cons_succ] at e1 e2; exact h.2 i v' q' e1 e2
theorem aP.inv {H:Hp} {xs:List V} {p:Int×Int} {ps:List (Int×Int)} (h:aP H xs (p::ps)):∃ v r,xs=v::r∧Pt H v p∧aP H r ps:=by
 match xs,h with
 | [],h=>have:=h.1; simp at this
 | v::r,h=>exact ⟨v,r,rfl,h.2 0 v p rfl rfl,by have:=h.1; simp only [List.length_cons] at this; omega,fun i v' q' e1 e2=>h.2 (i+1) v' q' (by simpa using e1) (by simpa using e2)⟩
theorem aP.snoc {H:Hp} {xs:List V} {ps:List (Int×Int)} {v:V} {q:Int×Int} (h:aP H xs ps) (hv:Pt H v q):aP H (xs++[v]) (ps++[q]):=by
 refine ⟨by rw [List.length_append,List.length_append,h.1]; rfl,fun i v' q' h1 h2=>?_⟩;by_cases hi:i<xs.length
 ·rw [List.getElem?_append_left hi] at h1;rw [List.getElem?_append_left (by rw [← h.1]; exact hi)] at h2;exact h.2 i v' q' h1 h2
 ·rw [List.getElem?_append_right (by omega)] at h1;rw [List.getElem?_append_right (by rw [← h.1]; omega),← h.1] at h2
  cases hk:i - xs.length with
  | zero =>
   rw [hk] at h1 h2;simp only [List.getElem?_cons_zero,Option.some.injEq] at h1 h2;rw [← h1,← h2]; exact hv
  | succ k => rw [hk] at h1; simp at h1
noncomputable def hG (H:Hp):V→Int×Int
 | .ref a=>match H a with
  | some (.tup [.int x, .int y]) => (x, y)
  | _ => (0, 0)
 | _=>(0,0)
theorem Pt.of {H:Hp} {v:V} {q:Int×Int} (h:Pt H v q):hG H v=q:=by
 obtain ⟨a,rfl,ha⟩:=h;simp only [hG,ha]
theorem aP.map:∀ {H:Hp} {xs:List V} {ps:List (Int×Int)},aP H xs ps→xs.map (hG H)=ps
 | H,[],[],_=>rfl
 | H,[],_::_,h=>by have:=h.1; simp at this
 | H,_::_,[],h=>by have:=h.1; simp at this
 | H,v::xs,p::ps,h=>by
  obtain ⟨v',r,e,h1,h2⟩:=h.inv
  cases e;rw [List.map_cons,h1.of,h2.map]
theorem aP.mem {H:Hp} {xs:List V} {ps:List (Int×Int)} (h:aP H xs ps):∀ v∈xs,Pt H v (hG H v):=by
 intro v hv;obtain ⟨i,hi⟩:=List.mem_iff_getElem?.mp hv;have hl:i<ps.length:=by rw [← h.1]; exact (List.getElem?_eq_some_iff.mp hi).1
 have:=h.2 i v _ hi (List.getElem?_eq_getElem hl)
 rw [this.of]; exact this
end
section
variable {P:Program} {w:World} {K:W.Frag} {mg:Str→Option Value} {base:Heap} {t:Ad}
noncomputable def rt (cs rs:List Int) (x y:Int):Bool:=decide (0<y)&&decide (y<(rs.length:Int)+1)&&decide (0≤x)&&decide (x<(cs.length:Int)+1)&&decide ((x+rs.getD (y - 1).toNat 0)%2=1)
noncomputable def ups (cs rs:List Int) (x y:Int):Bool:=decide (0<x)&&decide (x<(cs.length:Int)+1)&&decide (0≤y)&&decide (y<(rs.length:Int)+1)&&decide ((y+cs.getD (x - 1).toNat 0)%2=1)
noncomputable def sp_ak (C:Addr):Sp:=fun vs H Q _=>∃ (p:Addr) (x y s:Int) (cs rs:List Int),vs=[.ref p,.int x,.int y]∧aK C H p s cs rs∧Q (.bl (rt cs rs x y)) H
theorem ok_ak (T:Txt K mg t):a7 P w K mg base CX0 5 t.f_ak t.d_ak ["cloth","x","y"] (sp_ak t.a_ab):=by
 refine T.F_ak.ok sc_ak (fun vs H Q E h=>?_) (fun cdv A outer s H vs Q E hr h=>?_)
 ·obtain ⟨p,x,y,s,cs,rs,rfl,_⟩:=h; rfl
 ·obtain ⟨p,x,y,s,cs,rs,rfl,hc,q⟩:=h;obtain ⟨dx,a,b,e1,e2,e3⟩:=hc.ob;have nl:∀ {w h:Int} {m:Str},NoF m→(cfl s a b w h).lookup m=none:=fun x=>dZ _ _ _ x;refine ⟨_,(aO (bo (PW.pt (dB (eN dz dz af (pv 2) (bz (pv 0) T.cl_ab T.m_ad (ok_ad T) (rmo hr) T.b_ad .nil aJ)) (cU (eN og dz af (pv 1) (bz (pv 0) T.cl_ab T.m_ae (ok_ae T) (rmo hr) T.b_ae .nil aJ))))) (ai (aG (cH (pv 0) T.cl_ab T.m_aa (ok_aa T) (rmo hr) T.b_aa .nil aJ (aa bZ (aa (ar cq (pv 2) af) (aa (pv 1) ae)))))) aE) (ai (aG gj))),?_⟩;unfold rt at q;left;by_cases c1:0<y
  ·rw [aT c1] at q ⊢;apply aF e1 (nl (by decide +kernel)) ?_;apply ⟨p,s,cs,rs,rfl,hc,?_⟩;left;by_cases c2:y<(rs.length:Int)+1
   ·rw [aT c2] at q ⊢;left;by_cases c3:0≤x
    ·rw [aT c3] at q ⊢;apply aF e1 (nl (by decide +kernel)) ?_;apply ⟨p,s,cs,rs,rfl,hc,?_⟩;left;by_cases c4:x<(cs.length:Int)+1
     ·rw [aT c4] at q ⊢;apply aF e1 (nl (by decide +kernel)) ?_;left;exact ⟨p,"row",y - 1,x,s,cs,rs,rs,cs,rfl,hc,.inr ⟨rfl,rfl⟩,.inr ⟨rfl,rfl⟩,by omega,by omega,c3,c4,q⟩
     ·rw [bA c4] at q ⊢;left;exact q
    ·rw [bA c3] at q ⊢;left;exact q
   ·rw [bA c2] at q ⊢;left;exact q
  ·rw [bA c1] at q ⊢;left;exact q
noncomputable def sp_az (C:Addr):Sp:=fun vs H Q _=>∃ (p:Addr) (x y s:Int) (cs rs:List Int),vs=[.ref p,.int x,.int y]∧aK C H p s cs rs∧Q (.bl (ups cs rs x y)) H
theorem ok_az (T:Txt K mg t):a7 P w K mg base CX0 5 t.f_az t.d_az ["cloth","x","y"] (sp_az t.a_ab):=by
 refine T.F_az.ok sc_az (fun vs H Q E h=>?_) (fun cdv A outer s H vs Q E hr h=>?_)
 ·obtain ⟨p,x,y,s,cs,rs,rfl,_⟩:=h; rfl
 ·obtain ⟨p,x,y,s,cs,rs,rfl,hc,q⟩:=h;obtain ⟨dx,a,b,e1,e2,e3⟩:=hc.ob;have nl:∀ {w h:Int} {m:Str},NoF m→(cfl s a b w h).lookup m=none:=fun x=>dZ _ _ _ x;refine ⟨_,(aO (bo (PW.pt (dB (eN dz dz af (pv 1) (bz (pv 0) T.cl_ab T.m_ae (ok_ae T) (rmo hr) T.b_ae .nil aJ)) (cU (eN og dz af (pv 2) (bz (pv 0) T.cl_ab T.m_ad (ok_ad T) (rmo hr) T.b_ad .nil aJ))))) (ai (aG (cH (pv 0) T.cl_ab T.m_aa (ok_aa T) (rmo hr) T.b_aa .nil aJ (aa bZ (aa (ar cq (pv 1) af) (aa (pv 2) ae)))))) aE) (ai (aG gj))),?_⟩;unfold ups at q;left;by_cases c1:0<x
  ·rw [aT c1] at q ⊢;apply aF e1 (nl (by decide +kernel)) ?_;apply ⟨p,s,cs,rs,rfl,hc,?_⟩;left;by_cases c2:x<(cs.length:Int)+1
   ·rw [aT c2] at q ⊢;left;by_cases c3:0≤y
    ·rw [aT c3] at q ⊢;apply aF e1 (nl (by decide +kernel)) ?_;apply ⟨p,s,cs,rs,rfl,hc,?_⟩;left;by_cases c4:y<(rs.length:Int)+1
     ·rw [aT c4] at q ⊢;apply aF e1 (nl (by decide +kernel)) ?_;left;exact ⟨p,"col",x - 1,y,s,cs,rs,cs,rs,rfl,hc,.inl ⟨rfl,rfl⟩,.inl ⟨rfl,rfl⟩,by omega,by omega,c3,c4,q⟩
     ·rw [bA c4] at q ⊢;left;exact q
    ·rw [bA c3] at q ⊢;left;exact q
   ·rw [bA c2] at q ⊢;left;exact q
  ·rw [bA c1] at q ⊢;left;exact q
noncomputable def nb (cs rs:List Int) (q:Int×Int):List (Int×Int) :=
 (if rt cs rs (q.1 - 1) q.2=true then [(q.1 - 1,q.2)] else [])++(if ups cs rs q.1 (q.2 - 1)=true then [(q.1,q.2 - 1)] else [])++(if ups cs rs q.1 q.2=true then [(q.1,q.2+1)] else [])++(if rt cs rs q.1 q.2=true then [(q.1+1,q.2)] else [])
noncomputable def cz (cs rs:List Int) (q:Int×Int):Prop:=(0≤q.1∧q.1<(cs.length:Int)+1+1)∧0≤q.2∧q.2<(rs.length:Int)+1+1
noncomputable def qu (C NP:Addr):Sp:=fun vs H Q E=>∃ (p a:Addr) (q:Int×Int) (s:Int) (cs rs:List Int),vs=[.ref p,.ref a]∧aK C H p s cs rs∧H a=some (.tup [.int q.1,.int q.2]) ∧
 ((cz cs rs q∧∀ l xs H',ah H H'→H l=none→H' l=some (.lst xs)→aP H' xs (nb cs rs q)→Q (.ref l) H')∨(¬ cz cs rs q∧E (.ref NP) none H))
theorem okx_am (T:Txt K mg t):a7 P w K mg base (CX1 P w) 6 t.f_am t.d_am ["cloth","point"] (qu t.a_ab t.a_aQ):=by
 refine T.F_am.ok1 sc_am (fun vs H Q E h=>?_) (fun cdv A outer s H vs Q E hr h=>?_)
 ·obtain ⟨p,a,q,s,cs,rs,rfl,_⟩:=h; rfl
 ·obtain ⟨p,a,⟨x,y⟩,s,cs,rs,rfl,hc,ha,h⟩:=h;dsimp only at ha;obtain ⟨dx,a1,b1,e1,e2,e3⟩:=hc.ob;have nl:∀ {w h:Int} {m:Str},NoF m→(cfl s a1 b1 w h).lookup m=none:=fun x=>dZ _ _ _ x;refine aI (aM 2 sc_am.nd (au (aD K rfl) (pv 1) af)) fun _ _=>aI (aM 3 sc_am.nd (au (aD K rfl) (pv 1) af)) fun _ _=>aI (bo (PW.pt (rk (cA (bE (aq (ok_ah T).up (rmo hr) rfl T.mg_ah T.F_ah.kp T.b_ah .nil b8 (aa (pv 2) (aa (ar aY (bz (pv 0) T.cl_ab T.m_ae (ok_ae T).up (rmo hr) T.b_ae .nil b8) af) ae))))) (mv (cA (bE (aq (ok_ah T).up (rmo hr) rfl T.mg_ah T.F_ah.kp T.b_ah .nil b8 (aa (pv 3) (aa (ar aY (bz (pv 0) T.cl_ab T.m_ad (ok_ad T).up (rmo hr) T.b_ad .nil b8) af) ae)))))))) (ai (cQ T.mg_aQ T.x_aQ PySem.F.excBase_ValueError rfl rfl (fun _ _ _ _ _ _ _ _ I m q=>fL I m q) (aa bZ ae))) aE) fun _ _=>aI (aM 4 sc_am.nd (cZ ae)) fun _ _=>aI (cJ (bo (bE (aq (ok_ak T).up (rmo hr) rfl T.mg_ak T.F_ak.kp T.b_ak .nil b8 (aa (pv 0) (aa (ar cq (pv 2) af) (aa (pv 3) ae))))) (ai (bf (cT PySem.F.plainAttrs_list PySem.F.slot_list_append PySem.F.type_list_append aV (pv 4) (aa (bB (aa (ar cq (pv 2) af) (aa (pv 3) ae))) ae)))) aE)) fun _ _=>aI (cJ (bo (bE (aq (ok_az T).up (rmo hr) rfl T.mg_az T.F_az.kp T.b_az .nil b8 (aa (pv 0) (aa (pv 2) (aa (ar cq (pv 3) af) ae))))) (ai (bf (cT PySem.F.plainAttrs_list PySem.F.slot_list_append PySem.F.type_list_append aV (pv 4) (aa (bB (aa (pv 2) (aa (ar cq (pv 3) af) ae))) ae)))) aE)) fun _ _=>aI (cJ (bo (bE (aq (ok_az T).up (rmo hr) rfl T.mg_az T.F_az.kp T.b_az .nil b8 (aa (pv 0) (aa (pv 2) (aa (pv 3) ae))))) (ai (bf (cT PySem.F.plainAttrs_list PySem.F.slot_list_append PySem.F.type_list_append aV (pv 4) (aa (bB (aa (pv 2) (aa (ar aY (pv 3) af) ae))) ae)))) aE)) fun _ _=>aI (cJ (bo (bE (aq (ok_ak T).up (rmo hr) rfl T.mg_ak T.F_ak.kp T.b_ak .nil b8 (aa (pv 0) (aa (pv 2) (aa (pv 3) ae))))) (ai (bf (cT PySem.F.plainAttrs_list PySem.F.slot_list_append PySem.F.type_list_append aV (pv 4) (aa (bB (aa (ar aY (pv 2) af) (aa (pv 3) ae))) ae)))) aE)) fun _ _=>dr (aG (pv 4)) fun _ _=>?_;apply aN (SqT.of ha) (v:=.int x) rfl ?_;apply aN (SqT.of ha) (v:=.int y) rfl ?_;apply aF e1 (nl (by decide +kernel)) ?_;apply ⟨p,s,cs,rs,rfl,hc,?_⟩;apply ⟨x,_,rfl,?_⟩;by_cases hx:0≤x∧x<(cs.length:Int)+1+1
  ·rw [i3 hx];apply aF e1 (nl (by decide +kernel)) ?_;apply ⟨p,s,cs,rs,rfl,hc,?_⟩;apply ⟨y,_,rfl,?_⟩;by_cases hy:0≤y∧y<(rs.length:Int)+1+1
   ·rw [i3 hy];left;rcases h with ⟨_,h⟩ | ⟨n,_⟩
    ·refine ⟨Nat.zero_le _,fun l n1=>?_⟩;have s1:=ah.new (o:=HO.lst []) n1;have f1:=ag (H:=H) (a:=l) (o:=HO.lst []);generalize upd H l (HO.lst [])=H1 at s1 f1 ⊢;obtain ⟨xs,f1,w1,lx⟩:∃ xs,H1 l=some (.lst xs)∧aP H1 xs []∧xs.length≤0:=⟨[],f1,aP.nil,Nat.le_refl 0⟩
     apply cK (fun σ' H'=>∃ xs,σ'=[some (.ref p),some (.ref a),some (.int x),some (.int y),some (.ref l)]∧ah H H'∧H' l=some (.lst xs)∧xs.length≤1∧aP H' xs ([]++(if rt cs rs (x - 1) y=true then [(x - 1,y)] else []))) ?_ ?_
     ·apply ⟨p,x - 1,y,s,cs,rs,rfl,hc.mono s1,?_⟩;left;by_cases c:rt cs rs (x - 1) y=true
      ·rw [if_pos c];apply bY f1 ?_;apply ⟨by show 2≤sizeLine; decide,fun b hb=>?_⟩;have sb:=ah.new (o:=HO.tup [V.int (x - 1),V.int y]) hb;apply aX (sb _ _ f1) (aZ (by omega)) ?_;refine ⟨_,rfl,(s1.trans sb).later n1,ag,by rw [List.length_append,List.length_singleton]; omega,?_⟩;rw [if_pos c];exact ((w1.mono sb).upd (sb _ _ f1) (by intro ys z; cases z)).snoc (Pt.upd (q:=(x - 1,y)) ⟨b,rfl,ag⟩ (sb _ _ f1) (by intro ys z; cases z))
      ·rw [if_neg c];apply ⟨_,rfl,s1,f1,by omega,?_⟩;rw [if_neg c,List.append_nil];exact w1
     ·clear s1 f1 w1 lx;rintro σ' H1 ⟨xs,rfl,s1,f1,lx,w1⟩;apply cK (fun σ' H'=>∃ xs,σ'=[some (.ref p),some (.ref a),some (.int x),some (.int y),some (.ref l)]∧ah H H'∧H' l=some (.lst xs)∧xs.length≤2∧aP H' xs ([]++(if rt cs rs (x - 1) y=true then [(x - 1,y)] else [])++(if ups cs rs x (y - 1)=true then [(x,y - 1)] else []))) ?_ ?_
      ·apply ⟨p,x,y - 1,s,cs,rs,rfl,hc.mono s1,?_⟩;left;by_cases c:ups cs rs x (y - 1)=true
       ·rw [if_pos c];apply bY f1 ?_;apply ⟨by show 2≤sizeLine; decide,fun b hb=>?_⟩;have sb:=ah.new (o:=HO.tup [V.int x,V.int (y - 1)]) hb;apply aX (sb _ _ f1) (aZ (by omega)) ?_;refine ⟨_,rfl,(s1.trans sb).later n1,ag,by rw [List.length_append,List.length_singleton]; omega,?_⟩;rw [if_pos c];exact ((w1.mono sb).upd (sb _ _ f1) (by intro ys z; cases z)).snoc (Pt.upd (q:=(x,y - 1)) ⟨b,rfl,ag⟩ (sb _ _ f1) (by intro ys z; cases z))
       ·rw [if_neg c];apply ⟨_,rfl,s1,f1,by omega,?_⟩;rw [if_neg c,List.append_nil];exact w1
      ·clear s1 f1 w1 lx;rintro σ' H1 ⟨xs,rfl,s1,f1,lx,w1⟩;apply cK (fun σ' H'=>∃ xs,σ'=[some (.ref p),some (.ref a),some (.int x),some (.int y),some (.ref l)]∧ah H H'∧H' l=some (.lst xs)∧xs.length≤3∧aP H' xs ([]++(if rt cs rs (x - 1) y=true then [(x - 1,y)] else [])++(if ups cs rs x (y - 1)=true then [(x,y - 1)] else [])++(if ups cs rs x y=true then [(x,y+1)] else []))) ?_ ?_
       ·apply ⟨p,x,y,s,cs,rs,rfl,hc.mono s1,?_⟩;left;by_cases c:ups cs rs x y=true
        ·rw [if_pos c];apply bY f1 ?_;apply ⟨by show 2≤sizeLine; decide,fun b hb=>?_⟩;have sb:=ah.new (o:=HO.tup [V.int x,V.int (y+1)]) hb;apply aX (sb _ _ f1) (aZ (by omega)) ?_;refine ⟨_,rfl,(s1.trans sb).later n1,ag,by rw [List.length_append,List.length_singleton]; omega,?_⟩;rw [if_pos c];exact ((w1.mono sb).upd (sb _ _ f1) (by intro ys z; cases z)).snoc (Pt.upd (q:=(x,y+1)) ⟨b,rfl,ag⟩ (sb _ _ f1) (by intro ys z; cases z))
        ·rw [if_neg c];apply ⟨_,rfl,s1,f1,by omega,?_⟩;rw [if_neg c,List.append_nil];exact w1
       ·clear s1 f1 w1 lx;rintro σ' H1 ⟨xs,rfl,s1,f1,lx,w1⟩;apply cK (fun σ' H'=>∃ xs,σ'=[some (.ref p),some (.ref a),some (.int x),some (.int y),some (.ref l)]∧ah H H'∧H' l=some (.lst xs)∧xs.length≤4∧aP H' xs ([]++(if rt cs rs (x - 1) y=true then [(x - 1,y)] else [])++(if ups cs rs x (y - 1)=true then [(x,y - 1)] else [])++(if ups cs rs x y=true then [(x,y+1)] else [])++(if rt cs rs x y=true then [(x+1,y)] else []))) ?_ ?_
        ·apply ⟨p,x,y,s,cs,rs,rfl,hc.mono s1,?_⟩;left;by_cases c:rt cs rs x y=true
         ·rw [if_pos c];apply bY f1 ?_;apply ⟨by show 2≤sizeLine; decide,fun b hb=>?_⟩;have sb:=ah.new (o:=HO.tup [V.int (x+1),V.int y]) hb;apply aX (sb _ _ f1) (aZ (by omega)) ?_;refine ⟨_,rfl,(s1.trans sb).later n1,ag,by rw [List.length_append,List.length_singleton]; omega,?_⟩;rw [if_pos c];exact ((w1.mono sb).upd (sb _ _ f1) (by intro ys z; cases z)).snoc (Pt.upd (q:=(x+1,y)) ⟨b,rfl,ag⟩ (sb _ _ f1) (by intro ys z; cases z))
         ·rw [if_neg c];apply ⟨_,rfl,s1,f1,by omega,?_⟩;rw [if_neg c,List.append_nil];exact w1
        ·clear s1 f1 w1 lx;rintro σ' H1 ⟨xs,rfl,s1,f1,lx,w1⟩;left;exact h l xs H1 s1 n1 f1 w1
    ·exact absurd ⟨hx,hy⟩ n
   ·rw [fM hy];left;rcases h with ⟨n,_⟩ | ⟨_,q⟩
    ·exact absurd n.2 hy
    ·exact ⟨by show 1≤sizeLine; decide,q⟩
  ·rw [fM hx];left;rcases h with ⟨n,_⟩ | ⟨_,q⟩
   ·exact absurd n.1 hx
   ·exact ⟨by show 1≤sizeLine; decide,q⟩
theorem w8 (c:Bool) (q:Int×Int):(if c=true then [q] else []).length=if c=true then 1 else 0:=by cases c<;>rfl
noncomputable def sp_am (C:Addr):Sp:=fun vs H Q _=>∃ (p a:Addr) (q:Int×Int) (s:Int) (cs rs:List Int),vs=[.ref p,.ref a]∧aK C H p s cs rs∧H a=some (.tup [.int q.1,.int q.2])∧cz cs rs q∧∀ l xs H',ah H H'→H l=none→H' l=some (.lst xs)→aP H' xs (nb cs rs q)→Q (.ref l) H'
theorem ok_am (T:Txt K mg t):a7 P w K mg base CX0 6 t.f_am t.d_am ["cloth","point"] (sp_am t.a_ab) :=
 (okx_am T).down fun vs H Q E hh=>by
  obtain ⟨p,a,q,s,cs,rs,e,hc,ha,hi,k⟩:=hh;exact ⟨p,a,q,s,cs,rs,e,hc,ha,.inl ⟨hi,k⟩⟩
end
section
theorem nV {α:Type} [DecidableEq α]:∀ (a b:List α),a.Nodup→(∀ x∈a,x∈b)→a.length≤b.length
 | [],_,_,_=>Nat.zero_le _
 | x::a,b,hn,hs=>by
  rw [List.nodup_cons] at hn;have hx:=hs x List.mem_cons_self;have ih:=nV a (b.erase x) hn.2 fun y hy=>by
   have:y≠x:=fun e=>hn.1 (e ▸ hy)
   exact (List.mem_erase_of_ne this).mpr (hs y (List.mem_cons_of_mem _ hy))
  rw [List.length_erase_of_mem hx] at ih;have:=List.length_pos_of_mem hx
  rw [List.length_cons];omega
theorem xh {c:Bool} {q r:Int×Int}:r∈(if c=true then [q] else [])↔c=true∧r=q:=by cases c<;>simp
theorem bV {cs rs:List Int} {q r:Int×Int}:r∈nb cs rs q↔(rt cs rs (q.1 - 1) q.2=true∧r=(q.1 - 1,q.2))∨(ups cs rs q.1 (q.2 - 1)=true∧r=(q.1,q.2 - 1))∨(ups cs rs q.1 q.2=true∧r=(q.1,q.2+1))∨(rt cs rs q.1 q.2=true∧r=(q.1+1,q.2)):=by
 unfold nb;simp only [List.mem_append,xh];constructor
 ·rintro (((h | h) | h) | h)
  ·exact .inl h
  ·exact .inr (.inl h)
  ·exact .inr (.inr (.inl h))
  ·exact .inr (.inr (.inr h))
 ·rintro (h | h | h | h)
  ·exact .inl (.inl (.inl h))
  ·exact .inl (.inl (.inr h))
  ·exact .inl (.inr h)
  ·exact .inr h
theorem cb {cs rs:List Int} {x y:Int}:rt cs rs x y=true↔0<y∧y<(rs.length:Int)+1∧0≤x∧x<(cs.length:Int)+1∧(x+rs.getD (y - 1).toNat 0)%2=1:=by
 unfold rt;simp only [Bool.and_eq_true,decide_eq_true_eq,and_assoc]
theorem bO {cs rs:List Int} {x y:Int}:ups cs rs x y=true↔0<x∧x<(cs.length:Int)+1∧0≤y∧y<(rs.length:Int)+1∧(y+cs.getD (x - 1).toNat 0)%2=1:=by
 unfold ups;simp only [Bool.and_eq_true,decide_eq_true_eq,and_assoc]
theorem AS {cs rs:List Int} {x y:Int} (h:rt cs rs (x - 1) y=true):rt cs rs x y=false:=by
 cases h2:rt cs rs x y with
 | false=>rfl
 | true=>have h:=cb.mp h; have h2:=cb.mp h2; omega
theorem yr {cs rs:List Int} {x y:Int} (h:ups cs rs x (y - 1)=true):ups cs rs x y=false:=by
 cases h2:ups cs rs x y with
 | false=>rfl
 | true=>have h:=bO.mp h; have h2:=bO.mp h2; omega
theorem cC (cs rs:List Int):Sm.Gr (nb cs rs):=by
 refine ⟨fun q=>?_,fun q=>?_,fun {a b} h=>?_,fun a h=>?_⟩
 ·unfold nb;obtain ⟨x,y⟩:=q;dsimp only;by_cases h1:rt cs rs (x - 1) y=true<;>by_cases h2:ups cs rs x (y - 1)=true<;>by_cases h3:ups cs rs x y=true<;>by_cases h4:rt cs rs x y=true <;>
   simp only [h1,h2,h3,h4,if_true,if_false,List.nil_append,List.cons_append,List.nodup_cons,List.mem_cons,List.not_mem_nil,or_false,Prod.mk.injEq,List.nodup_nil,Bool.false_eq_true,not_false_eq_true,and_true,true_and,not_or]<;>omega
 ·unfold nb;simp only [List.length_append,w8];have h1:rt cs rs (q.1 - 1) q.2=true→rt cs rs q.1 q.2=false:=AS;have h2:ups cs rs q.1 (q.2 - 1)=true→ups cs rs q.1 q.2=false:=yr;generalize rt cs rs (q.1 - 1) q.2=A at h1;generalize rt cs rs q.1 q.2=B at h1;generalize ups cs rs q.1 (q.2 - 1)=C at h2;generalize ups cs rs q.1 q.2=D at h2
  cases A<;>cases B<;>cases C<;>cases D<;>simp at h1 h2 ⊢
 ·have hb:=bV.mp h;clear h;refine bV.mpr ?_;rcases hb with ⟨h,rfl⟩ | ⟨h,rfl⟩ | ⟨h,rfl⟩ | ⟨h,rfl⟩
  ·exact .inr (.inr (.inr ⟨h,Prod.ext (by dsimp only; omega) rfl⟩))
  ·exact .inr (.inr (.inl ⟨h,Prod.ext rfl (by dsimp only; omega)⟩))
  ·exact .inr (.inl ⟨by dsimp only; rw [show a.2+1 - 1=a.2 by omega]; exact h,Prod.ext rfl (by dsimp only; omega)⟩)
  ·exact .inl ⟨by dsimp only; rw [show a.1+1 - 1=a.1 by omega]; exact h,Prod.ext (by dsimp only; omega) rfl⟩
 ·rcases bV.mp h with ⟨_,e⟩ | ⟨_,e⟩ | ⟨_,e⟩ | ⟨_,e⟩
  ·have:=congrArg Prod.fst e; dsimp only at this; omega
  ·have:=congrArg Prod.snd e; dsimp only at this; omega
  ·have:=congrArg Prod.snd e; dsimp only at this; omega
  ·have:=congrArg Prod.fst e; dsimp only at this; omega
theorem uB {cs rs:List Int} {q r:Int×Int} (h:r∈nb cs rs q):cz cs rs r:=by
 unfold cz;have hb:=bV.mp h;clear h;rcases hb with ⟨h,rfl⟩ | ⟨h,rfl⟩ | ⟨h,rfl⟩ | ⟨h,rfl⟩
 ·have:=cb.mp h; dsimp only at *; omega
 ·have:=bO.mp h; dsimp only at *; omega
 ·have:=bO.mp h; dsimp only at *; omega
 ·have:=cb.mp h; dsimp only at *; omega
theorem iA {cs rs:List Int}:∀ {a b:Int×Int} {l:List (Int×Int)},b∈nb cs rs a→Sm.Go (nb cs rs) a b l→∀ x∈b::l,cz cs rs x
 | a,b,[],hb,_,x,hx=>by rw [List.mem_singleton.mp hx]; exact uB hb
 | a,b,c::l,hb,g,x,hx=>by
  rcases List.mem_cons.mp hx with e | hx
  ·rw [e]; exact uB hb
  ·exact iA (Sm.gS g).1 g.2 x hx
theorem qU {cs rs:List Int} (lc:cs.length≤39) (lr:rs.length≤39) {l:List (Int×Int)} (hn:l.Nodup) (hi:∀ q∈l,cz cs rs q):l.length≤1681:=by
 have:=nV l ((List.range 1681).map fun k=>(((k / 41:Nat):Int),((k%41:Nat):Int))) hn fun q hq=>by
  obtain ⟨⟨a,b⟩,c,d⟩:=hi q hq;refine List.mem_map.mpr ⟨q.1.toNat*41+q.2.toNat,List.mem_range.mpr (by omega),Prod.ext ?_ ?_⟩
  ·dsimp only; omega
  ·dsimp only; omega
 rwa [List.length_map,List.length_range] at this
end
section
variable {P:Program} {w:World} {K:W.Frag} {mg:Str→Option Value} {base:Heap} {t:Ad}
theorem uD (cs rs:List Int) (q:Int×Int):(nb cs rs q).length≤2:=(cC cs rs).le2 q
theorem nL {H:Hp}:∀ {xs:List V} {ps:List (Int×Int)} {a:Int×Int},aP H xs ps→aP H (xs.filter fun v=>!decide (hG H v=a)) (ps.filter fun c=>!decide (c=a))
 | [],[],a,_=>aP.nil
 | [],_::_,_,h=>by have:=h.1; simp at this
 | _::_,[],_,h=>by have:=h.1; simp at this
 | v::xs,p::ps,a,h=>by
  obtain ⟨v',r,e,h1,h2⟩:=h.inv
  cases e;have:=nL (a:=a) h2
  by_cases c:p=a
  ·have e1:(!decide (hG H v=a))=false:=by rw [h1.of]; simp [c]
   have e2:(!decide (p=a))=false:=by simp [c]
   rw [List.filter_cons_of_neg (by rw [e1]; simp),List.filter_cons_of_neg (by rw [e2]; simp)];exact this
  ·have e1:(!decide (hG H v=a))=true:=by rw [h1.of]; simp [c]
   have e2:(!decide (p=a))=true:=by simp [c]
   rw [List.filter_cons_of_pos (by rw [e1]),List.filter_cons_of_pos (by rw [e2])];exact aP.cons h1 this
theorem hZ {H:Hp} {xs:List V} {ps:List (Int×Int)} {q:Int×Int} (h:aP H xs (ps++[q])):∃ v,atI xs (-1)=some v∧Pt H v q:=by
 have hl:=h.1;rw [List.length_append,List.length_singleton] at hl;obtain ⟨ys,v,rfl⟩:∃ ys v,xs=ys++[v]:=⟨xs.dropLast,xs.getLast (fun e=>by rw [e] at hl; simp at hl),(List.dropLast_concat_getLast _).symm⟩
 rw [List.length_append,List.length_singleton] at hl;refine ⟨v,tO ys v,h.2 ps.length v q (by rw [List.getElem?_append_right (by omega),show ps.length - ys.length=0 by omega]; rfl) (by simp)⟩
theorem zI {a b h:Int×Int} {r m:List (Int×Int)} (e:r++[h]=b::m):∃ r0 z,a::r=r0++[z]∧Sm.fin a b m=(z,h):=by
 match m,e with
 | [],e =>
  have:r=[]:=by
   have:=congrArg List.length e
   rw [List.length_append] at this;exact List.eq_nil_of_length_eq_zero (by simpa using this)
  subst this;simp only [List.nil_append,List.cons.injEq,and_true] at e;exact ⟨[],a,rfl,by rw [e]; rfl⟩
 | c::m,e =>
  obtain ⟨m0,z,hm⟩:∃ m0 z,c::m=m0++[z]:=⟨(c::m).dropLast,(c::m).getLast (by simp),(List.dropLast_concat_getLast _).symm⟩
  rw [hm] at e ⊢;rw [← List.cons_append] at e;have e1:=List.append_inj_left' e rfl;have e2:=List.append_inj_right' e rfl;simp only [List.cons.injEq,and_true] at e2;subst e1 e2;refine ⟨(a::b::m0).dropLast,(Sm.fin a b m0).2,?_,by rw [Sm.jE]⟩;have hl:=Sm.gO a b m0;rw [List.getLast?_eq_some_getLast (by simp)] at hl;rw [← Option.some.inj hl,List.dropLast_concat_getLast]
noncomputable def sp_aD (C:Addr):Sp:=fun vs H Q _=>∃ (p a b:Addr) (qa qb:Int×Int) (s:Int) (cs rs:List Int),vs=[.ref p,.ref a,.ref b]∧aK C H p s cs rs∧cs.length≤39∧rs.length≤39∧H a=some (.tup [.int qa.1,.int qa.2])∧H b=some (.tup [.int qb.1,.int qb.2])∧cz cs rs qa∧qb∈nb cs rs qa ∧
 ∀ l xs m H',ah H H'→H l=none→H' l=some (.lst xs)→Sm.Wlk (nb cs rs) qa qb m→aP H' xs (qa::qb::m)→Q (.ref l) H'
theorem ok_aD (T:Txt K mg t):a7 P w K mg base CX0 7 t.f_aD t.d_aD ["cloth","start","onward"] (sp_aD t.a_ab):=by
 refine T.F_aD.ok sc_aD (fun vs H Q E h=>?_) (fun cdv A outer s H vs Q E hr h=>?_)
 ·obtain ⟨p,a,b,qa,qb,s,cs,rs,rfl,_⟩:=h; rfl
 ·obtain ⟨p,a,b,qa,qb,s,cs,rs,rfl,hc,lc,lr,ha,hb,ia,adj,k⟩:=h;refine aI (aM 3 sc_aD.nd (cZ (aa (pv 1) ae))) fun _ _=>aI (aM 4 sc_aD.nd (pv 2)) fun _ _=>aI (fu PassesOwn.never (bQ (uN hr.units) (pv 4) (pv 1)) (aO (gw (i:=5) sc_aD.nd rfl (Or.inr rfl) (au (aA K rfl) (pv 3) (kZ iL af))) (aO (bf (cT PySem.F.plainAttrs_list PySem.F.slot_list_append PySem.F.type_list_append aV (pv 3) (aa (pv 4) ae))) (aO (rj (i:=6) sc_aD.nd rfl (Or.inl rfl) (N:=["point","behind"]) (cap:=[none,some 5]) rfl ⟨rfl,rfl,rfl,rfl,rfl,rfl⟩ (dR (aq (ok_am T) (rmo hr) rfl T.mg_am T.F_am.kp T.b_am .nil aJ (aa (pv 0) (aa (pv 4) ae)))) (fun _ _ _=>(aW (i:=0) (show (["point","behind"]:List Str).Nodup by decide +kernel) rfl (Or.inl rfl))) (fun _ _ _=>(mr (bQ (uN hr.units) (pv 0) (pv 1)))) (fun _ _ _=>(pv 0)) (by rfl)) (aO (bo (bQ dy (ao (bW K rfl) rfl T.no_len (by rfl) (aa (pv 6) ae)) af) (ai (aG (pv 3))) aE) (ai (aM 4 sc_aD.nd (au (aA K rfl) (pv 6) af)))))))) fun _ _=>dr (aG (pv 3)) fun _ _=>?_;apply ⟨by show 1≤sizeLine; decide,fun l n1=>?_⟩;have s1:=ah.new (o:=HO.lst [V.ref a]) n1;have e1:=ag (H:=H) (a:=l) (o:=HO.lst [V.ref a]);generalize upd H l (HO.lst [V.ref a])=H1 at s1 e1 ⊢;left;have qab:qb≠qa:=fun e=>(cC cs rs).irr qa (e ▸ adj);refine ⟨fun m σ' H'=>∃ (xs:List V) (h:Addr) (r m':List (Int×Int)) (qh:Int×Int) (o5 o6:Option V),m=2000 - r.length∧σ'=[some (.ref p),some (.ref a),some (.ref b),some (.ref l),some (.ref h),o5,o6]∧ah H H'∧H' l=some (.lst xs)∧aP H' xs (qa::r)∧Pt H' (.ref h) qh∧r++[qh]=qb::m'∧Sm.Go (nb cs rs) qa qb m'∧qa∉r∧r.length≤1681,
   ⟨_,_,b,[],[],qb,none,none,rfl,rfl,s1,e1,aP.cons ⟨a,rfl,s1 _ _ ha⟩ aP.nil,⟨b,rfl,s1 _ _ hb⟩,rfl,trivial,(fun z=>nomatch z),Nat.zero_le _⟩,?_⟩
  rintro m σ' H2 ⟨xs,h,r,m',qh,o5,o6,rfl,rfl,s2,e2,w2,ph,er,go,na,lr1⟩;obtain ⟨h',hh',ph'⟩:=ph
  cases hh';obtain ⟨r0,z0,er0,ef⟩:=zI (a:=qa) er;apply vD ph' (s2 _ _ ha) ?_;by_cases c:qh=qa
  ·rw [aT (show ((qh.1,qh.2):Int×Int)=(qa.1,qa.2) from c)];left;subst c
   match m',er,go with
   | [],er,_ =>
    have:r=[]:=by
     have:=congrArg List.length er
     rw [List.length_append] at this;exact List.eq_nil_of_length_eq_zero (by simpa using this)
    subst this;simp only [List.nil_append,List.cons.injEq,and_true] at er;exact absurd er.symm qab
   | c::mm,er,go =>
    obtain ⟨m0,z,hm⟩:∃ m0 z,c::mm=m0++[z]:=⟨(c::mm).dropLast,(c::mm).getLast (by simp),(List.dropLast_concat_getLast _).symm⟩
    rw [hm] at er go;rw [← List.cons_append] at er;have q1:=List.append_inj_left' er rfl;have q2:=List.append_inj_right' er rfl;simp only [List.cons.injEq,and_true] at q2;subst q1 q2;obtain ⟨g1,g2⟩:=Sm.eV.mp go;have nam:qh∉m0:=fun x=>na (List.mem_cons_of_mem _ x);exact k l xs m0 H2 s2 n1 e2 ⟨adj,g1,Sm.kc (cC cs rs) adj m0 g1 nam,.inr g2⟩ w2
  ·rw [bA (show ¬ ((qh.1,qh.2):Int×Int)=(qa.1,qa.2) from c)];left;have ef1:(Sm.fin qa qb m').1=z0:=by rw [ef]
   have ef2:(Sm.fin qa qb m').2=qh:=by rw [ef]
   have nam:qa∉m':=by
    intro x;have:qa∈r++[qh]:=by rw [er]; exact List.mem_cons_of_mem _ x
    rcases List.mem_append.mp this with x | x
    ·exact na x
    ·exact c (List.mem_singleton.mp x).symm
   have nd:=Sm.kc (cC cs rs) adj m' go nam;have few:=qU lc lr nd (fun q hq=>by
    rcases List.mem_cons.mp hq with e | hq
    ·rw [e]; exact ia
    ·exact iA adj go q hq)
   have le:r.length=m'.length:=by
    have:=congrArg List.length er
    rw [List.length_append,List.length_singleton,List.length_cons] at this;omega
   rw [List.length_cons,List.length_cons] at few;have lx:xs.length=r.length+1:=by rw [w2.1,List.length_cons]
   obtain ⟨vz,hz,pz⟩:=hZ (by rw [← er0]; exact w2);obtain ⟨az,rfl,haz⟩:=pz;have iq:cz cs rs qh:=iA adj go qh (by rw [← er]; exact List.mem_append_right _ (List.mem_singleton.mpr rfl));refine ⟨fun σ' H'=>∃ (xs:List V) (h:Addr) (qc:Int×Int) (o5 o6:Option V),σ'=[some (.ref p),some (.ref a),some (.ref b),some (.ref l),some (.ref h),o5,o6]∧ah H H'∧H' l=some (.lst xs)∧aP H' xs (qa::(r++[qh]))∧Pt H' (.ref h) qc∧Sm.oth (nb cs rs) z0 qh=[qc],?_,?_⟩
   ·rintro σ' H' ⟨xs,h,qc,o5,o6,rfl,s3,e3,w3,ph,eo⟩;refine ⟨_,?_,xs,h,r++[qh],m'++[qc],qc,o5,o6,rfl,rfl,s3,e3,w3,ph,by rw [er]; rfl,Sm.eV.mpr ⟨go,by rw [ef]; exact eo⟩,?_,?_⟩
    ·rw [List.length_append,List.length_singleton]; omega
    ·intro x;rcases List.mem_append.mp x with x | x
     ·exact na x
     ·exact c (List.mem_singleton.mp x).symm
    ·rw [List.length_append,List.length_singleton]; omega
   ·apply aR (SqL.of e2) hz ?_;apply bY e2 ?_;apply aX e2 (aZ (by omega)) ?_;have s3:=(s2.later (o:=.lst (xs++[.ref h])) n1)
    have e3:=ag (H:=H2) (a:=l) (o:=HO.lst (xs++[.ref h]));have w3:aP (L2.upd H2 l (.lst (xs++[.ref h]))) (xs++[.ref h]) (qa::(r++[qh])):=(w2.upd e2 (by intro ys z; cases z)).snoc (Pt.upd (q:=qh) ⟨h,rfl,ph'⟩ e2 (by intro ys z; cases z));have haz:=(Pt.upd (o:=.lst (xs++[.ref h])) (q:=z0) ⟨az,rfl,haz⟩ e2 (by intro ys z; cases z))
    have ph3:=(Pt.upd (o:=.lst (xs++[.ref h])) (q:=qh) ⟨h,rfl,ph'⟩ e2 (by intro ys z; cases z))
    generalize L2.upd H2 l (.lst (xs++[.ref h]))=H3 at s3 e3 w3 haz ph3 ⊢;obtain ⟨_,q1,haz⟩:=haz
    cases q1;obtain ⟨_,q1,ph3⟩:=ph3
    cases q1;apply ⟨p,h,qh,s,cs,rs,rfl,hc.mono s3,ph3,iq,fun lj ys H4 s4 _ e4 w4=>?_⟩;apply ⟨⟨_,SqL.of e4⟩,fun lw nw=>?_⟩;have l4:ys.length≤2:=by rw [w4.1]; exact uD cs rs qh
    refine pE (fun v=>v) (fun v=>!decide (hG H4 v=z0)) (SqL.of e4) (by omega) nw (fun x o H5 Q' hx s5 q=>?_) (fun x o H5 Q' hx _ s5 q=>?_) (fun H5 s5 e5=>?_)
    ·left;have px:=w4.mem x hx;obtain ⟨ax,rfl,hax⟩:=px;refine vD (s5 _ _ hax) (s5 _ _ (s4 _ _ haz)) ?_;left;exact q H5 (ah.refl _)
    ·left;exact q H5 (ah.refl _)
    ·rw [List.map_id'] at e5;have w5:=(nL (a:=z0) w4).mono s5;generalize (ys.filter fun v=>!decide (hG H4 v=z0))=us at e5 w5;have w5:aP H5 us (Sm.oth (nb cs rs) z0 qh):=w5;have s35:=s4.trans s5
     have hzq:z0∈nb cs rs qh:=by
      have:=(cC cs rs).sym (Sm.fP (cC cs rs) adj go)
      rw [ef] at this;exact this
     apply bX e5 ?_;left;rcases Sm.uP (cC cs rs) hzq with eo | ⟨qc,eo⟩
     ·rw [eo] at w5;have:us=[]:=List.eq_nil_of_length_eq_zero w5.1
      subst this;rw [show decide ((([]:List V).length:Int)=0)=true from rfl];apply k l _ m' H5 (s3.trans s35) n1 (s35 _ _ e3) ⟨adj,go,nd,.inl (by rw [ef]; exact eo)⟩ ?_;rw [← er];exact w3.mono s35
     ·rw [eo] at w5;obtain ⟨v,us',e,hv,wu⟩:=w5.inv;have:us'=[]:=List.eq_nil_of_length_eq_zero wu.1
      subst this;subst e;rw [show decide ((([v]:List V).length:Int)=0)=false from rfl];apply aR (SqL.of e5) (dj (j:=0) rfl) ?_;left;obtain ⟨av,rfl,hav⟩:=hv;exact ⟨_,av,qc,_,_,rfl,s3.trans s35,s35 _ _ e3,w3.mono s35,⟨av,rfl,hav⟩,eo⟩
theorem uC {cs rs:List Int} {q:Int×Int} (h2:(nb cs rs q).length=2) (h:∀ r∈nb cs rs q,Ts.ple q r):nb cs rs q=[(q.1,q.2+1)]++[(q.1+1,q.2)]:=by
 have h1:rt cs rs (q.1 - 1) q.2=false:=by
  cases c:rt cs rs (q.1 - 1) q.2 with
  | false => rfl
  | true => have := h _ (bV.mpr (.inl ⟨c, rfl⟩)); unfold Ts.ple at this; dsimp only at this; omega
 have h3:ups cs rs q.1 (q.2 - 1)=false:=by
  cases c:ups cs rs q.1 (q.2 - 1) with
  | false => rfl
  | true => have := h _ (bV.mpr (.inr (.inl ⟨c, rfl⟩))); unfold Ts.ple at this; dsimp only at this; omega
 unfold nb at h2 ⊢;rw [h1,h3] at h2 ⊢
 cases c:ups cs rs q.1 q.2<;>cases d:rt cs rs q.1 q.2<;>rw [c,d] at h2<;>first | rfl | (simp at h2)
theorem kT {a b:Int×Int} {m:List (Int×Int)}:∃ ps,a::b::m=ps++[(Sm.fin a b m).2]:=by
 have hl:=Sm.gO a b m;rw [List.getLast?_eq_some_getLast (by simp)] at hl;exact ⟨(a::b::m).dropLast,by rw [← Option.some.inj hl,List.dropLast_concat_getLast]⟩
theorem aP.rev:∀ {H:Hp} {xs:List V} {ps:List (Int×Int)},aP H xs ps→aP H xs.reverse ps.reverse
 | H,[],[],_=>aP.nil
 | H,[],_::_,h=>by have:=h.1; simp at this
 | H,_::_,[],h=>by have:=h.1; simp at this
 | H,v::xs,p::ps,h=>by
  obtain ⟨v',r,e,h1,h2⟩:=h.inv
  cases e;rw [List.reverse_cons,List.reverse_cons];exact (aP.rev h2).snoc h1
theorem j8 {cs rs:List Int} {f:Bool} {L:List (Int×Int)} (h:Sm.cy (nb cs rs) f L):∀ q∈L,cz cs rs q:=by
 obtain ⟨a,b,l,rfl,adj,go,_⟩:=h.path;intro q hq;rcases List.mem_cons.mp hq with e | hq
 ·rw [e]; exact uB ((cC cs rs).sym adj)
 ·exact iA adj go q hq
noncomputable def sp_an (C:Addr):Sp:=fun vs H Q _=>∃ (p ll:Addr) (xs:List V) (qa qb:Int×Int) (m:List (Int×Int)) (s:Int) (cs rs:List Int),vs=[.ref p,.ref ll]∧aK C H p s cs rs∧cs.length≤39∧rs.length≤39∧H ll=some (.lst xs)∧aP H xs (qa::qb::m)∧Sm.Rnd (nb cs rs) qa qb m∧cz cs rs qa ∧
 ∀ l ys L H',ah H H'→H l=none→H' l=some (.lst ys)→Sm.cy (nb cs rs) true L→qa∈L→aP H' ys L→Q (.ref l) H'
theorem ok_an (T:Txt K mg t):a7 P w K mg base CX0 8 t.f_an t.d_an ["cloth","line"] (sp_an t.a_ab):=by
 refine T.F_an.ok sc_an (fun vs H Q E h=>?_) (fun cdv A outer s H vs Q E hr h=>?_)
 ·obtain ⟨p,ll,xs,qa,qb,m,s,cs,rs,rfl,_⟩:=h; rfl
 ·obtain ⟨p,ll,xs,qa,qb,m,s,cs,rs,rfl,hc,lc,lr,hl,wx,rd,ia,k⟩:=h;have G:=cC cs rs;refine ⟨_,(aO (aM 2 sc_an.nd (ao (tT K rfl rfl hr.units) rfl T.no_min (by rfl) (aa (pv 1) ae))) (ai (aG (aq (ok_aD T) (rmo hr) rfl T.mg_aD T.F_aD.kp T.b_aD .nil aJ (aa (pv 0) (aa (pv 2) (aa (au (aA K rfl) (aq (ok_am T) (rmo hr) rfl T.mg_am T.F_am.kp T.b_am .nil aJ (aa (pv 0) (aa (pv 2) ae))) (kZ iL af)) ae))))))),?_⟩;apply xX (hG H) hl (fun e=>by have:=wx.1; rw [e] at this; simp at this) (fun v hv=>wx.mem v hv) fun v hv hmin=>?_;obtain ⟨a,rfl,ha⟩:=wx.mem v hv;have hq:hG H (.ref a)∈qa::qb::m:=by rw [← wx.map]; exact List.mem_map.mpr ⟨_,hv,rfl⟩
  have hmn:∀ r∈qa::qb::m,Ts.ple (hG H (.ref a)) r:=by
   intro r hr;rw [← wx.map] at hr;obtain ⟨u,hu,rfl⟩:=List.mem_map.mp hr;exact hmin u hu
  generalize hG H (.ref a)=q at ha hq hmn
  have iq:cz cs rs q:=by
   rcases List.mem_cons.mp hq with e | hq
   ·rw [e]; exact ia
   ·exact iA rd.adj rd.go q hq
  have sh:=rd.shut G;have two:=rd.two G;have enb:=uC (two q hq) fun r hr=>hmn r (sh q hq r hr);apply ⟨p,a,q,s,cs,rs,rfl,hc,ha,iq,fun lj ys H1 s1 _ e1 w1=>?_⟩;rw [enb] at w1;obtain ⟨v,hv1,pv⟩:=hZ w1;obtain ⟨b,rfl,hb⟩:=pv;apply aR (SqL.of e1) hv1 ?_;left;have adj:((q.1+1,q.2):Int×Int)∈nb cs rs q:=by rw [enb]; exact List.mem_append_right _ (List.mem_singleton.mpr rfl)
  refine ⟨p,a,b,q,(q.1+1,q.2),s,cs,rs,rfl,hc.mono s1,lc,lr,s1 _ _ ha,hb,iq,adj,fun l zs m' H2 s2 n2 e2 wk w2=>?_⟩;have rd2:=wk.round G sh two hq;have sub:∀ x∈q::(q.1+1,q.2)::m',x∈qa::qb::m:=Sm.iS G sh rd2.adj rd2.go q List.mem_cons_self hq;refine k l zs (q::(q.1+1,q.2)::m') H2 (s1.trans s2) (s1.free n2) e2 ⟨(fun e=>by cases e),fun _=>⟨q,_,m',rfl,rd2,fun x hx=>hmn x (sub x hx),rfl⟩⟩ ?_ w2;exact Sm.iS G (rd2.shut G) rd.adj rd.go q hq List.mem_cons_self qa List.mem_cons_self
noncomputable def sp_ar (C:Addr):Sp:=fun vs H Q _=>∃ (p a:Addr) (q:Int×Int) (s:Int) (cs rs:List Int),vs=[.ref p,.ref a]∧aK C H p s cs rs∧cs.length≤39∧rs.length≤39∧H a=some (.tup [.int q.1,.int q.2])∧(nb cs rs q).length=1∧cz cs rs q ∧
 ∀ l ys L H',ah H H'→H l=none→H' l=some (.lst ys)→Sm.cy (nb cs rs) false L→q∈L→aP H' ys L→Q (.ref l) H'
theorem ok_ar (T:Txt K mg t):a7 P w K mg base CX0 8 t.f_ar t.d_ar ["cloth","end"] (sp_ar t.a_ab):=by
 refine T.F_ar.ok sc_ar (fun vs H Q E h=>?_) (fun cdv A outer s H vs Q E hr h=>?_)
 ·obtain ⟨p,a,q,s,cs,rs,rfl,_⟩:=h; rfl
 ·obtain ⟨p,a,q,s,cs,rs,rfl,hc,lc,lr,ha,one,iq,k⟩:=h;have G:=cC cs rs;refine aI (aM 2 sc_ar.nd (aq (ok_aD T) (rmo hr) rfl T.mg_aD T.F_aD.kp T.b_aD .nil aJ (aa (pv 0) (aa (pv 1) (aa (au (aA K rfl) (aq (ok_am T) (rmo hr) rfl T.mg_am T.F_am.kp T.b_am .nil aJ (aa (pv 0) (aa (pv 1) ae))) af) ae))))) fun _ _=>aI (bo (bQ (Ae hr.units) (au (aA K rfl) (pv 2) (kZ iL af)) (pv 1)) (ai (aG (xu K rfl rfl rfl T.no_list rfl T.no_reversed (pv 2)))) aE) fun _ _=>dr (aG (pv 2)) fun _ _=>?_;apply ⟨p,a,q,s,cs,rs,rfl,hc,ha,iq,fun lj ys H1 s1 _ e1 w1=>?_⟩;obtain ⟨y,ey⟩:∃ y,nb cs rs q=[y]:=by
   match hz:nb cs rs q,one with
   | [y],_=>exact ⟨y,rfl⟩
  rw [ey] at w1;obtain ⟨v,r,e,hv,wr⟩:=w1.inv;subst e;obtain ⟨b,rfl,hb⟩:=hv;apply aR (SqL.of e1) (dj (j:=0) rfl) ?_;apply ⟨p,a,b,q,y,s,cs,rs,rfl,hc.mono s1,lc,lr,s1 _ _ ha,hb,iq,by rw [ey]; exact List.mem_singleton.mpr rfl,fun l zs m' H2 s2 n2 e2 wk w2=>?_⟩;have op:=wk.open G one;obtain ⟨t1,t2⟩:=Sm.tw G op;obtain ⟨ps,eps⟩:=kT (a:=q) (b:=y) (m:=m');obtain ⟨vl,hvl,pl⟩:=hZ (by rw [← eps]; exact w2);apply aR (SqL.of e2) hvl ?_;apply AJ (p:=(Sm.fin q y m').2) (q:=q) pl ⟨a,rfl,s2 _ _ (s1 _ _ ha)⟩ ?_
  cases hlt:Ts.plt (Sm.fin q y m').2 q with
  | true =>
   apply x8 ?_;apply AQ e2 fun l3 n3=>?_;left;have s3:=ah.new (o:=HO.lst zs.reverse) n3;exact k l3 _ _ _ (s1.trans (s2.trans s3)) (s1.free (s2.free n3)) ag (t1 hlt) (List.mem_reverse.mpr List.mem_cons_self) (w2.rev.mono s3)
  | false =>
   left;exact k l zs _ H2 (s1.trans s2) (s1.free n2) e2 (t2 hlt) List.mem_cons_self w2
noncomputable def sp_aM (C:Addr):Sp:=fun vs H Q _=>∃ (p a:Addr) (q:Int×Int) (s:Int) (cs rs:List Int),vs=[.ref p,.ref a]∧aK C H p s cs rs∧cs.length≤39∧rs.length≤39∧H a=some (.tup [.int q.1,.int q.2])∧cz cs rs q ∧
 (nb cs rs q=[]→∀ H',ah H H'→Q .non H') ∧
 (nb cs rs q≠[]→∀ TT l f ys L H',ah H H'→H TT=none→H l=none→H' TT=some (.tup [.bl f,.ref l])→H' l=some (.lst ys)→Sm.cy (nb cs rs) f L→q∈L→aP H' ys L→Q (.ref TT) H')
theorem ok_aM (T:Txt K mg t):a7 P w K mg base CX0 9 t.f_aM t.d_aM ["cloth","point"] (sp_aM t.a_ab):=by
 refine T.F_aM.ok sc_aM (fun vs H Q E h=>?_) (fun cdv A outer s H vs Q E hr h=>?_)
 ·obtain ⟨p,a,q,s,cs,rs,rfl,_⟩:=h; rfl
 ·obtain ⟨p,a,q,s,cs,rs,rfl,hc,lc,lr,ha,iq,k0,k⟩:=h;have G:=cC cs rs;refine aI (aM 2 sc_aM.nd (aq (ok_am T) (rmo hr) rfl T.mg_am T.F_am.kp T.b_am .nil aJ (aa (pv 0) (aa (pv 1) ae)))) fun _ _=>aI (bo (bQ dy (ao (bW K rfl) rfl T.no_len (by rfl) (aa (pv 2) ae)) af) (ai (aG gu)) aE) fun _ _=>aI (aM 3 sc_aM.nd (aq (ok_aD T) (rmo hr) rfl T.mg_aD T.F_aD.kp T.b_aD .nil aJ (aa (pv 0) (aa (pv 1) (aa (au (aA K rfl) (pv 2) af) ae))))) fun _ _=>aI (bo (bQ dy (ao (bW K rfl) rfl T.no_len (by rfl) (aa (aq (ok_am T) (rmo hr) rfl T.mg_am T.F_am.kp T.b_am .nil aJ (aa (pv 0) (aa (au (aA K rfl) (pv 3) (kZ iL af)) ae))) ae)) af) (ai (aG (bB (aa gj (aa (aq (ok_ar T) (rmo hr) rfl T.mg_ar T.F_ar.kp T.b_ar .nil aJ (aa (pv 0) (aa (au (aA K rfl) (pv 3) (kZ iL af)) ae))) ae))))) aE) fun _ _=>dr (aG (bB (aa gj (aa (aq (ok_an T) (rmo hr) rfl T.mg_an T.F_an.kp T.b_an .nil aJ (aa (pv 0) (aa (pv 3) ae))) ae)))) fun _ _=>?_;apply ⟨p,a,q,s,cs,rs,rfl,hc,ha,iq,fun lj ys H1 s1 _ e1 w1=>?_⟩;apply bX e1 ?_;left
  match hz:nb cs rs q,w1 with
  | [], w1 =>
   have:ys=[]:=List.eq_nil_of_length_eq_zero w1.1
   subst this;rw [show decide ((([]:List V).length:Int)=0)=true from rfl];left;exact k0 hz _ s1
  | y :: cW, w1 =>
   have k:=k (by rw [hz]; simp);obtain ⟨v,r,e,hv,wr⟩:=w1.inv;subst e;obtain ⟨b,rfl,hb⟩:=hv;rw [bA (show ¬ (((V.ref b::r).length:Nat):Int)=0 by rw [List.length_cons]; omega)];apply aR (SqL.of e1) (dj (j:=0) rfl) ?_;apply ⟨p,a,b,q,y,s,cs,rs,rfl,hc.mono s1,lc,lr,s1 _ _ ha,hb,iq,by rw [hz]; exact List.mem_cons_self,fun l zs m' H2 s2 n2 e2 wk w2=>?_⟩;obtain ⟨ps,eps⟩:=kT (a:=q) (b:=y) (m:=m');obtain ⟨vl,hvl,pl⟩:=hZ (by rw [← eps]; exact w2);obtain ⟨al,rfl,hal⟩:=pl;have il:cz cs rs (Sm.fin q y m').2:=iA wk.adj wk.go _ (Sm.cv q y m').1;apply aR (SqL.of e2) hvl ?_;apply ⟨p,al,(Sm.fin q y m').2,s,cs,rs,rfl,hc.mono (s1.trans s2),hal,il,fun lj us H3 s3 _ e3 w3=>?_⟩;apply bX e3 ?_;rw [w3.1];left;by_cases c1:(nb cs rs (Sm.fin q y m').2).length=1
   ·rw [c1,show decide (((1:Nat):Int)=1)=true from rfl];apply aR (SqL.of (s3 _ _ e2)) hvl ?_;apply ⟨p,al,(Sm.fin q y m').2,s,cs,rs,rfl,hc.mono (s1.trans (s2.trans s3)),lc,lr,s3 _ _ hal,c1,il,fun lo os L H4 s4 n4 e4 td hin w4=>?_⟩;apply ⟨by show 2≤sizeLine; decide,fun TT nT=>?_⟩;left;have sT:=ah.new (o:=HO.tup [V.bl false,V.ref lo]) nT;refine k TT lo false os L _ (s1.trans (s2.trans (s3.trans (s4.trans sT)))) (s1.free (s2.free (s3.free (s4.free nT)))) (s1.free (s2.free (s3.free n4))) ag (sT _ _ e4) td ?_ (w4.mono sT);exact Sm.iS G (td.shut G) wk.adj wk.go _ (List.mem_cons_of_mem _ (Sm.cv q y m').1) hin q List.mem_cons_self
   ·rw [bA (show ¬ (((nb cs rs (Sm.fin q y m').2).length:Nat):Int)=1 by omega)];have rd:Sm.Rnd (nb cs rs) q y m':=⟨wk.adj,wk.go,by
     rcases wk.stop with h | h
     ·exact absurd ((wk.ended G).mpr h) c1
     ·exact h,wk.nd⟩
    apply ⟨p,l,zs,q,y,m',s,cs,rs,rfl,hc.mono (s1.trans (s2.trans s3)),lc,lr,s3 _ _ e2,w2.mono s3,rd,iq,fun lo os L H4 s4 n4 e4 td hin w4=>?_⟩;apply ⟨by show 2≤sizeLine; decide,fun TT nT=>?_⟩;left;have sT:=ah.new (o:=HO.tup [V.bl true,V.ref lo]) nT;exact k TT lo true os L _ (s1.trans (s2.trans (s3.trans (s4.trans sT)))) (s1.free (s2.free (s3.free (s4.free nT)))) (s1.free (s2.free (s3.free n4))) ag (sT _ _ e4) td hin (w4.mono sT)
end
noncomputable def ky (q:Int×Int):List Key:=[Sum.inl q.1,Sum.inl q.2]
theorem jL {p q:Int×Int} (h:ky p=ky q):p=q:=by
 unfold ky at h;simp only [List.cons.injEq,Sum.inl.injEq,and_true] at h;exact Prod.ext h.1 h.2
noncomputable def cF (kvs:List (List Key×V)) (ps:List (Int×Int)):Prop:=kvs.map (·.1)=ps.map ky
theorem cF.len {kvs:List (List Key×V)} {ps:List (Int×Int)} (h:cF kvs ps):kvs.length=ps.length:=by
 have:=congrArg List.length h
 rwa [List.length_map,List.length_map] at this
theorem cF.val {kvs:List (List Key×V)} {ps:List (Int×Int)} (h:cF kvs ps) (q:Int×Int):(bp kvs (ky q)).isSome=decide (q∈ps):=by
 rw [← dh];have e:(kvs.any fun kv=>decide (kv.1=ky q))=(kvs.map (·.1)).any fun k=>decide (k=ky q):=by rw [List.any_map]; rfl
 rw [e,show kvs.map (·.1)=ps.map ky from h,Bool.eq_iff_iff,List.any_eq_true,decide_eq_true_eq];constructor
 ·rintro ⟨k,hk,z⟩;obtain ⟨p,hp,rfl⟩:=List.mem_map.mp hk;exact jL (of_decide_eq_true z) ▸ hp
 ·intro hq;exact ⟨ky q,List.mem_map.mpr ⟨q,hq,rfl⟩,aT rfl⟩
theorem cF.put {kvs:List (List Key×V)} {ps:List (Int×Int)} {q:Int×Int} {v:V} (h:cF kvs ps) (hq:q∉ps):cF (b9 kvs (ky q) v) (ps++[q]):=by
 have hn:bp kvs (ky q)=none:=by
  have:=h.val q
  rw [bA hq] at this
  cases e:bp kvs (ky q) with
  | none => rfl
  | some z => rw [e] at this; cases this
 rw [hW v hn];unfold cF;rw [List.map_append,List.map_append,show kvs.map (·.1)=ps.map ky from h];rfl
section
variable {P:Program} {w:World} {K:W.Frag} {mg:Str→Option Value} {base:Heap} {t:Ad}
noncomputable abbrev Sm1:=Bool×List (Int×Int)
noncomputable def SeV (H:Hp) (lf:Addr) (v:V) (e:Sm1):Prop:=∃ T l ys,v=.ref T∧l≠lf∧H T=some (.tup [.bl e.1,.ref l])∧H l=some (.lst ys)∧aP H ys e.2
theorem SeV.mono {H H':Hp} {lf:Addr} {v:V} {e:Sm1} (s:ah H H') (h:SeV H lf v e):SeV H' lf v e:=by
 obtain ⟨T,l,ys,h1,h2,h3,h4,h5⟩:=h;exact ⟨T,l,ys,h1,h2,s _ _ h3,s _ _ h4,h5.mono s⟩
theorem SeV.lst {H:Hp} {lf:Addr} {v:V} {e:Sm1} {us:List V} {o:HO} (h:SeV H lf v e) (q:H lf=some (.lst us)):SeV (upd H lf o) lf v e:=by
 obtain ⟨T,l,ys,h1,h2,h3,h4,h5⟩:=h;exact ⟨T,l,ys,h1,h2,by rw [aj (cm h3 q (by intro z; cases z))]; exact h3,by rw [aj h2]; exact h4,h5.upd q (by intro ys z; cases z)⟩
theorem SeV.dct {H:Hp} {lf d:Addr} {v:V} {e:Sm1} {us:List (List Key×V)} {o:HO} (h:SeV H lf v e) (q:H d=some (.dT us)):SeV (upd H d o) lf v e:=by
 obtain ⟨T,l,ys,h1,h2,h3,h4,h5⟩:=h;exact ⟨T,l,ys,h1,h2,by rw [aj (cm h3 q (by intro z; cases z))]; exact h3,by rw [aj (cm h4 q (by intro z; cases z))]; exact h4,h5.upd q (by intro ys z; cases z)⟩
noncomputable def PwS (H:Hp) (lf:Addr) (xs:List V) (L:List Sm1):Prop:=xs.length=L.length∧∀ (i:Nat) v e,xs[i]?=some v→L[i]?=some e→SeV H lf v e
theorem PwS.nil {H:Hp} {lf:Addr}:PwS H lf [] []:=⟨rfl,fun i v e h=>by simp at h⟩
theorem PwS.mono {H H':Hp} {lf:Addr} {xs:List V} {L:List Sm1} (s:ah H H') (h:PwS H lf xs L):PwS H' lf xs L:=⟨h.1,fun i v e a b=>(h.2 i v e a b).mono s⟩
theorem PwS.lst {H:Hp} {lf:Addr} {xs us:List V} {L:List Sm1} {o:HO} (h:PwS H lf xs L) (q:H lf=some (.lst us)):PwS (upd H lf o) lf xs L:=⟨h.1,fun i v e a b=>(h.2 i v e a b).lst q⟩
theorem PwS.dct {H:Hp} {lf d:Addr} {xs:List V} {L:List Sm1} {us:List (List Key×V)} {o:HO} (h:PwS H lf xs L) (q:H d=some (.dT us)):PwS (upd H d o) lf xs L:=⟨h.1,fun i v e a b=>(h.2 i v e a b).dct q⟩
theorem PwS.snoc {H:Hp} {lf:Addr} {xs:List V} {L:List Sm1} {v:V} {e:Sm1} (h:PwS H lf xs L) (hv:SeV H lf v e):PwS H lf (xs++[v]) (L++[e]):=by
 refine ⟨by rw [List.length_append,List.length_append,h.1]; rfl,fun i v' q' h1 h2=>?_⟩;by_cases hi:i<xs.length
 ·rw [List.getElem?_append_left hi] at h1;rw [List.getElem?_append_left (by rw [← h.1]; exact hi)] at h2;exact h.2 i v' q' h1 h2
 ·rw [List.getElem?_append_right (by omega)] at h1;rw [List.getElem?_append_right (by rw [← h.1]; omega),← h.1] at h2
  cases hk:i - xs.length with
  | zero =>
   rw [hk] at h1 h2;simp only [List.getElem?_cons_zero,Option.some.injEq] at h1 h2;rw [← h1,← h2]; exact hv
  | succ k => rw [hk] at h1; simp at h1
noncomputable def fI (H:Hp):V→Sm1
 | .ref T=>match H T with
  | some (.tup [.bl f, .ref l]) => match H l with
   | some (.lst ys)=>(f,ys.map (hG H))
   | _=>(false,[])
  | _ => (false, [])
 | _=>(false,[])
theorem SeV.of {H:Hp} {lf:Addr} {v:V} {e:Sm1} (h:SeV H lf v e):fI H v=e:=by
 obtain ⟨T,l,ys,rfl,_,h3,h4,h5⟩:=h;simp only [fI,h3,h4,h5.map]
theorem PwS.map {H:Hp} {lf:Addr} {xs:List V} {L:List Sm1} (h:PwS H lf xs L):xs.map (fI H)=L:=by
 refine List.ext_getElem? fun i=>?_;rw [List.getElem?_map];by_cases hi:i<xs.length
 ·have hi':i<L.length:=by rw [← h.1]; exact hi
  rw [List.getElem?_eq_getElem hi,List.getElem?_eq_getElem hi',Option.map_some,(h.2 i _ _ (List.getElem?_eq_getElem hi) (List.getElem?_eq_getElem hi')).of]
 ·rw [List.getElem?_eq_none (by omega),List.getElem?_eq_none (by rw [← h.1]; omega)]; rfl
theorem PwS.mem {H:Hp} {lf:Addr} {xs:List V} {L:List Sm1} (h:PwS H lf xs L):∀ v∈xs,SeV H lf v (fI H v)∧fI H v∈L:=by
 intro v hv;obtain ⟨i,hi⟩:=List.mem_iff_getElem?.mp hv;have hl:i<L.length:=by rw [← h.1]; exact (List.getElem?_eq_some_iff.mp hi).1
 have:=h.2 i v _ hi (List.getElem?_eq_getElem hl)
 rw [this.of];exact ⟨this,List.getElem_mem hl⟩
theorem vc {H:Hp} {lf:Addr}:∀ {xs:List V},(∀ v∈xs,SeV H lf v (fI H v))→PwS H lf xs (xs.map (fI H))
 | [],_=>PwS.nil
 | v::xs,h=>by
  have ih:=vc (xs:=xs) fun v hv=>h v (List.mem_cons_of_mem _ hv);refine ⟨by rw [List.length_map],fun i v' e h1 h2=>?_⟩
  cases i with
  | zero => simp only [List.getElem?_cons_zero, List.map_cons, Option.some.injEq] at h1 h2; rw [← h1, ← h2]; exact h v List.mem_cons_self
  | succ i => simp only [List.getElem?_cons_succ, List.map_cons] at h1 h2; exact ih.2 i v' e h1 h2
noncomputable def hd (e:Sm1):Int×Int:=e.2.headD (0,0)
noncomputable def bP (L:List Sm1):List (Int×Int):=L.flatMap (·.2)
theorem cY (L:List Sm1) (e:Sm1):bP (L++[e])=bP L++e.2:=by
 unfold bP;rw [List.flatMap_append];simp
theorem df {L:List Sm1} {q:Int×Int}:q∈bP L↔∃ e∈L,q∈e.2:=List.mem_flatMap
structure dJ (cs rs:List Int) (L:List Sm1):Prop where
 told:∀ e∈L,Sm.cy (nb cs rs) e.1 e.2
 nd:(bP L).Nodup
theorem dJ.in_ {cs rs:List Int} {L:List Sm1} (h:dJ cs rs L):∀ q∈bP L,cz cs rs q:=fun q hq=>by
 obtain ⟨e,he,hq⟩:=df.mp hq;exact j8 (h.told e he) q hq
theorem dJ.add {cs rs:List Int} {L:List Sm1} (h:dJ cs rs L) {e:Sm1} {q:Int×Int} (he:Sm.cy (nb cs rs) e.1 e.2) (hq:q∈e.2) (hn:q∉bP L):dJ cs rs (L++[e]):=by
 refine ⟨fun e' he'=>?_,?_⟩
 ·rcases List.mem_append.mp he' with z | z
  ·exact h.told e' z
  ·rw [List.mem_singleton.mp z]; exact he
 ·rw [cY,List.nodup_append];obtain ⟨_,_,_,_,_,_,nd⟩:=he.path;refine ⟨h.nd,nd,fun a ha b hb z=>?_⟩;subst z;obtain ⟨e',he',ha⟩:=df.mp ha;have:=((h.told e' he').uniq (cC cs rs) he ha hb).2
  exact hn (df.mpr ⟨e',he',by rw [this]; exact hq⟩)
theorem dJ.few {cs rs:List Int} (lc:cs.length≤39) (lr:rs.length≤39) {L:List Sm1} (h:dJ cs rs L):(bP L).length≤1681∧L.length≤1681:=by
 have h1:=qU lc lr h.nd h.in_;refine ⟨h1,?_⟩;have:∀ (M:List Sm1),(∀ e∈M,Sm.cy (nb cs rs) e.1 e.2)→M.length≤(bP M).length:=by
  intro M
  induction M with
  | nil => intro _; exact Nat.zero_le _
  | cons e M ih =>
   intro hM;have:=ih fun e' he'=>hM e' (List.mem_cons_of_mem _ he')
   obtain ⟨a,b,l,ee,_⟩:=(hM e List.mem_cons_self).path;unfold bP at this ⊢;rw [List.flatMap_cons,List.length_append,ee,List.length_cons,List.length_cons,List.length_cons];omega
 exact Nat.le_trans (this L h.told) h1
theorem kN {L L':List Sm1} (h:L'.Perm L):(bP L').Perm (bP L):=h.flatMap_right _
theorem dJ.perm {cs rs:List Int} {L L':List Sm1} (h:dJ cs rs L) (p:L'.Perm L):dJ cs rs L':=⟨fun e he=>h.told e (p.mem_iff.mp he),(kN p).nodup_iff.mpr h.nd⟩
structure dF (cs rs:List Int) (L:List Sm1):Prop where
 some:dJ cs rs L
 cov:∀ q,cz cs rs q→nb cs rs q≠[]→q∈bP L
 srt:L.Pairwise fun a b=>Ts.ple (hd a) (hd b)
structure rK (H:Hp) (lf ds:Addr) (L:List Sm1):Prop where
 lst:∃ xs,H lf=some (.lst xs)∧PwS H lf xs L
 dct:∃ kvs,H ds=some (.dT kvs)∧cF kvs (bP L)
theorem rK.mono {H H':Hp} {lf ds:Addr} {L:List Sm1} (s:ah H H') (h:rK H lf ds L):rK H' lf ds L :=
 ⟨let ⟨xs,h1,h2⟩:=h.lst; ⟨xs,s _ _ h1,h2.mono s⟩,let ⟨kvs,h1,h2⟩:=h.dct; ⟨kvs,s _ _ h1,h2⟩⟩
noncomputable def sp_al:Sp:=fun vs H Q _=>∃ (T l:Addr) (f:Bool) (v:V) (ys:List V),vs=[.ref T]∧H T=some (.tup [.bl f,.ref l])∧H l=some (.lst (v::ys))∧Q v H
theorem ok_al (T:Txt K mg t):a7 P w K mg base CX0 1 t.f_al t.d_al ["told"] sp_al:=by
 refine T.F_al.ok sc_al (fun vs H Q E h=>?_) (fun cdv A outer s H vs Q E hr h=>?_)
 ·obtain ⟨T,l,f,v,ys,rfl,_⟩:=h; rfl
 ·obtain ⟨T,l,f,v,ys,rfl,h1,h2,q⟩:=h;refine ⟨_,(ai (aG (au (aA K rfl) (au (aD K rfl) (pv 0) af) af))),?_⟩;apply aN (SqT.of h1) (v:=.ref l) rfl ?_;apply aR (SqL.of h2) (dj (j:=0) rfl) ?_;exact q
noncomputable def sp_aB (C:Addr):Sp:=fun vs H Q _=>∃ (p:Addr) (s:Int) (cs rs:List Int),vs=[.ref p]∧aK C H p s cs rs∧cs.length≤39∧rs.length≤39 ∧
 ∀ l ys L H',ah H H'→H l=none→H' l=some (.lst ys)→dF cs rs L→PwS H' l ys L→Q (.ref l) H'
theorem ok_aB (T:Txt K mg t):a7 P w K mg base CX0 10 t.f_aB t.d_aB ["cloth"] (sp_aB t.a_ab):=by
  refine T.F_aB.ok sc_aB (fun vs H Q E h=>?_) (fun cdv A outer s H vs Q E hr h=>?_)
  · obtain ⟨p,s,cs,rs,rfl,_⟩:=h; rfl
  · obtain ⟨p,s,cs,rs,rfl,hc,lc,lr,k⟩:=h
    obtain ⟨dx,a1,b1,g1,g2,g3⟩:=hc.ob;have nl:∀ {w h:Int} {m:Str},NoF m→(cfl s a1 b1 w h).lookup m=none:=fun x=>dZ _ _ _ x;refine aI (aM 1 sc_aB.nd (cZ ae)) fun _ _=>aI (aM 2 sc_aB.nd jP) fun _ _=>aI (c6 PassesOwn.never rfl (dk rfl T.no_ax (aa (ar aY (bz (pv 0) T.cl_ab T.m_ae (ok_ae T) (rmo hr) T.b_ae .nil aJ) af) ae)) (aW (i:=3) sc_aB.nd rfl (Or.inl rfl)) (ai (c6 PassesOwn.never rfl (dk rfl T.no_ax (aa (ar aY (bz (pv 0) T.cl_ab T.m_ad (ok_ad T) (rmo hr) T.b_ad .nil aJ) af) ae)) (aW (i:=4) sc_aB.nd rfl (Or.inl rfl)) (aO (aM 5 sc_aB.nd (oq (mq (Ai (fm hr) (bB (aa (pv 3) (aa (pv 4) ae))) (pv 2))) gu (aq (ok_aM T) (rmo hr) rfl T.mg_aM T.F_aM.kp T.b_aM .nil aJ (aa (pv 0) (aa (bB (aa (pv 3) (aa (pv 4) ae))) ae))))) (ai (bo (bQ ml (pv 5) gu) (aO (bf (cT PySem.F.plainAttrs_list PySem.F.slot_list_append PySem.F.type_list_append aV (pv 1) (aa (pv 5) ae))) (ai (c6 PassesOwn.never rfl (dR (au (aD K rfl) (pv 5) af)) (aW (i:=6) sc_aB.nd rfl (Or.inl rfl)) (ai (jh (fm hr) (pv 2) (pv 6) gj rfl))))) aE)))))) fun _ _=>dr (aG (uW K rfl (ok_al T) (rmo hr) rfl T.no_sorted rfl T.mg_al T.b_al (pv 1))) fun _ _=>?_;apply ⟨Nat.zero_le _,fun lf nf=>?_⟩;have s1:=ah.new (o:=HO.lst []) nf;have e1:=ag (H:=H) (a:=lf) (o:=HO.lst []);generalize upd H lf (HO.lst [])=H1 at s1 e1 ⊢;apply fun ds nd=>?_;have s2:=s1.trans (ah.new (o:=HO.dT []) nd);have nds:H ds=none:=s1.free nd;have ga:rK (upd H1 ds (.dT [])) lf ds []:=⟨⟨[],ah.new nd _ _ e1,PwS.nil⟩,⟨[],ag,rfl⟩⟩
    generalize upd H1 ds (HO.dT [])=H2 at s2 ga ⊢;apply aF (s2 _ _ g1) (nl (by decide +kernel)) ?_;apply ⟨p,s,cs,rs,rfl,hc.mono s2,?_⟩;apply ⟨_,rfl,by omega,by omega,?_⟩;rw [show ((cs.length:Int)+1+1).toNat=cs.length+2 by omega];refine cN (fun x σ' H'=>∃ (L:List Sm1) (o3 o4 o5 o6:Option V),σ'=[some (.ref p),some (.ref lf),some (.ref ds),o3,o4,o5,o6]∧ah H H'∧rK H' lf ds L∧dJ cs rs L∧∀ q,cz cs rs q→nb cs rs q≠[]→q.1<(x:Nat)→q∈bP L)
      ⟨[],none,none,none,none,rfl,s2,ga,⟨(fun e he=>nomatch he),List.nodup_nil⟩,fun q hq _ h=>by have:=hq.1.1; omega⟩ ?_ ?_
    · rintro x σ' H3 hx ⟨L,o3,o4,o5,o6,rfl,s3,ga3,so3,cov3⟩
      rw [Int.zero_add];apply aF (s3 _ _ g1) (nl (by decide +kernel)) ?_;apply ⟨p,s,cs,rs,rfl,hc.mono s3,?_⟩;apply ⟨_,rfl,by omega,by omega,?_⟩;rw [show ((rs.length:Int)+1+1).toNat=rs.length+2 by omega];refine cN (fun y σ' H'=>∃ (L:List Sm1) (o4 o5 o6:Option V),σ'=[some (.ref p),some (.ref lf),some (.ref ds),some (.int (x:Nat)),o4,o5,o6]∧ah H H'∧rK H' lf ds L∧dJ cs rs L∧∀ q,cz cs rs q→nb cs rs q≠[]→(q.1<(x:Nat)∨(q.1=(x:Nat)∧q.2<(y:Nat)))→q∈bP L)
        ⟨L,o4,o5,o6,rfl,s3,ga3,so3,fun q hq hn h=>cov3 q hq hn (by have:=hq.2.1; omega)⟩ ?_ ?_
      · rintro y σ' H4 hy ⟨L,o4,o5,o6,rfl,s4,ga4,so4,cov4⟩
        rw [Int.zero_add];have hin:cz cs rs (((x:Nat):Int),((y:Nat):Int)):=⟨⟨by dsimp only; omega,by dsimp only; omega⟩,by dsimp only; omega,by dsimp only; omega⟩
        have nxt:∀ L',(∀ q∈bP L,q∈bP L')→(nb cs rs (((x:Nat):Int),((y:Nat):Int))≠[]→(((x:Nat):Int),((y:Nat):Int))∈bP L') →
            ∀ q,cz cs rs q→nb cs rs q≠[]→(q.1<(x:Nat)∨(q.1=(x:Nat)∧q.2<((y+1:Nat):Int)))→q∈bP L':=fun L' sub hp q hq hn h=>by
          by_cases hh:q.1<(x:Nat)∨(q.1=(x:Nat)∧q.2<(y:Nat))
          · exact sub q (cov4 q hq hn hh)
          · have:q=(((x:Nat):Int),((y:Nat):Int)):=Prod.ext (by show q.1=_; omega) (by show q.2=_; omega)
            rw [this] at hn ⊢; exact hp hn
        generalize ((y:Nat):Int)=yy at hin nxt ⊢;clear cov4;apply ⟨by show 2≤sizeLine; decide,fun a na=>?_⟩;have s5:=ah.new (o:=HO.tup [V.int (x:Nat),V.int yy]) na;have ea:=ag (H:=H4) (a:=a) (o:=HO.tup [V.int (x:Nat),V.int yy]);generalize upd H4 a (HO.tup [V.int (x:Nat),V.int yy])=H5 at s5 ea ⊢;have ga5:=ga4.mono s5;have s5:=s4.trans s5;obtain ⟨kvs,ed,ke⟩:=ga5.dct;apply ⟨ds,_,rfl,dG.t (k:=ky (((x:Nat):Int),yy)) ed ea,?_⟩;rw [ke.val];by_cases hm:(((x:Nat):Int),yy)∈bP L
        · rw [aT hm]
          apply ⟨rfl,?_⟩;rw [show (!decide (V.non=V.non))=false by simp];left;exact ⟨L,_,_,_,rfl,s5,ga5,so4,nxt L (fun q hq=>hq) fun _=>hm⟩
        · rw [bA hm]
          apply ⟨by show 2≤sizeLine; decide,fun b nb=>?_⟩;have s6:=ah.new (o:=HO.tup [V.int (x:Nat),V.int yy]) nb;have eb:=ag (H:=H5) (a:=b) (o:=HO.tup [V.int (x:Nat),V.int yy]);generalize upd H5 b (HO.tup [V.int (x:Nat),V.int yy])=H6 at s6 eb ⊢;have ga6:=ga5.mono s6;have s6:=s5.trans s6;clear ed ke kvs ga5 ga4;apply ⟨p,b,(((x:Nat):Int),yy),s,cs,rs,rfl,hc.mono s6,lc,lr,eb,hin,fun hz H7 s7=>?_,fun hz T l f zs M H7 s7 nT nl eT el td hq px=>?_⟩
          · apply ⟨rfl,?_⟩;rw [show (!decide (V.non=V.non))=false by simp];left;exact ⟨L,_,_,_,rfl,s6.trans s7,ga6.mono s7,so4,nxt L (fun q hq=>hq) fun h=>absurd hz h⟩
          · have ga7:=ga6.mono s7
            obtain ⟨ys,ef,pr⟩:=ga7.lst
            have nlf:l≠lf:=by
              intro z;obtain ⟨ys',ef',_⟩:=ga6.lst;rw [z,ef'] at nl; cases nl
            have s7:=s6.trans s7;have so7:=so4.add (e:=(f,M)) td hq hm;have hsub:∀ q∈bP L,q∈bP (L++[(f,M)]):=fun q hq=>by rw [cY]; exact List.mem_append_left _ hq
            have hme:(((x:Nat):Int),yy)∈bP (L++[(f,M)]):=by rw [cY]; exact List.mem_append_right _ hq
            apply ⟨rfl,?_⟩;rw [show (!decide (V.ref T=V.non))=true by simp];apply bY ef ?_;left;have ly:ys.length≤1681:=by rw [pr.1]; exact (so4.few lc lr).2
            refine aX ef (aZ (by omega)) ?_;have pr8:=(pr.lst (o:=.lst (ys++[V.ref T])) ef).snoc (e:=(f,M)) (SeV.lst (o:=.lst (ys++[V.ref T])) ⟨T,l,zs,rfl,nlf,eT,el,px⟩ ef);have ef8:=ag (H:=H7) (a:=lf) (o:=.lst (ys++[V.ref T]));obtain ⟨kvs,ed,ke⟩:=ga7.dct;have ed8:upd H7 lf (.lst (ys++[V.ref T])) ds=some (.dT kvs):=(aj (cm ed ef (by intro z; cases z))).trans ed;have s8:=s7.later (o:=.lst (ys++[V.ref T])) nf;have el8:upd H7 lf (.lst (ys++[V.ref T])) l=some (.lst zs):=(aj nlf).trans el;have px8:=px.upd (o:=.lst (ys++[V.ref T])) ef (by intro ys z; cases z);have eT8:upd H7 lf (.lst (ys++[V.ref T])) T=_:=(aj (cm eT ef (by intro z; cases z))).trans eT;generalize upd H7 lf (.lst (ys++[V.ref T]))=H8 at pr8 ef8 ed8 s8 el8 px8 eT8 ⊢;clear ga7 ga6 ef ed el pr s7 s6 eT ea eb px;apply aN (SqT.of eT8) (v:=.ref l) rfl ?_;apply ⟨⟨_,SqL.of el8⟩,?_⟩;have nd8:(bP L++M).Nodup:=by have:=so7.nd; rwa [cY] at this
            have fw:=(so7.few lc lr).1;rw [cY,List.length_append] at fw;dsimp only at fw;refine fQ (K:=K) (a:=l) (xs:=zs) (fun i σ' H'=>∃ (o6:Option V) (kvs:List (List Key×V)),σ'=[some (.ref p),some (.ref lf),some (.ref ds),some (.int (x:Nat)),some (.int yy),some (.ref T),o6]∧ah H H'∧H' lf=some (.lst (ys++[V.ref T]))∧PwS H' lf (ys++[V.ref T]) (L++[(f,M)]) ∧
                H' l=some (.lst zs)∧aP H' zs M∧H' ds=some (.dT kvs)∧cF kvs (bP L++M.take i))
              ⟨_,kvs,rfl,s8,ef8,pr8,el8,px8,ed8,by rw [List.take_zero,List.append_nil]; exact ke⟩ (fun i σ' H' _ ⟨_,_,_,_,_,_,z,_⟩=>SqL.of z) ?_ ?_
            · rintro i v σ' H9 hv ⟨o6,kvs,rfl,s9,ef9,pr9,el9,px9,ed9,ke9⟩
              have hi:i<zs.length:=(List.getElem?_eq_some_iff.mp hv).1;have hi':i<M.length:=by rw [← px9.1]; exact hi
              obtain ⟨q,hq⟩:∃ q,M[i]?=some q:=⟨_,List.getElem?_eq_getElem hi'⟩
              obtain ⟨c,rfl,hc⟩:=px9.2 i v q hv hq;have ht:M.take (i+1)=M.take i++[q]:=by rw [List.take_add_one,hq]; rfl
              have nq:q∉bP L++M.take i:=by
                have h1:(bP L++M.take (i+1)).Nodup:=by
                  rw [List.nodup_append] at nd8 ⊢;refine ⟨nd8.1,nd8.2.1.sublist (List.take_sublist _ _),fun a ha b hb=>nd8.2.2 a ha b (List.mem_of_mem_take hb)⟩
                rw [ht,← List.append_assoc,List.nodup_append] at h1;exact fun z=>h1.2.2 q z q (by simp) rfl
              apply ⟨ds,_,rfl,jr.t (k:=ky q) ed9 hc ?_,?_⟩
              · have:=ke9.len
                rw [List.length_append,List.length_take] at this;exact aZ (by omega)
              have ke10:=ke9.put (v:=.bl true) nq;rw [List.append_assoc,← ht] at ke10;exact ⟨_,_,rfl,s9.later (o:=.dT _) nds,(aj (cm ef9 ed9 (by intro z; cases z))).trans ef9,pr9.dct ed9,(aj (cm el9 ed9 (by intro z; cases z))).trans el9,px9.upd ed9 (by intro ys z; cases z),ag,ke10⟩
            · rintro σ' H9 ⟨o6,kvs,rfl,s9,ef9,pr9,el9,px9,ed9,ke9⟩
              rw [List.take_of_length_le (by rw [px9.1]; exact Nat.le_refl _)] at ke9;exact ⟨L++[(f,M)],_,_,_,rfl,s9,⟨⟨_,ef9,pr9⟩,⟨kvs,ed9,by rw [cY]; exact ke9⟩⟩,so7,nxt _ hsub fun _=>hme⟩
      · rintro σ' H4 ⟨L,o4,o5,o6,rfl,s4,ga4,so4,cov4⟩
        refine ⟨L,_,_,_,_,rfl,s4,ga4,so4,fun q hq hn h=>cov4 q hq hn ?_⟩;have h2:=hq.2.2;by_cases hh:q.1<(x:Nat)
        · exact .inl hh
        · exact .inr ⟨by omega,by omega⟩
    · rintro σ' H3 ⟨L,o3,o4,o5,o6,rfl,s3,ga3,so3,cov3⟩
      obtain ⟨xs,ef,px⟩:=ga3.lst;apply sS ?_;left;have px':=px.mem;have hh:∀ v∈xs,∃ (T l b:Addr) (ys:List V),v=.ref T∧H3 T=some (.tup [.bl (fI H3 v).1,.ref l])∧H3 l=some (.lst (.ref b::ys))∧H3 b=some (.tup [.int (hd (fI H3 v)).1,.int (hd (fI H3 v)).2]):=fun v hv=>by
        obtain ⟨⟨T,l,ys,h1,_,h3,h4,h5⟩,h6⟩:=px' v hv;obtain ⟨a,b,m,ee,_⟩:=(so3.told _ h6).path;rw [ee] at h5;obtain ⟨v',r,e,hv',_⟩:=h5.inv;obtain ⟨c,rfl,hc⟩:=hv';refine ⟨T,l,c,r,h1,h3,by rw [← e]; exact h4,?_⟩;unfold hd; rw [ee]; exact hc
      refine ⟨lf,xs,fun v=>hd (fI H3 v),rfl,SqL.of ef,fun v hv=>?_,fun v hv H4 Q1 s4 k1=>?_,fun l ys H4 s4 nl el pm pw=>?_⟩
      · obtain ⟨T,_,_,_,e,_⟩:=hh v hv
        exact ⟨T,e⟩
      · obtain ⟨T,l,b,ys,e,h1,h2,h3⟩:=hh v hv
        exact ⟨T,l,_,_,ys,by rw [e],s4 _ _ h1,s4 _ _ h2,k1 _ _ (ah.refl _) ⟨b,rfl,s4 _ _ h3⟩⟩
      · left
        have hm:∀ v∈ys,SeV H4 l v (fI H3 v):=fun v hv=>by
          obtain ⟨⟨T,l',ys',h1,h2,h3,h4,h5⟩,_⟩:=px' v (pm.mem_iff.mp hv);refine ⟨T,l',ys',h1,?_,s4 _ _ h3,s4 _ _ h4,h5.mono s4⟩;intro z; rw [z,nl] at h4; cases h4
        have pws:PwS H4 l ys (ys.map (fI H3)):=by
          have e:ys.map (fI H3)=ys.map (fI H4):=List.map_congr_left fun v hv=>(hm v hv).of.symm;rw [e];exact vc fun v hv=>by rw [(hm v hv).of]; exact hm v hv
        have pL:(ys.map (fI H3)).Perm L:=by
          have:=pm.map (fI H3)
          rwa [px.map] at this
        refine k l ys _ H4 (s3.trans s4) (s3.free nl) el ⟨so3.perm pL,fun q hq hn=>?_,?_⟩ pws
        · exact (kN pL).mem_iff.mpr (cov3 q hq hn (by have:=hq.1.2; omega))
        · rw [List.pairwise_map]
          exact pw
noncomputable def bL (cs:List Int) (x y:Int):Bool:=decide (0<x)&&!decide ((y+cs.getD (x - 1).toNat 0)%2=1)
noncomputable def bD (rs:List Int) (x y:Int):Bool:=decide (0<y)&&!decide ((x+rs.getD (y - 1).toNat 0)%2=1)
noncomputable def bU (rs:List Int) (x y:Int):Bool:=decide (y+1<(rs.length:Int)+1)&&!decide ((x+rs.getD (y).toNat 0)%2=1)
noncomputable def bR (cs:List Int) (x y:Int):Bool:=decide (x+1<(cs.length:Int)+1)&&!decide ((y+cs.getD (x).toNat 0)%2=1)
noncomputable def bs (cs rs:List Int) (q:Int×Int):List (Int×Int):=[]++(if bL cs q.1 q.2=true then [(q.1 - 1,q.2)] else [])++(if bD rs q.1 q.2=true then [(q.1,q.2 - 1)] else [])++(if bU rs q.1 q.2=true then [(q.1,q.2+1)] else [])++(if bR cs q.1 q.2=true then [(q.1+1,q.2)] else [])
noncomputable def inC (cs rs:List Int) (q:Int×Int):Prop:=(0≤q.1∧q.1<(cs.length:Int)+1)∧0≤q.2∧q.2<(rs.length:Int)+1
theorem iD {cs rs:List Int} {q c:Int×Int}:c∈bs cs rs q↔(bL cs q.1 q.2=true∧c=(q.1 - 1,q.2))∨(bD rs q.1 q.2=true∧c=(q.1,q.2 - 1))∨(bU rs q.1 q.2=true∧c=(q.1,q.2+1))∨(bR cs q.1 q.2=true∧c=(q.1+1,q.2)):=by
 unfold bs;rw [List.nil_append,List.mem_append,List.mem_append,List.mem_append];have key:∀ (b:Bool) (u:Int×Int),c∈(if b=true then [u] else [])↔b=true∧c=u:=fun b u=>by cases b<;>simp
 rw [key,key,key,key,or_assoc,or_assoc]
theorem jx {cs:List Int} {x y:Int}:bL cs x y=true↔0<x∧¬ (y+cs.getD (x - 1).toNat 0)%2=1:=by unfold bL; rw [Bool.and_eq_true,decide_eq_true_eq,Bool.not_eq_true',decide_eq_false_iff_not]
theorem jw {rs:List Int} {x y:Int}:bD rs x y=true↔0<y∧¬ (x+rs.getD (y - 1).toNat 0)%2=1:=by unfold bD; rw [Bool.and_eq_true,decide_eq_true_eq,Bool.not_eq_true',decide_eq_false_iff_not]
theorem lO {rs:List Int} {x y:Int}:bU rs x y=true↔y+1<(rs.length:Int)+1∧¬ (x+rs.getD y.toNat 0)%2=1:=by unfold bU; rw [Bool.and_eq_true,decide_eq_true_eq,Bool.not_eq_true',decide_eq_false_iff_not]
theorem lN {cs:List Int} {x y:Int}:bR cs x y=true↔x+1<(cs.length:Int)+1∧¬ (y+cs.getD x.toNat 0)%2=1:=by unfold bR; rw [Bool.and_eq_true,decide_eq_true_eq,Bool.not_eq_true',decide_eq_false_iff_not]
theorem yD {cs rs:List Int} {q c:Int×Int} (h:inC cs rs q) (hc:c∈bs cs rs q):inC cs rs c:=by
 unfold inC at *;rcases iD.mp hc with ⟨z,rfl⟩ | ⟨z,rfl⟩ | ⟨z,rfl⟩ | ⟨z,rfl⟩<;>dsimp only
 ·have:=(jx.mp z).1; omega
 ·have:=(jw.mp z).1; omega
 ·have:=(lO.mp z).1; omega
 ·have:=(lN.mp z).1; omega
noncomputable def sp_aA (C:Addr):Sp:=fun vs H Q _=>∃ (p a:Addr) (q:Int×Int) (s:Int) (cs rs:List Int),vs=[.ref p,.ref a]∧aK C H p s cs rs∧H a=some (.tup [.int q.1,.int q.2])∧inC cs rs q ∧
 ∀ l xs H',ah H H'→H l=none→H' l=some (.lst xs)→aP H' xs (bs cs rs q)→Q (.ref l) H'
theorem ok_aA (T:Txt K mg t):a7 P w K mg base CX0 5 t.f_aA t.d_aA ["cloth","cell"] (sp_aA t.a_ab):=by
 refine T.F_aA.ok sc_aA (fun vs H Q E h=>?_) (fun cdv A outer s H vs Q E hr h=>?_)
 ·obtain ⟨p,a,q,s,cs,rs,rfl,_⟩:=h; rfl
 ·obtain ⟨p,a,⟨x,y⟩,s,cs,rs,rfl,hc,ha,hin,k⟩:=h;obtain ⟨⟨x0,x1⟩,y0,y1⟩:=id hin;dsimp only at ha x0 x1 y0 y1;obtain ⟨dx,a1,b1,e1,e2,e3⟩:=hc.ob;have nl:∀ {w h:Int} {m:Str},NoF m→(cfl s a1 b1 w h).lookup m=none:=fun x=>dZ _ _ _ x;refine aI (aM 2 sc_aA.nd (au (aD K rfl) (pv 1) af)) fun _ _=>aI (aM 3 sc_aA.nd (au (aD K rfl) (pv 1) af)) fun _ _=>aI (aM 4 sc_aA.nd (cZ ae)) fun _ _=>aI (cJ (bo (PW.pt (dB (bQ q8 (pv 2) af) (cU (cA (bE (cH (pv 0) T.cl_ab T.m_aa (ok_aa T) (rmo hr) T.b_aa .nil aJ (aa bZ (aa (ar cq (pv 2) af) (aa (pv 3) ae))))))))) (ai (bf (cT PySem.F.plainAttrs_list PySem.F.slot_list_append PySem.F.type_list_append aV (pv 4) (aa (bB (aa (ar cq (pv 2) af) (aa (pv 3) ae))) ae)))) aE)) fun _ _=>aI (cJ (bo (PW.pt (dB (bQ q8 (pv 3) af) (cU (cA (bE (cH (pv 0) T.cl_ab T.m_aa (ok_aa T) (rmo hr) T.b_aa .nil aJ (aa bZ (aa (ar cq (pv 3) af) (aa (pv 2) ae))))))))) (ai (bf (cT PySem.F.plainAttrs_list PySem.F.slot_list_append PySem.F.type_list_append aV (pv 4) (aa (bB (aa (pv 2) (aa (ar cq (pv 3) af) ae))) ae)))) aE)) fun _ _=>aI (cJ (bo (PW.pt (dB (bQ dz (ar aY (pv 3) af) (bz (pv 0) T.cl_ab T.m_ad (ok_ad T) (rmo hr) T.b_ad .nil aJ)) (cU (cA (bE (cH (pv 0) T.cl_ab T.m_aa (ok_aa T) (rmo hr) T.b_aa .nil aJ (aa bZ (aa (pv 3) (aa (pv 2) ae))))))))) (ai (bf (cT PySem.F.plainAttrs_list PySem.F.slot_list_append PySem.F.type_list_append aV (pv 4) (aa (bB (aa (pv 2) (aa (ar aY (pv 3) af) ae))) ae)))) aE)) fun _ _=>aI (cJ (bo (PW.pt (dB (bQ dz (ar aY (pv 2) af) (bz (pv 0) T.cl_ab T.m_ae (ok_ae T) (rmo hr) T.b_ae .nil aJ)) (cU (cA (bE (cH (pv 0) T.cl_ab T.m_aa (ok_aa T) (rmo hr) T.b_aa .nil aJ (aa bZ (aa (pv 2) (aa (pv 3) ae))))))))) (ai (bf (cT PySem.F.plainAttrs_list PySem.F.slot_list_append PySem.F.type_list_append aV (pv 4) (aa (bB (aa (ar aY (pv 2) af) (aa (pv 3) ae))) ae)))) aE)) fun _ _=>dr (aG (pv 4)) fun _ _=>?_;apply aN (SqT.of ha) (v:=.int x) rfl ?_;apply aN (SqT.of ha) (v:=.int y) rfl ?_;apply ⟨Nat.zero_le _,fun l n1=>?_⟩;have s1:=ah.new (o:=HO.lst []) n1;have f1:=ag (H:=H) (a:=l) (o:=HO.lst []);generalize upd H l (HO.lst [])=H1 at s1 f1 ⊢;obtain ⟨xs,f1,w1,lx⟩:∃ xs,H1 l=some (.lst xs)∧aP H1 xs []∧xs.length≤0:=⟨[],f1,aP.nil,Nat.le_refl 0⟩
  apply cK (fun σ' H'=>∃ xs,σ'=[some (.ref p),some (.ref a),some (.int x),some (.int y),some (.ref l)]∧ah H H'∧H' l=some (.lst xs)∧xs.length≤1∧aP H' xs ([]++(if bL cs x y=true then [(x - 1,y)] else []))) ?_ ?_
  ·have hg:bL cs x y=(decide (0<x)&&!decide ((y+cs.getD (x - 1).toNat 0)%2=1)):=rfl;left;by_cases c1:0<x
   ·rw [aT c1] at hg ⊢;apply aF (s1 _ _ e1) (nl (by decide +kernel)) ?_;apply ⟨p,"col",x - 1,y,s,cs,rs,cs,rs,rfl,hc.mono s1,.inl ⟨rfl,rfl⟩,.inl ⟨rfl,rfl⟩,by omega,by omega,by omega,by omega,?_⟩;rw [Bool.true_and] at hg;by_cases c2:(y+cs.getD (x - 1).toNat 0)%2=1
    ·rw [aT c2] at hg ⊢;left;exact ⟨_,rfl,s1,f1,by omega,by rw [if_neg (show ¬ bL cs x y=true by rw [hg]; decide),List.append_nil]; exact w1⟩
    ·rw [bA c2] at hg ⊢;apply bY f1 ?_;apply nwT fun b H2 sb nb eb=>?_;apply aX (sb _ _ f1) (aZ (by omega)) ?_;refine ⟨_,rfl,(s1.trans sb).later n1,ag,by rw [List.length_append,List.length_singleton]; omega,?_⟩;rw [if_pos (show bL cs x y=true by rw [hg]; rfl)];exact ((w1.mono sb).upd (sb _ _ f1) (by intro ys z; cases z)).snoc (Pt.upd (q:=(x - 1,y)) ⟨b,rfl,eb⟩ (sb _ _ f1) (by intro ys z; cases z))
   ·rw [bA c1] at hg ⊢;left;exact ⟨_,rfl,s1,f1,by omega,by rw [if_neg (show ¬ bL cs x y=true by rw [hg,Bool.false_and]; decide),List.append_nil]; exact w1⟩
  ·clear s1 f1 w1 lx;rintro σ' H1 ⟨xs,rfl,s1,f1,lx,w1⟩;apply cK (fun σ' H'=>∃ xs,σ'=[some (.ref p),some (.ref a),some (.int x),some (.int y),some (.ref l)]∧ah H H'∧H' l=some (.lst xs)∧xs.length≤2∧aP H' xs ([]++(if bL cs x y=true then [(x - 1,y)] else [])++(if bD rs x y=true then [(x,y - 1)] else []))) ?_ ?_
   ·have hg:bD rs x y=(decide (0<y)&&!decide ((x+rs.getD (y - 1).toNat 0)%2=1)):=rfl;left;by_cases c1:0<y
    ·rw [aT c1] at hg ⊢;apply aF (s1 _ _ e1) (nl (by decide +kernel)) ?_;apply ⟨p,"row",y - 1,x,s,cs,rs,rs,cs,rfl,hc.mono s1,.inr ⟨rfl,rfl⟩,.inr ⟨rfl,rfl⟩,by omega,by omega,by omega,by omega,?_⟩;rw [Bool.true_and] at hg;by_cases c2:(x+rs.getD (y - 1).toNat 0)%2=1
     ·rw [aT c2] at hg ⊢;left;exact ⟨_,rfl,s1,f1,by omega,by rw [if_neg (show ¬ bD rs x y=true by rw [hg]; decide),List.append_nil]; exact w1⟩
     ·rw [bA c2] at hg ⊢;apply bY f1 ?_;apply nwT fun b H2 sb nb eb=>?_;apply aX (sb _ _ f1) (aZ (by omega)) ?_;refine ⟨_,rfl,(s1.trans sb).later n1,ag,by rw [List.length_append,List.length_singleton]; omega,?_⟩;rw [if_pos (show bD rs x y=true by rw [hg]; rfl)];exact ((w1.mono sb).upd (sb _ _ f1) (by intro ys z; cases z)).snoc (Pt.upd (q:=(x,y - 1)) ⟨b,rfl,eb⟩ (sb _ _ f1) (by intro ys z; cases z))
    ·rw [bA c1] at hg ⊢;left;exact ⟨_,rfl,s1,f1,by omega,by rw [if_neg (show ¬ bD rs x y=true by rw [hg,Bool.false_and]; decide),List.append_nil]; exact w1⟩
   ·clear s1 f1 w1 lx;rintro σ' H1 ⟨xs,rfl,s1,f1,lx,w1⟩;apply cK (fun σ' H'=>∃ xs,σ'=[some (.ref p),some (.ref a),some (.int x),some (.int y),some (.ref l)]∧ah H H'∧H' l=some (.lst xs)∧xs.length≤3∧aP H' xs ([]++(if bL cs x y=true then [(x - 1,y)] else [])++(if bD rs x y=true then [(x,y - 1)] else [])++(if bU rs x y=true then [(x,y+1)] else []))) ?_ ?_
    ·have hg:bU rs x y=(decide (y+1<(rs.length:Int)+1)&&!decide ((x+rs.getD (y).toNat 0)%2=1)):=rfl;apply aF (s1 _ _ e1) (nl (by decide +kernel)) ?_;apply ⟨p,s,cs,rs,rfl,hc.mono s1,?_⟩;left;by_cases c1:y+1<(rs.length:Int)+1
     ·rw [aT c1] at hg ⊢;apply aF (s1 _ _ e1) (nl (by decide +kernel)) ?_;apply ⟨p,"row",y,x,s,cs,rs,rs,cs,rfl,hc.mono s1,.inr ⟨rfl,rfl⟩,.inr ⟨rfl,rfl⟩,by omega,by omega,by omega,by omega,?_⟩;rw [Bool.true_and] at hg;by_cases c2:(x+rs.getD (y).toNat 0)%2=1
      ·rw [aT c2] at hg ⊢;left;exact ⟨_,rfl,s1,f1,by omega,by rw [if_neg (show ¬ bU rs x y=true by rw [hg]; decide),List.append_nil]; exact w1⟩
      ·rw [bA c2] at hg ⊢;apply bY f1 ?_;apply nwT fun b H2 sb nb eb=>?_;apply aX (sb _ _ f1) (aZ (by omega)) ?_;refine ⟨_,rfl,(s1.trans sb).later n1,ag,by rw [List.length_append,List.length_singleton]; omega,?_⟩;rw [if_pos (show bU rs x y=true by rw [hg]; rfl)];exact ((w1.mono sb).upd (sb _ _ f1) (by intro ys z; cases z)).snoc (Pt.upd (q:=(x,y+1)) ⟨b,rfl,eb⟩ (sb _ _ f1) (by intro ys z; cases z))
     ·rw [bA c1] at hg ⊢;left;exact ⟨_,rfl,s1,f1,by omega,by rw [if_neg (show ¬ bU rs x y=true by rw [hg,Bool.false_and]; decide),List.append_nil]; exact w1⟩
    ·clear s1 f1 w1 lx;rintro σ' H1 ⟨xs,rfl,s1,f1,lx,w1⟩;apply cK (fun σ' H'=>∃ xs,σ'=[some (.ref p),some (.ref a),some (.int x),some (.int y),some (.ref l)]∧ah H H'∧H' l=some (.lst xs)∧xs.length≤4∧aP H' xs ([]++(if bL cs x y=true then [(x - 1,y)] else [])++(if bD rs x y=true then [(x,y - 1)] else [])++(if bU rs x y=true then [(x,y+1)] else [])++(if bR cs x y=true then [(x+1,y)] else []))) ?_ ?_
     ·have hg:bR cs x y=(decide (x+1<(cs.length:Int)+1)&&!decide ((y+cs.getD (x).toNat 0)%2=1)):=rfl;apply aF (s1 _ _ e1) (nl (by decide +kernel)) ?_;apply ⟨p,s,cs,rs,rfl,hc.mono s1,?_⟩;left;by_cases c1:x+1<(cs.length:Int)+1
      ·rw [aT c1] at hg ⊢;apply aF (s1 _ _ e1) (nl (by decide +kernel)) ?_;apply ⟨p,"col",x,y,s,cs,rs,cs,rs,rfl,hc.mono s1,.inl ⟨rfl,rfl⟩,.inl ⟨rfl,rfl⟩,by omega,by omega,by omega,by omega,?_⟩;rw [Bool.true_and] at hg;by_cases c2:(y+cs.getD (x).toNat 0)%2=1
       ·rw [aT c2] at hg ⊢;left;exact ⟨_,rfl,s1,f1,by omega,by rw [if_neg (show ¬ bR cs x y=true by rw [hg]; decide),List.append_nil]; exact w1⟩
       ·rw [bA c2] at hg ⊢;apply bY f1 ?_;apply nwT fun b H2 sb nb eb=>?_;apply aX (sb _ _ f1) (aZ (by omega)) ?_;refine ⟨_,rfl,(s1.trans sb).later n1,ag,by rw [List.length_append,List.length_singleton]; omega,?_⟩;rw [if_pos (show bR cs x y=true by rw [hg]; rfl)];exact ((w1.mono sb).upd (sb _ _ f1) (by intro ys z; cases z)).snoc (Pt.upd (q:=(x+1,y)) ⟨b,rfl,eb⟩ (sb _ _ f1) (by intro ys z; cases z))
      ·rw [bA c1] at hg ⊢;left;exact ⟨_,rfl,s1,f1,by omega,by rw [if_neg (show ¬ bR cs x y=true by rw [hg,Bool.false_and]; decide),List.append_nil]; exact w1⟩
     ·clear s1 f1 w1 lx;rintro σ' H1 ⟨xs,rfl,s1,f1,lx,w1⟩;left;exact k l xs H1 s1 n1 f1 w1
theorem ma {cs rs:List Int} (lc:cs.length≤39) (lr:rs.length≤39) {l:List (Int×Int)} (nd:l.Nodup) (h:∀ q∈l,inC cs rs q):l.length≤1600 :=
 Wn.nodup_few (n:=40) nd fun q hq=>by have:=h q hq; unfold inC at this; omega
theorem rJ {cs rs:List Int} {a c:Int×Int} {m:Nat} (h:inC cs rs a) (wk:Bf.Walk (bs cs rs) a c m):inC cs rs c:=by
 induction wk with
 | here=>exact h
 | on _ e ih=>exact yD ih e
theorem rq {cs rs:List Int} {g:Int×Int} {qs:List (Int×Int)} {ps ds:List Nat} {pl:Nat} {dn:List (Int×Int)} (hg:inC cs rs g) (h:Bf.St (bs cs rs) g qs ps ds pl dn):∀ q∈qs,inC cs rs q:=fun q hq=>by
 obtain ⟨j,hj⟩:=List.mem_iff_getElem?.mp hq;have lj:j<ds.length:=by rw [h.ld]; exact (List.getElem?_eq_some_iff.mp hj).1
 exact rJ hg (h.walk j q _ hj (List.getElem?_eq_getElem lj))
structure eE (H:Hp) (d:Addr) (qs:List (Int×Int)) (ps:List Nat):Prop where
 ob:∃ kvs:List (List Key×V),H d=some (.dT kvs)∧cF kvs qs∧∀ (j:Nat) k v,kvs[j]?=some (k,v)→(j=0∧v=.non)∨(0<j∧∃ b p c,ps[j]?=some p∧qs[p]?=some c∧v=.ref b∧H b=some (.tup [.int c.1,.int c.2]))
theorem eE.mono {H H':Hp} {d:Addr} {qs:List (Int×Int)} {ps:List Nat} (h:eE H d qs ps) (s:ah H H'):eE H' d qs ps:=by
 obtain ⟨kvs,h1,h2,h3⟩:=h.ob;refine ⟨kvs,s _ _ h1,h2,fun j k v e=>?_⟩;rcases h3 j k v e with z | ⟨z,b,p,c,q1,q2,q3,q4⟩
 ·exact .inl z
 ·exact .inr ⟨z,b,p,c,q1,q2,q3,s _ _ q4⟩
theorem eE.put {H:Hp} {d b:Addr} {qs:List (Int×Int)} {ps:List Nat} {kvs:List (List Key×V)} {c c0:Int×Int} {pl:Nat} (h:eE H d qs ps) (e:H d=some (.dT kvs)) (lp:ps.length=qs.length) (q0:0<qs.length) (hn:c∉qs) (hp:qs[pl]?=some c0) (hb:H b=some (.tup [.int c0.1,.int c0.2])):eE (L2.upd H d (.dT (b9 kvs (ky c) (.ref b)))) d (qs++[c]) (ps++[pl]):=by
 obtain ⟨kvs',h1,h2,h3⟩:=h.ob;rw [e] at h1
 cases h1
 have hv:bp kvs (ky c)=none:=by
  have:=h2.val c
  rw [bA hn] at this
  cases z:bp kvs (ky c) with
  | none => rfl
  | some y => rw [z] at this; cases this
 have tu:∀ {a:Addr} {xs:List V},H a=some (.tup xs)→L2.upd H d (.dT (b9 kvs (ky c) (.ref b))) a=some (.tup xs):=fun {a xs} ea=>(aj (cm ea e (by intro z; cases z))).trans ea;have lk:=h2.len;refine ⟨_,ag,h2.put hn,fun j k v ej=>?_⟩;rw [hW _ hv] at ej;rcases Bf.at_snoc ej with ⟨hj,ej⟩ | ⟨hj,ej⟩
 ·rcases h3 j k v ej with z | ⟨z,b',p,c',q1,q2,q3,q4⟩
  ·exact .inl z
  ·exact .inr ⟨z,b',p,c',Bf.at_app q1,Bf.at_app q2,q3,tu q4⟩
 ·cases ej;refine .inr ⟨by omega,b,pl,c0,?_,Bf.at_app hp,rfl,tu hb⟩;rw [hj,lk,← lp]; exact Bf.at_end
noncomputable def sp_aw (C:Addr):Sp:=fun vs H Q _=>∃ (p a:Addr) (g:Int×Int) (s:Int) (cs rs:List Int),vs=[.ref p,.ref a]∧aK C H p s cs rs∧cs.length≤39∧rs.length≤39∧H a=some (.tup [.int g.1,.int g.2])∧inC cs rs g ∧
 ∀ d qs ps ds H',ah H H'→H d=none→eE H' d qs ps→Bf.St (bs cs rs) g qs ps ds qs.length []→Q (.ref d) H'
theorem ok_aw (T:Txt K mg t):a7 P w K mg base CX0 6 t.f_aw t.d_aw ["cloth","goal"] (sp_aw t.a_ab):=by
  refine T.F_aw.ok sc_aw (fun vs H Q E h=>?_) (fun cdv A outer s H vs Q E hr h=>?_)
  · obtain ⟨p,a,g,s,cs,rs,rfl,_⟩:=h; rfl
  · obtain ⟨p,a,g,s,cs,rs,rfl,hc,lc,lr,ha,hin,k⟩:=h
    refine aI (aM 2 sc_aw.nd (uT (fm hr) (pv 1) gu)) fun _ _=>aI (aM 3 sc_aw.nd (cZ (aa (pv 1) ae))) fun _ _=>aI (aM 4 sc_aw.nd af) fun _ _=>aI (fu PassesOwn.never (bQ dz (pv 4) (ao (bW K rfl) rfl T.no_len (by rfl) (aa (pv 3) ae))) (aO (aM 5 sc_aw.nd (au (aA K rfl) (pv 3) (pv 4))) (aO (c6 PassesOwn.never rfl (dR (aq (ok_aA T) (rmo hr) rfl T.mg_aA T.F_aA.kp T.b_aA .nil aJ (aa (pv 0) (aa (pv 5) ae)))) (aW (i:=6) sc_aw.nd rfl (Or.inl rfl)) (ai (cJ (bo (mq (kY (fm hr) (pv 6) (pv 2))) (aO (jh (fm hr) (pv 2) (pv 6) (pv 5) rfl) (ai (bf (cT PySem.F.plainAttrs_list PySem.F.slot_list_append PySem.F.type_list_append aV (pv 3) (aa (pv 6) ae))))) aE)))) (ai (Ao (i:=4) sc_aw.nd rfl (Or.inl rfl) af zL))))) fun _ _=>dr (aG (pv 2)) fun _ _=>?_;left;intro d nd;apply ⟨a,ky g,.non,rfl,ah.new nd _ _ ha,ag,?_⟩;rw [rF];have s1:=ah.new (o:=HO.dT [(ky g,V.non)]) nd;have e1:=ag (H:=H) (a:=d) (o:=HO.dT [(ky g,V.non)]);generalize upd H d (HO.dT [(ky g,V.non)])=H1 at s1 e1 ⊢;apply nwL fun l H2 sl nl el=>?_;have dl:d≠l:=bM e1 nl;have nl:H l=none:=s1.free nl;apply ⟨fun m σ' H'=>∃ (i:Nat) (qs:List (Int×Int)) (ps ds:List Nat) (xs:List V) (o5 o6:Option V),m=1601 - i∧i≤qs.length∧σ'=[some (.ref p),some (.ref a),some (.ref d),some (.ref l),some (.int (i:Nat)),o5,o6]∧ah H H'∧H' l=some (.lst xs)∧aP H' xs qs∧eE H' d qs ps∧Bf.St (bs cs rs) g qs ps ds i [],
      ⟨_,0,[g],[0],[0],[V.ref a],none,none,rfl,Nat.zero_le _,rfl,s1.trans sl,el,aP.cons ⟨a,rfl,sl _ _ (s1 _ _ ha)⟩ aP.nil,⟨_,sl _ _ e1,rfl,fun j k v ej=>?_⟩,Bf.St.start⟩,?_⟩
    · cases j with
      | zero=>cases ej; exact .inl ⟨rfl,rfl⟩
      | succ j=>simp at ej
    rintro m σ' H3 ⟨i,qs,ps,ds,xs,o5,o6,rfl,hi,rfl,s3,e3,px,on3,st3⟩;have lq:=ma lc lr st3.nd (rq hin st3);apply bX e3 ?_;rw [px.1];apply iY (fun c=>?_) (fun c=>?_)
    · have hi:i<qs.length:=by have:=of_decide_eq_true c; omega
      refine ⟨fun σ' H'=>∃ (qs:List (Int×Int)) (ps ds:List Nat) (xs:List V) (o5 o6:Option V),i+1≤qs.length∧σ'=[some (.ref p),some (.ref a),some (.ref d),some (.ref l),some (.int ((i+1:Nat):Int)),o5,o6]∧ah H H'∧H' l=some (.lst xs)∧aP H' xs qs∧eE H' d qs ps∧Bf.St (bs cs rs) g qs ps ds (i+1) [],?_,?_⟩
      · rintro σ' H' ⟨qs',ps',ds',xs',o5,o6,hi',rfl,r⟩
        exact ⟨_,by omega,i+1,qs',ps',ds',xs',o5,o6,rfl,hi',rfl,r⟩
      · obtain ⟨c0,hc0⟩:∃ c0,qs[i]?=some c0:=⟨_,List.getElem?_eq_getElem hi⟩
        obtain ⟨d0,hd0⟩:∃ d0,ds[i]?=some d0:=⟨_,List.getElem?_eq_getElem (by rw [st3.ld]; exact hi)⟩
        have hx:i<xs.length:=by rw [px.1]; exact hi
        obtain ⟨b0,eb0,hb0⟩:=px.2 i _ c0 (List.getElem?_eq_getElem hx) hc0;have ic0:=rq hin st3 c0 (List.mem_of_getElem? hc0);apply aR (SqL.of e3) (v:=.ref b0) (dj (by rw [List.getElem?_eq_getElem hx,eb0])) ?_;apply ⟨p,b0,c0,s,cs,rs,rfl,hc.mono s3,hb0,ic0,fun ll ys H4 s4 nll e4 py=>?_⟩;have nll0:=s3.free nll;apply ⟨⟨_,SqL.of e4⟩,?_⟩
        have dll:ll≠d∧ll≠l:=by
          obtain ⟨kvs,z,_⟩:=on3.ob;exact ⟨fun q=>(by rw [q,z] at nll; cases nll),fun q=>(by rw [q,e3] at nll; cases nll)⟩
        refine fQ (K:=K) (a:=ll) (xs:=ys) (fun n σ' H'=>∃ (qs:List (Int×Int)) (ps ds:List Nat) (xs:List V) (o6:Option V),σ'=[some (.ref p),some (.ref a),some (.ref d),some (.ref l),some (.int (i:Nat)),some (.ref b0),o6]∧ah H H'∧H' ll=some (.lst ys)∧aP H' ys (bs cs rs c0)∧H' b0=some (.tup [.int c0.1,.int c0.2])∧H' l=some (.lst xs)∧aP H' xs qs∧eE H' d qs ps∧qs[i]?=some c0∧ds[i]?=some d0∧Bf.St (bs cs rs) g qs ps ds i ((bs cs rs c0).take n))
          ⟨qs,ps,ds,xs,o6,rfl,s3.trans s4,e4,py,s4 _ _ hb0,s4 _ _ e3,px.mono s4,on3.mono s4,hc0,hd0,by rw [List.take_zero]; exact st3⟩ (fun n σ' H' _ ⟨_,_,_,_,_,_,_,z,_⟩=>SqL.of z) ?_ ?_
        · rintro n v σ' H5 hv ⟨qs,ps,ds,xs,o6,rfl,s5,e5,py5,hb5,l5,px5,on5,hc5,hd5,st5⟩
          have hn:n<ys.length:=(List.getElem?_eq_some_iff.mp hv).1;have hn':n<(bs cs rs c0).length:=by rw [← py5.1]; exact hn
          obtain ⟨cc,hcc⟩:∃ cc,(bs cs rs c0)[n]?=some cc:=⟨_,List.getElem?_eq_getElem hn'⟩
          have tk:(bs cs rs c0).take (n+1)=(bs cs rs c0).take n++[cc]:=by rw [List.take_add_one,hcc]; rfl
          obtain ⟨bc,rfl,hbc⟩:=py5.2 n v cc hv hcc;have lq5:=ma lc lr st5.nd (rq hin st5);have q0:0<qs.length:=(List.getElem?_eq_some_iff.mp st5.hd).1;rw [tk];apply cK (fun σ' H'=>∃ (qs:List (Int×Int)) (ps ds:List Nat) (xs:List V),σ'=[some (.ref p),some (.ref a),some (.ref d),some (.ref l),some (.int (i:Nat)),some (.ref b0),some (.ref bc)]∧ah H H'∧H' ll=some (.lst ys)∧aP H' ys (bs cs rs c0)∧H' b0=some (.tup [.int c0.1,.int c0.2])∧H' l=some (.lst xs)∧aP H' xs qs∧eE H' d qs ps∧qs[i]?=some c0∧ds[i]?=some d0∧Bf.St (bs cs rs) g qs ps ds i ((bs cs rs c0).take n++[cc])) ?_ ?_
          · obtain ⟨kvs,ed,ke,kv⟩:=id on5.ob
            apply ⟨d,_,rfl,dG.t (k:=ky cc) ed hbc,?_⟩;rw [ke.val];by_cases hm:cc∈qs
            · rw [aT hm]
              left;exact ⟨qs,ps,ds,xs,rfl,s5,e5,py5,hb5,l5,px5,on5,hc5,hd5,st5.skip hm⟩
            · rw [bA hm]
              apply ⟨d,_,rfl,jr.t (k:=ky cc) ed hbc ?_,?_⟩
              · have:=ke.len
                exact aZ (by omega)
              have on6:=on5.put ed st5.lp q0 hm hc5 hb5;have tu:∀ {u:Addr} {zs:List V},H5 u=some (.tup zs)→upd H5 d (.dT (b9 kvs (ky cc) (.ref b0))) u=some (.tup zs):=fun {u zs} eu=>(aj (cm eu ed (by intro z; cases z))).trans eu;have lu:∀ {u:Addr} {zs:List V},H5 u=some (.lst zs)→upd H5 d (.dT (b9 kvs (ky cc) (.ref b0))) u=some (.lst zs):=fun {u zs} eu=>(aj (cm eu ed (by intro z; cases z))).trans eu;have s6:ah H (upd H5 d (.dT (b9 kvs (ky cc) (.ref b0)))):=s5.later nd;have px6:=px5.upd (o:=.dT (b9 kvs (ky cc) (.ref b0))) ed (by intro ys z; cases z);have py6:=py5.upd (o:=.dT (b9 kvs (ky cc) (.ref b0))) ed (by intro ys z; cases z);have hb6:=tu hb5;have hbc6:=tu hbc;have e6:=lu e5;have l6:=lu l5;generalize upd H5 d (.dT (b9 kvs (ky cc) (.ref b0)))=H6 at on6 s6 px6 py6 hb6 hbc6 e6 l6 ⊢;apply bY l6 ?_;apply aX l6 (by rw [px6.1]; exact aZ (by omega)) ?_;have nT:∀ ys,HO.tup ys≠HO.lst xs:=by intro ys z; cases z
              obtain ⟨kvs6,ed6,ke6,kv6⟩:=on6.ob;refine ⟨qs++[cc],ps++[i],ds++[d0+1],xs++[.ref bc],rfl,s6.later nl,by rw [aj dll.2]; exact e6,py6.upd l6 nT,(aj (cm hb6 l6 (nT _))).trans hb6,ag,(px6.upd l6 nT).snoc (Pt.upd (q:=cc) ⟨bc,rfl,hbc6⟩ l6 nT),?_,Bf.at_app hc5,Bf.at_app hd5,st5.add hc5 hd5 (List.mem_of_getElem? hcc) hm⟩;refine ⟨kvs6,(aj dl).trans ed6,ke6,fun j k v ej=>?_⟩;rcases kv6 j k v ej with z | ⟨z,b,p',c',q1,q2,q3,q4⟩
              · exact .inl z
              · exact .inr ⟨z,b,p',c',q1,q2,q3,(aj (cm q4 l6 (nT _))).trans q4⟩
          · rintro σ' H6 ⟨qs,ps,ds,xs,rfl,r⟩
            exact ⟨qs,ps,ds,xs,_,rfl,r⟩
        · rintro σ' H5 ⟨qs,ps,ds,xs,o6,rfl,s5,e5,py5,hb5,l5,px5,on5,hc5,hd5,st5⟩
          rw [List.take_of_length_le (by rw [py5.1]; exact Nat.le_refl _)] at st5;left;exact ⟨qs,ps,ds,xs,_,_,(List.getElem?_eq_some_iff.mp hc5).1,rfl,s5,l5,px5,on5,st5.next hc5 fun c hc=>hc⟩
    · have hi:i=qs.length:=by
        have:¬ ((i:Nat):Int)<(qs.length:Nat):=fun z=>c (aT z)
        omega
      subst hi;left;exact k d qs ps ds H3 s3 nd on3 st3
end
section
theorem ux {kvs:List (List Key×V)} {qs:List (Int×Int)} (h:cF kvs qs) (nd:qs.Nodup):(kvs.map (·.1)).Nodup:=by
 rw [show kvs.map (·.1)=qs.map ky from h];unfold List.Nodup;rw [List.pairwise_map];exact List.Pairwise.imp (fun {a b} (hne:a≠b) z=>hne (jL z)) nd
theorem eE.val {H:Hp} {d:Addr} {qs:List (Int×Int)} {ps:List Nat} {kvs:List (List Key×V)} (h:eE H d qs ps) (e:H d=some (.dT kvs)) (nd:qs.Nodup) {j:Nat} {c:Int×Int} (hc:qs[j]?=some c):∃ v,bp kvs (ky c)=some v∧((j=0∧v=.non)∨(0<j∧∃ b p c',ps[j]?=some p∧qs[p]?=some c'∧v=.ref b∧H b=some (.tup [.int c'.1,.int c'.2]))):=by
 obtain ⟨kvs',h1,h2,h3⟩:=h.ob;rw [e] at h1
 cases h1;have lj:j<kvs.length:=by rw [h2.len]; exact (List.getElem?_eq_some_iff.mp hc).1
 have hk:(kvs.map (·.1))[j]?=some (ky c):=by rw [show kvs.map (·.1)=qs.map ky from h2,List.getElem?_map,hc]; rfl
 rw [List.getElem?_map,List.getElem?_eq_getElem lj] at hk;injection hk with hk;have ej:kvs[j]?=some (ky c,kvs[j].2):=by rw [List.getElem?_eq_getElem lj,← hk]
 exact ⟨_,rG (ux h2 nd) ej,h3 j _ _ ej⟩
end
section
variable {P:Program} {w:World} {K:W.Frag} {mg:Str→Option Value} {base:Heap} {t:Ad}
noncomputable def sp_ag (C:Addr):Sp:=fun vs H Q _=>∃ (p:Addr) (x y s:Int) (cs rs:List Int),vs=[.ref p,.int x,.int y]∧aK C H p s cs rs∧inC cs rs (x,y)∧Q .non H
theorem ok_ag (T:Txt K mg t):a7 P w K mg base CX0 3 t.f_ag t.d_ag ["board","x","y"] (sp_ag t.a_ab) :=
 (okx_ag T).down fun vs H Q E hh=>by
  obtain ⟨p,x,y,s,cs,rs,rfl,hc,hi,q⟩:=hh;exact ⟨p,x,y,s,cs,rs,rfl,hc,.inl ⟨hi,q⟩⟩
noncomputable def sp_aK (C:Addr):Sp:=fun vs H Q _=>∃ (p a b:Addr) (c d:Int×Int) (s:Int) (cs rs:List Int),vs=[.ref p,.ref a,.ref b]∧aK C H p s cs rs∧cs.length≤39∧rs.length≤39∧H a=some (.tup [.int c.1,.int c.2])∧H b=some (.tup [.int d.1,.int d.2])∧inC cs rs c∧inC cs rs d ∧
 (∀ H',ah H H'→(¬ ∃ m,Bf.Walk (bs cs rs) d c m)→Q .non H') ∧
 ∀ l H',ah H H'→H l=none→(∃ m,Bf.Walk (bs cs rs) d c m)→Q (.ref l) H'
theorem ok_aK (T:Txt K mg t):a7 P w K mg base CX0 7 t.f_aK t.d_aK ["cloth","one","other"] (sp_aK t.a_ab):=by
 refine T.F_aK.ok sc_aK (fun vs H Q E h=>?_) (fun cdv A outer s H vs Q E hr h=>?_)
 ·obtain ⟨p,a,b,c,d,s,cs,rs,rfl,_⟩:=h; rfl
 ·obtain ⟨p,a,b,c,d,s,cs,rs,rfl,hc,lc,lr,ha,hb,hic,hid,k0,k1⟩:=h;refine aI (bf (aq (ok_ag T) (rmo hr) rfl T.mg_ag T.F_ag.kp T.b_ag .nil aJ (aa (pv 0) (aa (au (aD K rfl) (pv 1) af) (aa (au (aD K rfl) (pv 1) af) ae))))) fun _ _=>aI (bf (aq (ok_ag T) (rmo hr) rfl T.mg_ag T.F_ag.kp T.b_ag .nil aJ (aa (pv 0) (aa (au (aD K rfl) (pv 2) af) (aa (au (aD K rfl) (pv 2) af) ae))))) fun _ _=>aI (aM 3 sc_aK.nd (aq (ok_aw T) (rmo hr) rfl T.mg_aw T.F_aw.kp T.b_aw .nil aJ (aa (pv 0) (aa (pv 2) ae)))) fun _ _=>aI (bo (mq (kY (fm hr) (pv 1) (pv 3))) (ai (aG gu)) aE) fun _ _=>aI (aM 4 sc_aK.nd (cZ ae)) fun _ _=>aI (aM 5 sc_aK.nd (pv 1)) fun _ _=>aI (fu PassesOwn.never (bQ ml (pv 5) gu) (aO (bf (cT PySem.F.plainAttrs_list PySem.F.slot_list_append PySem.F.type_list_append aV (pv 4) (aa (pv 5) ae))) (ai (aM 5 sc_aK.nd (rf (fm hr) (pv 3) (pv 5) (fun _ _=>rfl)))))) fun _ _=>dr (aG (pv 4)) fun _ _=>?_;apply aN (SqT.of ha) (v:=.int c.1) rfl ?_;apply aN (SqT.of ha) (v:=.int c.2) rfl ?_;apply ⟨p,c.1,c.2,s,cs,rs,rfl,hc,hic,?_⟩;apply aN (SqT.of hb) (v:=.int d.1) rfl ?_;apply aN (SqT.of hb) (v:=.int d.2) rfl ?_;apply ⟨p,d.1,d.2,s,cs,rs,rfl,hc,hid,?_⟩;apply ⟨p,b,d,s,cs,rs,rfl,hc,lc,lr,hb,hid,fun dd qs ps ds H1 s1 ndd on1 st1=>?_⟩;obtain ⟨kvs,ed,ke,_⟩:=id on1.ob;have ha1:=s1 _ _ ha;have mem:=st1.mem (Nat.le_refl _) c;have lq:=ma lc lr st1.nd (rq hid st1);apply ⟨dd,_,rfl,dG.t (k:=ky c) ed ha1,?_⟩;rw [ke.val];by_cases hm:c∈qs
  ·rw [aT hm];apply nwL fun l H2 sl nl el=>?_;left;obtain ⟨j0,hj0⟩:=List.mem_iff_getElem?.mp hm;have lj0:=(List.getElem?_eq_some_iff.mp hj0).1;refine ⟨fun m σ' H'=>∃ (hv:V) (xs:List V),σ'=[some (.ref p),some (.ref a),some (.ref b),some (.ref dd),some (.ref l),some hv]∧ah H1 H'∧H' l=some (.lst xs)∧xs.length+m≤1601∧((m=0∧hv=.non)∨∃ (j:Nat) (cj:Int×Int) (bj:Addr),m=j+1∧qs[j]?=some cj∧hv=.ref bj∧H' bj=some (.tup [.int cj.1,.int cj.2])),
    ⟨_,.ref a,[],rfl,sl,el,by show 0+(j0+1)≤1601; omega,.inr ⟨j0,c,a,rfl,hj0,rfl,sl _ _ ha1⟩⟩,?_⟩
   rintro m σ' H3 ⟨hv,xs,rfl,s3,e3,lx,st⟩;apply ⟨rfl,?_⟩;rcases st with ⟨rfl,rfl⟩ | ⟨j,cj,bj,rfl,hj,rfl,hbj⟩
   ·rw [show (!decide (V.non=V.non))=false by simp];left;exact k1 l H3 (s1.trans s3) (s1.free nl) (mem.mp hm)
   ·rw [show (!decide (V.ref bj=V.non))=true by simp];apply ⟨fun σ' H'=>∃ (m':Nat) (hv:V) (xs:List V),m'<j+1∧σ'=[some (.ref p),some (.ref a),some (.ref b),some (.ref dd),some (.ref l),some hv]∧ah H1 H'∧H' l=some (.lst xs)∧xs.length+m'≤1601∧((m'=0∧hv=.non)∨∃ (j:Nat) (cj:Int×Int) (bj:Addr),m'=j+1∧qs[j]?=some cj∧hv=.ref bj∧H' bj=some (.tup [.int cj.1,.int cj.2])),?_,?_⟩
    ·rintro σ' H' ⟨m',hv,xs,hm',r⟩;exact ⟨m',hm',hv,xs,r⟩
    ·apply bY e3 ?_;apply aX e3 (aZ (by omega)) ?_;have nT:∀ ys,HO.tup ys≠HO.lst xs:=by intro ys z; cases z
     have s4:ah H1 (upd H3 l (.lst (xs++[.ref bj]))):=s3.later nl;have hb4:upd H3 l (.lst (xs++[.ref bj])) bj=some (.tup [.int cj.1,.int cj.2]):=(aj (cm hbj e3 (nT _))).trans hbj;have e4:=ag (H:=H3) (a:=l) (o:=HO.lst (xs++[.ref bj]));generalize upd H3 l (.lst (xs++[.ref bj]))=H4 at s4 hb4 e4 ⊢;have lx4:(xs++[V.ref bj]).length=xs.length+1:=by rw [List.length_append]; rfl
     obtain ⟨v,hval,hv⟩:=(on1.mono s4).val (s4 _ _ ed) st1.nd hj;apply oy (k:=ky cj) (s4 _ _ ed) hb4 hval ?_;left;rcases hv with ⟨rfl,rfl⟩ | ⟨j0',b',p',c',q1,q2,rfl,q4⟩
     ·exact ⟨0,.non,_,by omega,rfl,s4,e4,by omega,.inl ⟨rfl,rfl⟩⟩
     ·obtain ⟨a1,_⟩:=st1.par j _ _ j0' hj q1;exact ⟨p'+1,.ref b',_,by omega,rfl,s4,e4,by omega,.inr ⟨p',c',b',rfl,q2,rfl,q4⟩⟩
  ·rw [bA hm];left;exact k0 H1 s1 fun z=>hm (mem.mpr z)
noncomputable def Sm (z:Int):Prop:=-1000000000000000000<z∧z<1000000000000000000
theorem jm {zs:List Int} {z:Int} (h:∀ y∈zs,Sm y) (hz:Sm z):∀ y∈zs++[z],Sm y:=fun y hy=>by
 rcases List.mem_append.mp hy with q | q
 ·exact h y q
 ·rw [List.mem_singleton.mp q]; exact hz
theorem qm (r:Int) {m:Int} (h0:0<m) (h1:m≤1000003):Sm (r%m):=by
 have:=Int.emod_nonneg r (by omega:m≠0)
 have:=Int.emod_lt_of_pos r h0
 unfold Sm; omega
noncomputable def sp_av (K:W.Frag):Sp:=fun vs H Q _=>∃ (a:Addr) (m:Nat) (ns:List Int),vs=[.ref a,.int m]∧SqL K H a (ns.map V.int)∧ns.length≤63∧m≤200 ∧
 ∀ (l:Addr) (zs:List Int) (H':Hp),ah H H'→H' l=some (.lst (zs.map V.int))→m≤zs.length→zs.length≤300→(∀ z∈zs,Sm z)→Q (.ref l) H'
theorem fo (zs:List Int) (z:Int):zs.map V.int++[V.int z]=(zs++[z]).map V.int:=by simp
theorem ok_av (T:Txt K mg t):a7 P w K mg base CX0 1 t.f_av t.d_av ["_law_script","_law_many"] (sp_av K):=by
 refine T.F_av.ok sc_av (fun vs H Q E h=>?_) (fun cdv A outer s H vs Q E hr h=>?_)
 ·obtain ⟨a,m,ns,rfl,_⟩:=h; rfl
 ·obtain ⟨a,m,ns,rfl,hS,hl,hm,k⟩:=h;refine aI (aM 2 sc_av.nd (cZ ae)) fun _ _=>aI (aM 3 sc_av.nd af) fun _ _=>aI (c6 PassesOwn.never rfl (dR (pv 0)) (aW (i:=4) sc_av.nd rfl (Or.inl rfl)) (aO (aM 3 sc_av.nd (ar bN (ar aY (ar gr (pv 3) af) (pv 4)) af)) (aO (aM 5 sc_av.nd (ao zt rfl T.no_abs (by rfl) (aa (pv 4) ae))) (aO (bo (bQ dz (pv 5) (ar Af af af)) (aO (bf (cT PySem.F.plainAttrs_list PySem.F.slot_list_append PySem.F.type_list_append aV (pv 2) (aa (pv 4) ae))) (ai (aM 5 sc_av.nd af))) aE) (ai (fu PassesOwn.never (PW.pt (dB (bQ q8 (pv 5) af) (cU (bQ dz (ao (bW K rfl) rfl T.no_len (by rfl) (aa (pv 2) ae)) (pv 1))))) (aO (bf (cT PySem.F.plainAttrs_list PySem.F.slot_list_append PySem.F.type_list_append aV (pv 2) (aa (ar bN (pv 5) af) ae))) (ai (aM 5 sc_av.nd (ar qZ (pv 5) af)))))))))) fun _ _=>aI (fu PassesOwn.never (bQ dz (ao (bW K rfl) rfl T.no_len (by rfl) (aa (pv 2) ae)) (pv 1)) (aO (aM 3 sc_av.nd (ar bN (ar aY (ar gr (pv 3) af) af) af)) (ai (bf (cT PySem.F.plainAttrs_list PySem.F.slot_list_append PySem.F.type_list_append aV (pv 2) (aa (ar bN (ar gr (pv 3) (pv 3)) af) ae)))))) fun _ _=>dr (aG (pv 2)) fun _ _=>?_;apply ⟨Nat.zero_le _,fun l hn=>?_⟩;left;have hz:∀ {zs:List Int},zs.length≤300→(zs.map V.int).length<sizeLine:=fun h=>by rw [List.length_map]; exact cx (by omega)
  refine ⟨⟨_,(ah.new hn).seq hS⟩,fQ (K:=K) (a:=a) (xs:=ns.map V.int) (fun i σ' H'=>∃ (zs:List Int) (mix:Int) (c r:Option V),σ'=[some (.ref a),some (.int m),some (.ref l),some (.int mix),c,r]∧ah H H'∧H' l=some (.lst (zs.map V.int))∧zs.length≤i+m∧∀ z∈zs,Sm z)
   ⟨[],1,none,none,rfl,ah.new hn,ag,Nat.zero_le _,fun z hz=>by cases hz⟩ (fun i σ' H' _ ⟨_,_,_,_,_,s,_⟩=>s.seq hS) ?_ ?_⟩
  ·rintro i y σ' H' hi ⟨zs,mix,c,r,rfl,s1,e1,lz,sm⟩;have hil:i<ns.length:=by have:=(List.getElem?_eq_some_iff.mp hi).1; rwa [List.length_map] at this
   obtain ⟨z,rfl⟩:∃ z,y=V.int z:=by
    rw [List.getElem?_map] at hi
    cases e:ns[i]? with
    | none=>rw [e] at hi; cases hi
    | some z=>rw [e] at hi; exact ⟨z,(Option.some.inj hi).symm⟩
   apply b6 (.inr ⟨by decide,by decide⟩) ?_;apply b6 (by decide) ?_;apply b6 ⟨by decide,by decide,by decide⟩ ?_;apply iY (fun hc=>?_) (fun _=>?_)
   ·have hc:=of_decide_eq_true hc
    have hcz:Sm z:=by
     unfold Sm;have e18:(10:Int) ^ 18=1000000000000000000:=by decide
     by_cases hz0:z<0
     ·rw [if_pos hz0] at hc; change -z<(10:Int) ^ 18 at hc; omega
     ·rw [if_neg hz0] at hc; change z<(10:Int) ^ 18 at hc; omega
    apply bY e1 ?_;apply aX e1 (hz (by omega)) ?_;rw [fo];apply ⟨fun n σ' H'=>∃ (zs:List Int) (mix:Int) (r:Int),σ'=[some (.ref a),some (.int m),some (.ref l),some (.int mix),some (.int z),some (.int r)]∧ah H H'∧H' l=some (.lst (zs.map V.int))∧zs.length≤i+1+m∧n=m - zs.length∧∀ z∈zs,Sm z,
     ⟨_,zs++[z],_,_,rfl,s1.later hn,ag,by rw [List.length_append,List.length_singleton]; omega,rfl,jm sm hcz⟩,?_⟩
    rintro n σ' H' ⟨zs,mix,r,rfl,s1,e1,lz,rfl,sm⟩;apply iY (fun _=>?_) (fun _=>?_)
    ·apply bX e1 ?_;left;rw [List.length_map];refine iY (fun h2=>?_) (fun h2=>?_)
     ·have h2:=of_decide_eq_true h2;refine ⟨fun σ' H'=>∃ (zs':List Int) (mix:Int) (r:Int),σ'=[some (.ref a),some (.int m),some (.ref l),some (.int mix),some (.int z),some (.int r)]∧ah H H'∧H' l=some (.lst (zs'.map V.int))∧zs'.length=zs.length+1∧∀ z∈zs',Sm z,?_,?_⟩
      ·rintro σ' H' ⟨zs',mix,r,rfl,s1,e1,lz',sm'⟩;exact ⟨m - zs'.length,by omega,zs',mix,r,rfl,s1,e1,by omega,rfl,sm'⟩
      ·apply bY e1 ?_;apply b6 (by decide) ?_;apply aX e1 (hz (by omega)) ?_;rw [fo];apply b6 ⟨by decide,by decide⟩ ?_;left;exact ⟨zs++[r%1000003],mix,_,rfl,s1.later hn,ag,by rw [List.length_append,List.length_singleton],jm sm (qm r (by decide) (by decide))⟩
     ·left;exact ⟨zs,mix,_,_,rfl,s1,e1,lz,sm⟩
    ·left;exact ⟨zs,mix,_,_,rfl,s1,e1,lz,sm⟩
   ·apply ⟨fun n σ' H'=>∃ (zs:List Int) (mix:Int) (r:Int),σ'=[some (.ref a),some (.int m),some (.ref l),some (.int mix),some (.int z),some (.int r)]∧ah H H'∧H' l=some (.lst (zs.map V.int))∧zs.length≤i+1+m∧n=m - zs.length∧∀ z∈zs,Sm z,
     ⟨_,zs,_,_,rfl,s1,e1,by omega,rfl,sm⟩,?_⟩
    rintro n σ' H' ⟨zs,mix,r,rfl,s1,e1,lz,rfl,sm⟩;apply iY (fun _=>?_) (fun _=>?_)
    ·apply bX e1 ?_;left;rw [List.length_map];refine iY (fun h2=>?_) (fun h2=>?_)
     ·have h2:=of_decide_eq_true h2;refine ⟨fun σ' H'=>∃ (zs':List Int) (mix:Int) (r:Int),σ'=[some (.ref a),some (.int m),some (.ref l),some (.int mix),some (.int z),some (.int r)]∧ah H H'∧H' l=some (.lst (zs'.map V.int))∧zs'.length=zs.length+1∧∀ z∈zs',Sm z,?_,?_⟩
      ·rintro σ' H' ⟨zs',mix,r,rfl,s1,e1,lz',sm'⟩;exact ⟨m - zs'.length,by omega,zs',mix,r,rfl,s1,e1,by omega,rfl,sm'⟩
      ·apply bY e1 ?_;apply b6 (by decide) ?_;apply aX e1 (hz (by omega)) ?_;rw [fo];apply b6 ⟨by decide,by decide⟩ ?_;left;exact ⟨zs++[r%1000003],mix,_,rfl,s1.later hn,ag,by rw [List.length_append,List.length_singleton],jm sm (qm r (by decide) (by decide))⟩
     ·left;exact ⟨zs,mix,_,_,rfl,s1,e1,lz,sm⟩
    ·left;exact ⟨zs,mix,_,_,rfl,s1,e1,lz,sm⟩
  ·rintro σ' H' ⟨zs,mix,c,r,rfl,s1,e1,lz,sm⟩;rw [List.length_map] at lz;apply ⟨fun n σ' H'=>∃ (zs:List Int) (mix:Int),σ'=[some (.ref a),some (.int m),some (.ref l),some (.int mix),c,r]∧(-(2 ^ 64)<mix∧mix<2 ^ 64∨True)∧ah H H'∧H' l=some (.lst (zs.map V.int))∧zs.length≤300∧n=m - zs.length∧∀ z∈zs,Sm z,
    ⟨_,zs,mix,rfl,.inr trivial,s1,e1,by omega,rfl,sm⟩,?_⟩
   rintro n σ' H' ⟨zs,mix,rfl,_,s1,e1,lz,rfl,sm⟩;apply bX e1 ?_;left;rw [List.length_map];refine iY (fun h2=>?_) (fun h2=>?_)
   ·have h2:=of_decide_eq_true h2;refine ⟨fun σ' H'=>∃ (zs':List Int) (mix:Int),σ'=[some (.ref a),some (.int m),some (.ref l),some (.int mix),c,r]∧ah H H'∧H' l=some (.lst (zs'.map V.int))∧zs'.length=zs.length+1∧∀ z∈zs',Sm z,?_,?_⟩
    ·rintro σ' H' ⟨zs',mix,rfl,s1,e1,lz',sm'⟩;exact ⟨m - zs'.length,by omega,zs',mix,rfl,.inr trivial,s1,e1,by omega,rfl,sm'⟩
    ·apply b6 (.inr ⟨by decide,by decide⟩) ?_;apply b6 (by decide) ?_;apply bY e1 ?_;apply b6 (.inl ⟨by omega,by omega⟩) ?_;apply b6 (by decide) ?_;apply aX e1 (hz (by omega)) ?_;rw [fo];left;exact ⟨zs++[_],_,rfl,s1.later hn,ag,by rw [List.length_append,List.length_singleton],jm sm (qm _ (by decide) (by decide))⟩
   ·have h2:¬ ((zs.length:Int)<m):=fun z=>h2 (aT z);left;exact k l zs H' s1 e1 (by omega) (by omega) sm
noncomputable def sp_aG:Sp:=fun vs H Q _=>∃ (n:Int) (m:Nat),vs=[.int n,.int m]∧m≤100∧∀ (l:Addr) (bs:List Int) (H':Hp),ah H H'→H' l=some (.lst (bs.map V.int))→bs.length=m→(∀ z∈bs,z=0∨z=1)→Q (.ref l) H'
theorem i8 {a b:Int} (ha:0≤a) (hb:0<b):a%b≤a:=by
 obtain ⟨m,rfl⟩:=Int.eq_ofNat_of_zero_le ha;obtain ⟨n,rfl⟩:=Int.eq_ofNat_of_zero_le (Int.le_of_lt hb);rw [← Int.natCast_emod];exact Int.ofNat_le.mpr (Nat.mod_le _ _)
theorem Bj (n:Int):n%2=0∨n%2=1:=by omega
theorem ok_aG (T:Txt K mg t):a7 P w K mg base CX0 1 t.f_aG t.d_aG ["_law_number","_law_many"] sp_aG:=by
 refine T.F_aG.ok sc_aG (fun vs H Q E h=>?_) (fun cdv A outer s H vs Q E hr h=>?_)
 ·obtain ⟨n,m,rfl,_⟩:=h; rfl
 ·obtain ⟨n,m,rfl,hm,k⟩:=h;refine aI (aM 2 sc_aG.nd (cZ ae)) fun _ _=>aI (c6 PassesOwn.never rfl (dk rfl T.no_ax (aa (pv 1) ae)) (aW (i:=3) sc_aG.nd rfl (Or.inl rfl)) (aO (bf (cT PySem.F.plainAttrs_list PySem.F.slot_list_append PySem.F.type_list_append aV (pv 2) (aa (ar bN (pv 0) af) ae))) (ai (aM 0 sc_aG.nd (ar qZ (pv 0) af))))) fun _ _=>dr (aG (pv 2)) fun _ _=>?_;apply ⟨Nat.zero_le _,fun l hn=>?_⟩;apply ⟨m,rfl,by omega,by omega,?_⟩;rw [Int.toNat_natCast];refine cN (fun i σ' H'=>∃ (n:Int) (bs:List Int) (c:Option V),σ'=[some (.int n),some (.int m),some (.ref l),c]∧ah H H'∧H' l=some (.lst (bs.map V.int))∧bs.length=i∧∀ z∈bs,z=0∨z=1)
   ⟨n,[],none,rfl,ah.new hn,ag,rfl,fun z hz=>by cases hz⟩ ?_ ?_
  ·rintro i σ' H' hi ⟨n,bs,c,rfl,s1,e1,lb,hb⟩;apply bY e1 ?_;apply b6 (by decide) ?_;apply aX e1 (by rw [List.length_map]; exact cx (by omega)) ?_;rw [fo];apply b6 ⟨by decide,by decide⟩ ?_;apply ⟨_,bs++[n%2],_,rfl,s1.later hn,ag,by rw [List.length_append,List.length_singleton]; omega,fun z hz=>?_⟩;rcases List.mem_append.mp hz with h | h
   ·exact hb z h
   ·rw [List.mem_singleton.mp h]; exact Bj n
  ·rintro σ' H' ⟨n,bs,c,rfl,s1,e1,lb,hb⟩;left;exact k l bs H' s1 e1 lb hb
noncomputable def sp_aJ:Sp:=fun vs H Q _=>∃ (a:Addr) (m:Nat) (zs:List Int),vs=[.ref a,.int m]∧H a=some (.lst (zs.map V.int))∧4≤zs.length∧m≤100∧∀ (l:Addr) (bs:List Int) (H':Hp),ah H H'→H' l=some (.lst (bs.map V.int))→bs.length=m→(∀ z∈bs,z=0∨z=1)→Q (.ref l) H'
theorem ok_aJ (T:Txt K mg t):a7 P w K mg base CX0 2 t.f_aJ t.d_aJ ["_law_some","_law_many"] sp_aJ:=by
 refine T.F_aJ.ok sc_aJ (fun vs H Q E h=>?_) (fun cdv A outer s H vs Q E hr h=>?_)
 ·obtain ⟨a,m,zs,rfl,_⟩:=h; rfl
 ·obtain ⟨a,m,zs,rfl,ha,hl,hm,k⟩:=h;refine aI (aM 2 sc_aJ.nd (ar aY (ar aY (au (aA K rfl) (pv 0) af) (ar gr af (au (aA K rfl) (pv 0) af))) (ar gr (ar gr af af) (au (aA K rfl) (pv 0) af)))) fun _ _=>aI (bo (bQ dy (ar bN (au (aA K rfl) (pv 0) af) af) af) (ai (aM 2 sc_aJ.nd (kZ iL (ar bN (au (aA K rfl) (pv 0) af) af)))) aE) fun _ _=>aI (gw (i:=3) sc_aJ.nd rfl (Or.inr rfl) (aq (ok_aG T) (rmo hr) rfl T.mg_aG T.F_aG.kp T.b_aG .nil aJ (aa (pv 2) (aa (pv 1) ae)))) fun _ _=>aI (bo (bQ dy (ar bN (au (aA K rfl) (pv 0) af) af) af) (ai (gw (i:=3) sc_aJ.nd rfl (Or.inr rfl) (fU (N:=["_law_k","_law_row_here","_law_some"]) (cap:=[none,some 3,some 0]) rfl ⟨rfl,rfl,rfl,rfl,rfl,rfl⟩ (dk rfl T.no_ax (aa (pv 1) ae)) (fun _ _ _=>(aW (i:=0) (show (["_law_k","_law_row_here","_law_some"]:List Str).Nodup by decide +kernel) rfl (Or.inl rfl))) (fun _ _ _=>hV) (fun _ _ _=>(au (aA K rfl) (pv 1) (ar bN (pv 0) (ar aY af (ar bN (au (aA K rfl) (pv 2) af) af)))))))) aE) fun _ _=>dr (aG (pv 3)) fun _ _=>?_;have I0:atI (zs.map V.int) 0=_:=bC (by decide) (by omega);have I1:atI (zs.map V.int) 1=_:=bC (by decide) (by omega);have I2:atI (zs.map V.int) 2=_:=bC (by decide) (by omega);have I3:atI (zs.map V.int) 3=_:=bC (by decide) (by omega);generalize zs.getD (0:Int).toNat 0=z0 at I0;generalize zs.getD (1:Int).toNat 0=z1 at I1;generalize zs.getD (2:Int).toNat 0=z2 at I2;generalize zs.getD (3:Int).toNat 0=z3 at I3
  -- behind the raw number: the bits,and the pattern
  apply aR (SqL.of ha) I0 ?_;apply aR (SqL.of ha) I1 ?_;apply b6 (.inl ⟨by decide,by decide⟩) ?_;apply b6 (.inl ⟨by decide,by decide⟩) ?_;apply aR (SqL.of ha) I2 ?_;apply b6 (.inl ⟨by decide,by decide⟩) ?_;apply aR (SqL.of ha) I3 ?_;apply b6 (by decide) ?_;apply iY (fun _=>?_) (fun _=>?_)
  ·apply aR (SqL.of ha) I0 ?_;apply b6 (by decide) ?_;apply ⟨_,m,rfl,hm,fun l bs H1 s1 e1 lb hb=>?_⟩;apply aR (SqL.of (s1 _ _ ha)) I3 ?_;apply b6 (by decide) ?_;apply iY (fun _=>?_) (fun _=>?_)
   ·apply ⟨m,rfl,by omega,by omega,fun l2 hn=>?_⟩;rw [Int.toNat_natCast];refine iN (fun i=>.int (bs.getD (((0:Int)+(i:Nat))%(1+z1%4)).toNat 0)) (by omega) hn (fun i o H' Q' hi s2 q=>?_) (fun H' s2 e2=>?_)
    ·apply aR (SqL.of (s2 _ _ (s1 _ _ ha))) I1 ?_;apply b6 (by decide) ?_;left;have p1:0<1+z1%4:=by omega
     refine b6 p1 ?_;left;have q0:=Int.emod_nonneg ((0:Int)+(i:Nat)) (by omega:1+z1%4≠0);have q1:((0:Int)+(i:Nat))%(1+z1%4)≤(0:Int)+(i:Nat):=i8 (by omega) (by omega);refine aR (SqL.of (s2 _ _ e1)) (bC q0 (by omega)) ?_;exact q H' (ah.refl _)
    ·apply k l2 ((List.range m).map fun i=>bs.getD (((0:Int)+(i:Nat))%(1+z1%4)).toNat 0) H' (s1.trans s2) (by rw [e2,List.map_map]; rfl) (by rw [List.length_map,List.length_range]) fun z hz=>?_;obtain ⟨i,hi,rfl⟩:=List.mem_map.mp hz;have hi:=List.mem_range.mp hi;have q0:=Int.emod_nonneg ((0:Int)+(i:Nat)) (by omega:1+z1%4≠0);have q1:((0:Int)+(i:Nat))%(1+z1%4)≤(0:Int)+(i:Nat):=i8 (by omega) (by omega);exact hb _ (L2.getD_mem (by omega))
   ·left;exact k l bs H1 s1 e1 lb hb
  ·apply ⟨_,m,rfl,hm,fun l bs H1 s1 e1 lb hb=>?_⟩;apply aR (SqL.of (s1 _ _ ha)) I3 ?_;apply b6 (by decide) ?_;apply iY (fun _=>?_) (fun _=>?_)
   ·apply ⟨m,rfl,by omega,by omega,fun l2 hn=>?_⟩;rw [Int.toNat_natCast];refine iN (fun i=>.int (bs.getD (((0:Int)+(i:Nat))%(1+z1%4)).toNat 0)) (by omega) hn (fun i o H' Q' hi s2 q=>?_) (fun H' s2 e2=>?_)
    ·apply aR (SqL.of (s2 _ _ (s1 _ _ ha))) I1 ?_;apply b6 (by decide) ?_;left;have p1:0<1+z1%4:=by omega
     refine b6 p1 ?_;left;have q0:=Int.emod_nonneg ((0:Int)+(i:Nat)) (by omega:1+z1%4≠0);have q1:((0:Int)+(i:Nat))%(1+z1%4)≤(0:Int)+(i:Nat):=i8 (by omega) (by omega);refine aR (SqL.of (s2 _ _ e1)) (bC q0 (by omega)) ?_;exact q H' (ah.refl _)
    ·apply k l2 ((List.range m).map fun i=>bs.getD (((0:Int)+(i:Nat))%(1+z1%4)).toNat 0) H' (s1.trans s2) (by rw [e2,List.map_map]; rfl) (by rw [List.length_map,List.length_range]) fun z hz=>?_;obtain ⟨i,hi,rfl⟩:=List.mem_map.mp hz;have hi:=List.mem_range.mp hi;have q0:=Int.emod_nonneg ((0:Int)+(i:Nat)) (by omega:1+z1%4≠0);have q1:((0:Int)+(i:Nat))%(1+z1%4)≤(0:Int)+(i:Nat):=i8 (by omega) (by omega);exact hb _ (L2.getD_mem (by omega))
   ·left;exact k l bs H1 s1 e1 lb hb
structure tM (tupl:Bool) (H:Hp) (p:Addr) (s:Int) (cs rs:List Int):Prop where
 ob:∃ c r,H p=some (if tupl then .tup [.int s,.ref c,.ref r] else .lst [.int s,.ref c,.ref r])∧H c=some (.lst (cs.map V.int))∧H r=some (.lst (rs.map V.int))
 sh:s=0∨s=1
 bc:gE cs
 br:gE rs
noncomputable def sp_aH:Sp:=fun vs H Q _=>∃ (a:Addr) (zs:List Int),vs=[.ref a]∧H a=some (.lst (zs.map V.int))∧12≤zs.length∧∀ p s cs rs H',ah H H'→tM true H' p s cs rs→Q (.ref p) H'
theorem uX (i:Int):0<([9,9,16,40,6]:List Int).getD (i%5).toNat 0∧([9,9,16,40,6]:List Int).getD (i%5).toNat 0≤40:=by
 have h:=L2.getD_mem (zs:=([9,9,16,40,6]:List Int)) (k:=(i%5).toNat) (d:=0) (by simp; omega);simp only [List.mem_cons,List.not_mem_nil,or_false] at h;rcases h with h | h | h | h | h<;>rw [h]<;>decide
theorem uY (i:Int):0<([9,16,16,6,40]:List Int).getD (i%5).toNat 0∧([9,16,16,6,40]:List Int).getD (i%5).toNat 0≤40:=by
 have h:=L2.getD_mem (zs:=([9,16,16,6,40]:List Int)) (k:=(i%5).toNat) (d:=0) (by simp; omega);simp only [List.mem_cons,List.not_mem_nil,or_false] at h;rcases h with h | h | h | h | h<;>rw [h]<;>decide
theorem ok_aH (T:Txt K mg t):a7 P w K mg base CX0 3 t.f_aH t.d_aH ["_law_some"] sp_aH:=by
 refine T.F_aH.ok sc_aH (fun vs H Q E h=>?_) (fun cdv A outer s H vs Q E hr h=>?_)
 ·obtain ⟨a,zs,rfl,_⟩:=h; rfl
 ·obtain ⟨a,zs,rfl,ha,hl,k⟩:=h;refine aI (aM 1 sc_aH.nd (ar aY af (ar bN (au (aA K rfl) (pv 0) af) (au (aA K rfl) (cZ (aa af (aa af (aa af (aa af (aa af ae)))))) (ar bN (au (aA K rfl) (pv 0) af) af))))) fun _ _=>aI (aM 2 sc_aH.nd (ar aY af (ar bN (au (aA K rfl) (pv 0) af) (au (aA K rfl) (cZ (aa af (aa af (aa af (aa af (aa af ae)))))) (ar bN (au (aA K rfl) (pv 0) af) af))))) fun _ _=>dr (aG (bB (aa (ar bN (au (aA K rfl) (pv 0) af) af) (aa (aq (ok_aJ T) (rmo hr) rfl T.mg_aJ T.F_aJ.kp T.b_aJ .nil aJ (aa (gX (oG K rfl) (pv 0) (jg af) jf) (aa (ar cq (pv 1) af) ae))) (aa (aq (ok_aJ T) (rmo hr) rfl T.mg_aJ T.F_aJ.kp T.b_aJ .nil aJ (aa (gX (oG K rfl) (pv 0) (jg af) jf) (aa (ar cq (pv 2) af) ae))) ae))))) fun _ _=>?_;have I0:atI (zs.map V.int) 0=_:=bC (by decide) (by omega);have I1:atI (zs.map V.int) 1=_:=bC (by decide) (by omega);have I2:atI (zs.map V.int) 2=_:=bC (by decide) (by omega);have I3:atI (zs.map V.int) 3=_:=bC (by decide) (by omega);generalize zs.getD (0:Int).toNat 0=z0 at I0;generalize zs.getD (1:Int).toNat 0=z1 at I1;generalize zs.getD (2:Int).toNat 0=z2 at I2;generalize zs.getD (3:Int).toNat 0=z3 at I3;have m0:0≤z0%5:=by omega
  have m5:z0%5<5:=by omega
  apply aR (SqL.of ha) I1 ?_;apply ⟨by show 5≤sizeLine; decide,fun l1 n1=>?_⟩;have s1:=ah.new (o:=HO.lst (([9,9,16,40,6]:List Int).map V.int)) n1;apply aR (SqL.of (s1 _ _ ha)) I0 ?_;apply b6 (by decide) ?_;apply aR (SqL.of (xs:=([9,9,16,40,6]:List Int).map V.int) ag) (bC m0 m5) ?_;apply b6 (uX z0).1 ?_;apply aR (SqL.of (s1 _ _ ha)) I2 ?_;apply ⟨by show 5≤sizeLine; decide,fun l2 n2=>?_⟩;have s2:=ah.new (o:=HO.lst (([9,16,16,6,40]:List Int).map V.int)) n2;apply aR (SqL.of (s2 _ _ (s1 _ _ ha))) I0 ?_;apply b6 (by decide) ?_;apply aR (SqL.of (xs:=([9,16,16,6,40]:List Int).map V.int) ag) (bC m0 m5) ?_;apply b6 (uY z0).1 ?_;left;have ha2:=s2 _ _ (s1 _ _ ha);refine aR (SqL.of ha2) I3 ?_;apply b6 (by decide) ?_;left;have va:=uX z0;have vb:=uY z0;generalize ([9,9,16,40,6]:List Int).getD (z0%5).toNat 0=va' at va ⊢;generalize ([9,16,16,6,40]:List Int).getD (z0%5).toNat 0=vb' at vb ⊢;have wa0:=Int.emod_nonneg z1 (by omega:va'≠0);have wa1:=Int.emod_lt_of_pos z1 va.1;have wb0:=Int.emod_nonneg z2 (by omega:vb'≠0);have wb1:=Int.emod_lt_of_pos z2 vb.1;refine vF ha2 fun l3 n3=>?_;have s3:=ah.new (o:=HO.lst (gd (zs.map V.int) (some 4) none)) n3;apply ⟨l3,(z1%va').toNat,zs.drop 4,(by show [V.ref l3,V.int (1+z1%va' - 1)]=_; rw [show (1+z1%va' - 1:Int)=(((z1%va').toNat:Nat):Int) by omega]),by rw [ag]; exact congrArg (fun x=>some (HO.lst x)) (kK (k:=4)),by rw [List.length_drop]; omega,by omega,fun c cs H1 s4 ec lc bc=>?_⟩;left;have ha4:=s4 _ _ (s3 _ _ ha2);refine vF ha4 fun l5 n5=>?_;have s5:=ah.new (o:=HO.lst (gd (zs.map V.int) (some 8) none)) n5;apply ⟨l5,(z2%vb').toNat,zs.drop 8,(by show [V.ref l5,V.int (1+z2%vb' - 1)]=_; rw [show (1+z2%vb' - 1:Int)=(((z2%vb').toNat:Nat):Int) by omega]),by rw [ag]; exact congrArg (fun x=>some (HO.lst x)) (kK (k:=8)),by rw [List.length_drop]; omega,by omega,fun r rs H2 s6 er lr br=>?_⟩;apply ⟨by show 3≤sizeLine; decide,fun p hp=>?_⟩;have s7:=ah.new (o:=HO.tup [V.int (z3%2),V.ref c,V.ref r]) hp;exact k p (z3%2) cs rs _ (s1.trans (s2.trans (s3.trans (s4.trans (s5.trans (s6.trans s7)))))) ⟨⟨c,r,ag,s7 _ _ (s6 _ _ (s5 _ _ ec)),s7 _ _ er⟩,Bj z3,⟨by omega,bc⟩,⟨by omega,br⟩⟩
noncomputable def sp_aI (C:Addr):Sp:=fun vs H Q _=>∃ (p:Addr) (b:Bool) (s:Int) (cs rs:List Int),vs=[.ref p]∧tM b H p s cs rs∧∀ x H',ah H H'→aK C H' x s cs rs→Q (.ref x) H'
theorem ok_aI (T:Txt K mg t):a7 P w K mg base CX0 8 t.f_aI t.d_aI ["_law_plan_here"] (sp_aI t.a_ab):=by
 refine T.F_aI.ok sc_aI (fun vs H Q E h=>?_) (fun cdv A outer s H vs Q E hr h=>?_)
 ·obtain ⟨p,b,s,cs,rs,rfl,_⟩:=h; rfl
 ·obtain ⟨p,b,s,cs,rs,rfl,pl,k⟩:=h;obtain ⟨⟨c,r,hp,hc,hr'⟩,sh,bc,br⟩:=id pl;refine ⟨_,(ai (aG (xt T.mk_ab (ok_ai T) (rmo hr) rfl T.mg_ab T.b_ai .nil aJ (aa (au (md K rfl) (pv 0) af) (aa (eM (ni K rfl) rfl T.no_list (by rfl) (aa (au (md K rfl) (pv 0) af) ae)) (aa (eM (ni K rfl) rfl T.no_list (by rfl) (aa (au (md K rfl) (pv 0) af) ae)) ae)))))),?_⟩;have ix:∀ {H':Hp} {i:Int} {v:V} {Q:VK},ah H H'→atI [V.int s,V.ref c,V.ref r] i=some v→Q v H'→rIx K (.ref p) (.int i) H' Q:=fun {H' i v Q} s1 e q=>by
   cases b
   ·exact xQ (SqL.of (s1 _ _ hp)) e q
   ·exact xR (SqT.of (s1 _ _ hp)) e q
  apply ix (ah.refl _) rfl ?_;apply ix (ah.refl _) rfl ?_;apply oz hc fun l1 n1=>?_;have s1:=ah.new (o:=HO.lst (cs.map V.int)) n1;apply ix s1 rfl ?_;apply oz (s1 _ _ hr') fun l2 n2=>?_;have s2:=ah.new (o:=HO.lst (rs.map V.int)) n2;left;intro x dx nx ndx nex;have s12:=s1.trans s2;have h1:upd (upd H l1 (.lst (cs.map V.int))) l2 (.lst (rs.map V.int)) l1=some (.lst (cs.map V.int)):=s2 _ _ ag;have h2:upd (upd H l1 (.lst (cs.map V.int))) l2 (.lst (rs.map V.int)) l2=some (.lst (rs.map V.int)):=ag;generalize upd (upd H l1 (.lst (cs.map V.int))) l2 (.lst (rs.map V.int))=H3 at h1 h2 s12 nx ndx ⊢;have s3:ah H3 (upd (upd H3 dx (.own x)) x (.ins t.a_ab dx [])):=(ah.new ndx).later nx;refine ⟨x,dx,l1,l2,s,cs,rs,rfl,ag,s3 _ _ h1,s3 _ _ h2,sh,bc,br,fun H4 kp hC=>⟨rfl,?_⟩⟩;exact k x H4 (fun b o e=>kp b o (s3 b o (s12 b o e)) (bM (s12 b o e) nx)) hC
noncomputable def BV (d:PyData):Prop:=(∃ i,d=.int i)∨(∃ b,d=.bool b)∨d=.none
noncomputable def OkS (S:PyData→Prop) (d:PyData):Prop:=BV d∨(∃ ds,d=.list ds∧ds.length≤1000∧∀ e∈ds,S e)∨∃ ds,d=.tuple ds∧ds.length≤1000∧∀ e∈ds,S e
noncomputable def mS (S:PyData→Prop):Sp:=fun vs H Q _=>∃ (x y:V) (d:PyData),vs=[x,y]∧S d∧Rep H d x∧Rep H d y∧∀ H',ah H H'→Q (.bl true) H'
theorem iJ {S:PyData→Prop} {n:Nat} (T:Txt K mg t) (G_aC:a7 P w K mg base CX0 n t.f_aC t.d_aC ["_law_told","_law_due"] (mS S)):a7 P w K mg base CX0 (n+1) t.f_aC t.d_aC ["_law_told","_law_due"] (mS (OkS S)):=by
 refine T.F_aC.ok sc_aC (fun vs H Q E h=>?_) (fun cdv A outer s H vs Q E hr h=>?_)
 ·obtain ⟨x,y,d,rfl,_⟩:=h; rfl
 ·obtain ⟨x,y,d,rfl,ok,rx,ry,k⟩:=h;refine aI (bo (PW.pt (rk (bQ kX (ao (bh K rfl) rfl T.no_aL (by rfl) (aa (pv 0) (aa (cf (v:=.ty "bool") rfl T.no_bool (by rfl:bootBuiltins "bool"=some (.type "bool")) rfl) ae))) (ao (bh K rfl) rfl T.no_aL (by rfl) (aa (pv 1) (aa (cf (v:=.ty "bool") rfl T.no_bool (by rfl:bootBuiltins "bool"=some (.type "bool")) rfl) ae)))) (mv (bQ kX (ao (bh K rfl) rfl T.no_aL (by rfl) (aa (pv 0) (aa (cf (v:=.ty "int") rfl T.no_int (by rfl:bootBuiltins "int"=some (.type "int")) rfl) ae))) (ao (bh K rfl) rfl T.no_aL (by rfl) (aa (pv 1) (aa (cf (v:=.ty "int") rfl T.no_int (by rfl:bootBuiltins "int"=some (.type "int")) rfl) ae))))))) (ai (aG gj)) aE) fun _ _=>aI (bo (PW.pt (rk (bQ kX (ao (bh K rfl) rfl T.no_aL (by rfl) (aa (pv 0) (aa (cf (v:=.ty "list") rfl T.no_list (by rfl:bootBuiltins "list"=some (.type "list")) rfl) ae))) (ao (bh K rfl) rfl T.no_aL (by rfl) (aa (pv 1) (aa (cf (v:=.ty "list") rfl T.no_list (by rfl:bootBuiltins "list"=some (.type "list")) rfl) ae)))) (mv (bQ kX (ao (bh K rfl) rfl T.no_aL (by rfl) (aa (pv 0) (aa (cf (v:=.ty "tuple") rfl T.no_aj (by rfl:bootBuiltins "tuple"=some (.type "tuple")) rfl) ae))) (ao (bh K rfl) rfl T.no_aL (by rfl) (aa (pv 1) (aa (cf (v:=.ty "tuple") rfl T.no_aj (by rfl:bootBuiltins "tuple"=some (.type "tuple")) rfl) ae))))))) (ai (aG gj)) aE) fun _ _=>aI (bo (PW.pt (dB (cA (bE (ao (bh K rfl) rfl T.no_aL (by rfl) (aa (pv 1) (aa (cf (v:=.ty "list") rfl T.no_list (by rfl:bootBuiltins "list"=some (.type "list")) rfl) ae))))) (cU (cA (bE (ao (bh K rfl) rfl T.no_aL (by rfl) (aa (pv 1) (aa (cf (v:=.ty "tuple") rfl T.no_aj (by rfl:bootBuiltins "tuple"=some (.type "tuple")) rfl) ae)))))))) (ai (aG (jO (gk dy (ao (bh K rfl) rfl T.no_aL (by rfl) (aa (pv 0) (aa (cf (v:=.ty "str") rfl T.no_str (by rfl:bootBuiltins "str"=some (.type "str")) rfl) ae))) (ao (bh K rfl) rfl T.no_aL (by rfl) (aa (pv 1) (aa (cf (v:=.ty "str") rfl T.no_str (by rfl:bootBuiltins "str"=some (.type "str")) rfl) ae)))) (jQ (gk (Ab hr.units) (pv 0) (pv 1)))))) aE) fun _ _=>dr (aG (jO (gk dy (ao (bW K rfl) rfl T.no_len (by rfl) (aa (pv 0) ae)) (ao (bW K rfl) rfl T.no_len (by rfl) (aa (pv 1) ae))) (jQ (ao (qI K rfl rfl) rfl T.no_all (by rfl) (aa (fU (N:=["_law_one","_law_other"]) (cap:=[none,none]) rfl ⟨rfl,rfl,rfl,rfl,rfl,rfl⟩ (xx rfl T.no_zip (aa (pv 0) (aa (pv 1) ae))) (fun _ _ _=>(gY (n:=2) K rfl rfl (cD (aW (i:=0) (show (["_law_one","_law_other"]:List Str).Nodup by decide +kernel) rfl (Or.inl rfl)) (cD (aW (i:=1) (show (["_law_one","_law_other"]:List Str).Nodup by decide +kernel) rfl (Or.inl rfl)) gZ)))) (fun _ _ _=>hV) (fun _ _ _=>(aq G_aC (rmo hr) rfl T.mg_aC T.F_aC.kp T.b_aC .nil aJ (aa (pv 0) (aa (pv 1) ae))))) ae))))) fun _ _=>?_;apply cO rx.ty (nN d) ?_;apply cO ry.ty (nN d) ?_;left;rw [aT rfl];apply cO rx.ty (qW d) ?_;apply cO ry.ty (qW d) ?_;left;rw [aT rfl];apply cO rx.ty (jK d) ?_;apply cO ry.ty (jK d) ?_;left;rw [aT rfl];apply cO rx.ty (fS d) ?_;apply cO ry.ty (fS d) ?_;left;rw [aT rfl];apply cO ry.ty (jK d) ?_;left;rcases ok with sc | ⟨ds,rfl,hl,hS⟩ | ⟨ds,rfl,hl,hS⟩
  ·have e1:isD "list" d=false:=by rcases sc with ⟨i,rfl⟩ | ⟨b,rfl⟩ | rfl<;>simp [isD]
   have e2:isD "tuple" d=false:=by rcases sc with ⟨i,rfl⟩ | ⟨b,rfl⟩ | rfl<;>simp [isD]
   rw [e1];apply cO ry.ty (fS d) ?_;rw [e2];apply cO rx.ty (qX d) ?_;apply cO ry.ty (qX d) ?_;left;rw [aT rfl];left;have sd:SeqAt.shaped d=true:=by rcases sc with ⟨i,rfl⟩ | ⟨b,rfl⟩ | rfl<;>rfl
   refine ⟨d,d,rx,ry,sd,sd,?_⟩;have e3:PyData.eqv d d=true:=by rcases sc with ⟨i,rfl⟩ | ⟨b,rfl⟩ | rfl<;>simp [PyData.eqv]
   rw [e3];exact k _ (ah.refl _)
  ·have e1:isD "list" (.list ds)=true:=by simp [isD]
   rw [e1];simp only [Rep] at rx ry;obtain ⟨a,xs,rfl,ha,ra⟩:=rx;obtain ⟨b,ys,rfl,hb,rb⟩:=ry;obtain ⟨l1,g1⟩:=fz ra;obtain ⟨l2,g2⟩:=fz rb;apply bX ha ?_;apply bX hb ?_;left;rw [aT (by omega:(xs.length:Int)=ys.length)];apply ⟨a,b,rfl,.inl ⟨⟨_,SqL.of ha⟩,⟨_,SqL.of hb⟩,fun l hn=>?_⟩⟩;refine rQ (fun _=>.bl true) ha hb (by omega) (by omega) hn (fun i x y H' Q' ex ey s1 q=>?_) (fun H' s1 e=>?_)
   ·left;obtain ⟨d,hd,rd⟩:=g1 i x ex;obtain ⟨d',hd',rd'⟩:=g2 i y ey;rw [hd] at hd'
    cases hd';exact ⟨x,y,d,rfl,hS d (List.mem_of_getElem? hd),rd.mono s1,rd'.mono s1,q⟩
   ·left;have e':H' l=some (.lst (((List.range xs.length).map fun _=>true).map V.bl)):=by rw [e,List.map_map]; rfl
    refine p5 e' ?_;have e4:((List.range xs.length).map fun _=>true).all id=true:=by simp
    rw [e4];exact k H' s1
  ·have e1:isD "list" (.tuple ds)=false:=by simp [isD]
   have e2:isD "tuple" (.tuple ds)=true:=by simp [isD]
   rw [e1];apply cO ry.ty (fS _) ?_;rw [e2];simp only [Rep] at rx ry;obtain ⟨a,xs,rfl,ha,ra⟩:=rx;obtain ⟨b,ys,rfl,hb,rb⟩:=ry;obtain ⟨l1,g1⟩:=fz ra;obtain ⟨l2,g2⟩:=fz rb;apply jj ha ?_;apply jj hb ?_;left;rw [aT (by omega:(xs.length:Int)=ys.length)];apply ⟨a,b,rfl,.inr ⟨⟨_,SqT.of ha⟩,⟨_,SqT.of hb⟩,fun l hn=>?_⟩⟩;refine pF (fun _=>.bl true) ha hb (by omega) (by omega) hn (fun i x y H' Q' ex ey s1 q=>?_) (fun H' s1 e=>?_)
   ·left;obtain ⟨d,hd,rd⟩:=g1 i x ex;obtain ⟨d',hd',rd'⟩:=g2 i y ey;rw [hd] at hd'
    cases hd';exact ⟨x,y,d,rfl,hS d (List.mem_of_getElem? hd),rd.mono s1,rd'.mono s1,q⟩
   ·left;have e':H' l=some (.lst (((List.range xs.length).map fun _=>true).map V.bl)):=by rw [e,List.map_map]; rfl
    refine p5 e' ?_;have e4:((List.range xs.length).map fun _=>true).all id=true:=by simp
    rw [e4];exact k H' s1
noncomputable def Ok3:PyData→Prop:=OkS (OkS (OkS fun _=>False))
theorem ok_aC (T:Txt K mg t):a7 P w K mg base CX0 3 t.f_aC t.d_aC ["_law_told","_law_due"] (mS Ok3) :=
 iJ T (iJ T (iJ T ⟨fun vs H Q E h=>(by obtain ⟨_,_,_,_,h,_⟩:=h; exact h.elim),fun A outer s H args us vs Q E _ _ _ _ h=>(by obtain ⟨_,_,_,_,h,_⟩:=h; exact h.elim)⟩))
theorem xm {S:PyData→Prop} (i:Int):OkS S (.int i):=.inl (.inl ⟨i,rfl⟩)
theorem uG {S:PyData→Prop} {ns:List Int} (h:ns.length≤1000):OkS (OkS S) (.list (ns.map PyData.int)) :=
 .inr (.inl ⟨_,rfl,by rw [List.length_map]; exact h,fun e he=>by obtain ⟨i,_,rfl⟩:=List.mem_map.mp he; exact xm i⟩)
end
section
noncomputable def idx (L:List (List (Int×Int))) (q:Int×Int):Nat:=L.findIdx fun C=>decide (q∈C)
theorem iB {L:List (List (Int×Int))} (nd:L.flatten.Nodup) {i:Nat} {C:List (Int×Int)} (hi:L[i]?=some C) {q:Int×Int} (hq:q∈C):idx L q=i:=by
 obtain ⟨hl,rfl⟩:=List.getElem?_eq_some_iff.mp hi;unfold idx;refine (List.findIdx_eq hl).mpr ⟨aT hq,fun j hj=>bA fun z=>?_⟩;have:=(List.pairwise_flatten.mp nd).2
 exact (List.pairwise_iff_getElem.mp this) j i (by omega) hl hj q z q hq rfl
theorem uk {L:List (List (Int×Int))} (nd:L.flatten.Nodup) {C:List (Int×Int)} (hC:C∈L) {p q:Int×Int} (hp:p∈C) (hq:q∈C):idx L p=idx L q:=by
 obtain ⟨i,hi⟩:=List.getElem?_of_mem hC;rw [iB nd hi hp,iB nd hi hq]
variable {cs rs:List Int}
noncomputable def dm (cs rs:List Int) (f:Int×Int→Bool):Prop:=∀ c d,inC cs rs c→d∈bs cs rs c→f c=f d
theorem dm.hor {f:Int×Int→Bool} (h:dm cs rs f) {x y:Int} (hi:inC cs rs (x,y)) (hx:0<x) (hn:¬ (y+cs.getD (x - 1).toNat 0)%2=1):f (x - 1,y)=f (x,y) :=
 (h (x,y) (x - 1,y) hi (iD.mpr (.inl ⟨jx.mpr ⟨hx,hn⟩,rfl⟩))).symm
theorem dm.ver {f:Int×Int→Bool} (h:dm cs rs f) {x y:Int} (hi:inC cs rs (x,y)) (hy:0<y) (hn:¬ (x+rs.getD (y - 1).toNat 0)%2=1):f (x,y - 1)=f (x,y) :=
 (h (x,y) (x,y - 1) hi (iD.mpr (.inr (.inl ⟨jw.mpr ⟨hy,hn⟩,rfl⟩)))).symm
theorem dm.of {f:Int×Int→Bool} (h1:∀ x y:Int,inC cs rs (x,y)→0<x→¬ (y+cs.getD (x - 1).toNat 0)%2=1→f (x - 1,y)=f (x,y)) (h2:∀ x y:Int,inC cs rs (x,y)→0<y→¬ (x+rs.getD (y - 1).toNat 0)%2=1→f (x,y - 1)=f (x,y)):dm cs rs f:=by
 rintro ⟨x,y⟩ d hi hd;have hin:=yD hi hd;rcases iD.mp hd with ⟨z,rfl⟩ | ⟨z,rfl⟩ | ⟨z,rfl⟩ | ⟨z,rfl⟩<;>dsimp only at z hin ⊢
 ·obtain ⟨z1,z2⟩:=jx.mp z; exact (h1 x y hi z1 z2).symm
 ·obtain ⟨z1,z2⟩:=jw.mp z; exact (h2 x y hi z1 z2).symm
 ·obtain ⟨z1,z2⟩:=lO.mp z;have:=h2 x (y+1) hin (by unfold inC at hi; dsimp only at hi; omega) (by rw [Int.add_sub_cancel]; exact z2)
  rw [Int.add_sub_cancel] at this; exact this
 ·obtain ⟨z1,z2⟩:=lN.mp z;have:=h1 (x+1) y hin (by unfold inC at hi; dsimp only at hi; omega) (by rw [Int.add_sub_cancel]; exact z2)
  rw [Int.add_sub_cancel] at this; exact this
theorem dm.walk {f:Int×Int→Bool} (h:dm cs rs f) {a c:Int×Int} {m:Nat} (ha:inC cs rs a) (wk:Bf.Walk (bs cs rs) a c m):f a=f c:=by
 induction wk with
 | here=>rfl
 | on w e ih=>exact ih.trans (h _ _ (rJ ha w) e)
noncomputable def acr (f:Int×Int→Bool) (p q:Int×Int):Bool:=if p.1=q.1 then f (p.1 - 1,min p.2 q.2) ^^ f (p.1,min p.2 q.2) else f (min p.1 q.1,p.2 - 1) ^^ f (min p.1 q.1,p.2)
theorem m8 (f:Int×Int→Bool) (x y:Int):acr f (x,y) (x - 1,y)=(f (x - 1,y - 1) ^^ f (x - 1,y)):=by
 unfold acr;dsimp only;rw [if_neg (by omega),show min x (x - 1)=x - 1 by omega]
theorem ju (f:Int×Int→Bool) (x y:Int):acr f (x,y) (x+1,y)=(f (x,y - 1) ^^ f (x,y)):=by
 unfold acr;dsimp only;rw [if_neg (by omega),show min x (x+1)=x by omega]
theorem m7 (f:Int×Int→Bool) (x y:Int):acr f (x,y) (x,y - 1)=(f (x - 1,y - 1) ^^ f (x,y - 1)):=by
 unfold acr;dsimp only;rw [if_pos rfl,show min y (y - 1)=y - 1 by omega]
theorem jv (f:Int×Int→Bool) (x y:Int):acr f (x,y) (x,y+1)=(f (x - 1,y) ^^ f (x,y)):=by
 unfold acr;dsimp only;rw [if_pos rfl,show min y (y+1)=y by omega]
theorem qG {f:Int×Int→Bool} {p q:Int×Int} (h:q∈nb cs rs p):acr f p q=acr f q p:=by
 obtain ⟨x,y⟩:=p;rcases bV.mp h with ⟨_,rfl⟩ | ⟨_,rfl⟩ | ⟨_,rfl⟩ | ⟨_,rfl⟩<;>dsimp only
 ·rw [m8];have:=ju f (x - 1) y
  rw [Int.sub_add_cancel] at this; exact this.symm
 ·rw [m7];have:=jv f x (y - 1)
  rw [Int.sub_add_cancel] at this; exact this.symm
 ·rw [jv];have:=m7 f x (y+1)
  rw [Int.add_sub_cancel] at this; exact this.symm
 ·rw [ju];have:=m8 f (x+1) y
  rw [Int.add_sub_cancel] at this; exact this.symm
theorem gK {f:Int×Int→Bool} (hf:dm cs rs f) {p q r:Int×Int} (hq:q∈nb cs rs p) (hr:r∈nb cs rs p):acr f p q=acr f p r:=by
  obtain ⟨x,y⟩:=p;have hL:rt cs rs (x - 1) y=true→rt cs rs x y=true→False:=fun a b=>by
    rw [cb] at a b; omega
  have hD:ups cs rs x (y - 1)=true→ups cs rs x y=true→False:=fun a b=>by
    rw [bO] at a b; omega
  -- the four edges at an inner point
  have eR:(rt cs rs (x - 1) y=true)→(ups cs rs x (y - 1)=true∨ups cs rs x y=true)→f (x,y - 1)=f (x,y):=fun a b=>by
    have hx:0<x∧x<(cs.length:Int)+1:=by rcases b with b | b<;>rw [bO] at b<;>omega
    rw [cb] at a;exact hf.ver ⟨⟨by dsimp only; omega,by dsimp only; omega⟩,by dsimp only; omega,by dsimp only; omega⟩ a.1 (by omega)
  have eL:(rt cs rs x y=true)→(ups cs rs x (y - 1)=true∨ups cs rs x y=true)→f (x - 1,y - 1)=f (x - 1,y):=fun a b=>by
    have hx:0<x∧x<(cs.length:Int)+1:=by rcases b with b | b<;>rw [bO] at b<;>omega
    rw [cb] at a;exact hf.ver ⟨⟨by dsimp only; omega,by dsimp only; omega⟩,by dsimp only; omega,by dsimp only; omega⟩ a.1 (by omega)
  have eU:(ups cs rs x (y - 1)=true)→(rt cs rs (x - 1) y=true∨rt cs rs x y=true)→f (x - 1,y)=f (x,y):=fun a b=>by
    have hy:0<y∧y<(rs.length:Int)+1:=by rcases b with b | b<;>rw [cb] at b<;>omega
    rw [bO] at a;exact hf.hor ⟨⟨by dsimp only; omega,by dsimp only; omega⟩,by dsimp only; omega,by dsimp only; omega⟩ a.1 (by omega)
  have eD:(ups cs rs x y=true)→(rt cs rs (x - 1) y=true∨rt cs rs x y=true)→f (x - 1,y - 1)=f (x,y - 1):=fun a b=>by
    have hy:0<y∧y<(rs.length:Int)+1:=by rcases b with b | b<;>rw [cb] at b<;>omega
    rw [bO] at a;exact hf.hor ⟨⟨by dsimp only; omega,by dsimp only; omega⟩,by dsimp only; omega,by dsimp only; omega⟩ a.1 (by omega)
  have hq:=bV.mp hq;have hr:=bV.mp hr;dsimp only at hq hr;rcases hq with ⟨a,rfl⟩ | ⟨a,rfl⟩ | ⟨a,rfl⟩ | ⟨a,rfl⟩<;>rcases hr with ⟨b,rfl⟩ | ⟨b,rfl⟩ | ⟨b,rfl⟩ | ⟨b,rfl⟩ <;>
    first
    | rfl
    | exact (hL a b).elim
    | exact (hL b a).elim
    | exact (hD a b).elim
    | exact (hD b a).elim
    | (simp only [m8,ju,m7,jv]
       generalize f (x,y)=A at eR eL eU eD ⊢;generalize f (x - 1,y)=B at eR eL eU eD ⊢;generalize f (x,y - 1)=C at eR eL eU eD ⊢;generalize f (x - 1,y - 1)=D at eR eL eU eD ⊢
       first
       | (have e1:=eR a (.inl b); have e2:=eU b (.inl a); clear eR eL eU eD; subst e1; subst e2; first | rfl | (revert A B; decide) | (revert A C; decide) | (revert A D; decide) | (revert B C; decide) | (revert B D; decide) | (revert C D; decide))
       | (have e1:=eR a (.inr b); have e2:=eD b (.inl a); clear eR eL eU eD; subst e1; subst e2; first | rfl | (revert A B; decide) | (revert A C; decide) | (revert A D; decide) | (revert B C; decide) | (revert B D; decide) | (revert C D; decide))
       | (have e1:=eL a (.inl b); have e2:=eU b (.inr a); clear eR eL eU eD; subst e1; subst e2; first | rfl | (revert A B; decide) | (revert A C; decide) | (revert A D; decide) | (revert B C; decide) | (revert B D; decide) | (revert C D; decide))
       | (have e1:=eL a (.inr b); have e2:=eD b (.inr a); clear eR eL eU eD; subst e1; subst e2; first | rfl | (revert A B; decide) | (revert A C; decide) | (revert A D; decide) | (revert B C; decide) | (revert B D; decide) | (revert C D; decide))
       | (have e1:=eR b (.inl a); have e2:=eU a (.inl b); clear eR eL eU eD; subst e1; subst e2; first | rfl | (revert A B; decide) | (revert A C; decide) | (revert A D; decide) | (revert B C; decide) | (revert B D; decide) | (revert C D; decide))
       | (have e1:=eR b (.inr a); have e2:=eD a (.inl b); clear eR eL eU eD; subst e1; subst e2; first | rfl | (revert A B; decide) | (revert A C; decide) | (revert A D; decide) | (revert B C; decide) | (revert B D; decide) | (revert C D; decide))
       | (have e1:=eL b (.inl a); have e2:=eU a (.inr b); clear eR eL eU eD; subst e1; subst e2; first | rfl | (revert A B; decide) | (revert A C; decide) | (revert A D; decide) | (revert B C; decide) | (revert B D; decide) | (revert C D; decide))
       | (have e1:=eL b (.inr a); have e2:=eD a (.inr b); clear eR eL eU eD; subst e1; subst e2; first | rfl | (revert A B; decide) | (revert A C; decide) | (revert A D; decide) | (revert B C; decide) | (revert B D; decide) | (revert C D; decide)))
end
section
variable {cs rs:List Int}
theorem wI {M:List Sm1} (al:dF cs rs M) {f g:Int×Int→Bool} (hf:dm cs rs f) (hg:dm cs rs g) (h:∀ e∈M,acr f (e.2.getD 0 (0,0)) (e.2.getD 1 (0,0))=acr g (e.2.getD 0 (0,0)) (e.2.getD 1 (0,0))) {p q:Int×Int} (hi:cz cs rs p) (hq:q∈nb cs rs p):acr f p q=acr g p q:=by
 obtain ⟨e,he,hp⟩:=df.mp (al.cov p hi (List.ne_nil_of_mem hq));have td:=al.some.told e he;have h0:=h e he;have G:=cC cs rs;have l2:=td.len;have bef1:∀ i:Nat,Sm.bef e.2 (i+1)=i:=fun i=>by unfold Sm.bef; rw [if_neg (by omega)]; omega
 have key:∀ i:Nat,∀ a,e.2[i]?=some a→∀ b∈nb cs rs a,acr f a b=acr g a b:=by
  intro i
  induction i with
  | zero =>
   intro a ha b hb;obtain ⟨p',q',hp',hq',st⟩:=td.step G (i:=0+1) (by omega) (.inl (by omega));rw [bef1,ha] at hp'
   cases Option.some.inj hp'
   have e0:e.2.getD 0 (0,0)=a:=by rw [List.getD_eq_getElem?_getD,ha]; rfl
   have e1:e.2.getD 1 (0,0)=q':=by rw [List.getD_eq_getElem?_getD,hq']; rfl
   rw [e0,e1] at h0;exact (gK hf hb st).trans (h0.trans (gK hg st hb))
  | succ i ih =>
   intro a ha b hb;have hl:=(List.getElem?_eq_some_iff.mp ha).1;obtain ⟨p',q',hp',hq',st⟩:=td.step G (i:=i+1) hl (.inl (by omega));rw [bef1] at hp';rw [ha] at hq'
   cases Option.some.inj hq'
   have h1:=ih p' hp' a st;have hb':=G.sym st;have:acr f a p'=acr g a p':=by rw [qG hb',qG (f:=g) hb']; exact h1
   exact (gK hf hb hb').trans (this.trans (gK hg hb' hb))
 obtain ⟨i,hi⟩:=List.getElem?_of_mem hp;exact key i p hi q hq
theorem wy {A B C:Bool} (h:(C ^^ A)=(C ^^ B)):A=B:=by cases A<;>cases B<;>cases C<;>first | rfl | cases h
theorem wN {f g:Int×Int→Bool} (hf:dm cs rs f) (hg:dm cs rs g) (ha:∀ p q,cz cs rs p→q∈nb cs rs p→acr f p q=acr g p q) (h0:f (0,0)=g (0,0)):∀ q,inC cs rs q→f q=g q:=by
 have eh:∀ x y:Int,inC cs rs (x,y)→0<x→f (x - 1,y)=g (x - 1,y)→f (x,y)=g (x,y):=fun x y hi hx h=>by
  by_cases hs:(y+cs.getD (x - 1).toNat 0)%2=1
  ·unfold inC at hi;dsimp only at hi;have hu:ups cs rs x y=true:=bO.mpr ⟨hx,by omega,by omega,by omega,hs⟩;have:=ha (x,y) (x,y+1) ⟨⟨by dsimp only; omega,by dsimp only; omega⟩,by dsimp only; omega,by dsimp only; omega⟩ (bV.mpr (.inr (.inr (.inl ⟨hu,rfl⟩))))
   rw [jv,jv,h] at this;exact wy this
  ·exact (hf.hor hi hx hs).symm.trans (h.trans (hg.hor hi hx hs))
 have ev:∀ x y:Int,inC cs rs (x,y)→0<y→f (x,y - 1)=g (x,y - 1)→f (x,y)=g (x,y):=fun x y hi hy h=>by
  by_cases hs:(x+rs.getD (y - 1).toNat 0)%2=1
  ·unfold inC at hi;dsimp only at hi;have hu:rt cs rs x y=true:=cb.mpr ⟨hy,by omega,by omega,by omega,hs⟩;have:=ha (x,y) (x+1,y) ⟨⟨by dsimp only; omega,by dsimp only; omega⟩,by dsimp only; omega,by dsimp only; omega⟩ (bV.mpr (.inr (.inr (.inr ⟨hu,rfl⟩))))
   rw [ju,ju,h] at this;exact wy this
  ·exact (hf.ver hi hy hs).symm.trans (h.trans (hg.ver hi hy hs))
 have hx:∀ n:Nat,(n:Int)<(cs.length:Int)+1→f ((n:Int),0)=g ((n:Int),0):=by
  intro n
  induction n with
  | zero => intro _; exact h0
  | succ n ih =>
   intro hn;refine eh _ _ ⟨⟨by dsimp only; omega,by dsimp only; omega⟩,by dsimp only; omega,by dsimp only; omega⟩ (by omega) ?_;rw [show ((n+1:Nat):Int) - 1=(n:Int) by omega];exact ih (by omega)
 have hy:∀ n m:Nat,(n:Int)<(cs.length:Int)+1→(m:Int)<(rs.length:Int)+1→f ((n:Int),(m:Int))=g ((n:Int),(m:Int)):=by
  intro n m hn
  induction m with
  | zero => intro _; exact hx n hn
  | succ m ih =>
   intro hm;refine ev _ _ ⟨⟨by dsimp only; omega,by dsimp only; omega⟩,by dsimp only; omega,by dsimp only; omega⟩ (by omega) ?_;rw [show ((m+1:Nat):Int) - 1=(m:Int) by omega];exact ih (by omega)
 rintro ⟨x,y⟩ hi;unfold inC at hi;dsimp only at hi;have:=hy x.toNat y.toNat (by omega) (by omega)
 rw [show ((x.toNat:Nat):Int)=x by omega,show ((y.toNat:Nat):Int)=y by omega] at this;exact this
theorem oH {M:List Sm1} (al:dF cs rs M):(M.map (·.2)).flatten.Nodup:=by
 have:=al.some.nd
 unfold bP at this;exact this
noncomputable def gh (cs:List Int) (B:Int×Int→Bool) (x y:Int):Bool:=decide ((y+cs.getD (x - 1).toNat 0)%2=1)&&B (x,y)
noncomputable def gv (rs:List Int) (B:Int×Int→Bool) (x y:Int):Bool:=decide ((x+rs.getD (y - 1).toNat 0)%2=1)&&B (x,y)
noncomputable def f0 (cs:List Int) (B:Int×Int→Bool) (c:Bool):Nat→Bool
 | 0=>c
 | x+1=>f0 cs B c x ^^ gh cs B ((x+1:Nat):Int) 0
noncomputable def f1 (cs rs:List Int) (B:Int×Int→Bool) (c:Bool) (x:Nat):Nat→Bool
 | 0=>f0 cs B c x
 | y+1=>f1 cs rs B c x y ^^ gv rs B (x:Int) ((y+1:Nat):Int)
noncomputable def ff (cs rs:List Int) (B:Int×Int→Bool) (c:Bool) (q:Int×Int):Bool:=f1 cs rs B c q.1.toNat q.2.toNat
noncomputable def Adj (cs rs:List Int) (B:Int×Int→Bool):Prop:=∀ p q,cz cs rs p→q∈nb cs rs p→B p=B q
theorem qQ {a b:Int} (h:a%2=1↔¬ b%2=1):decide (a%2=1)=!decide (b%2=1):=by
 by_cases c:b%2=1
 ·rw [aT c,bA (fun z=>h.mp z c)]; rfl
 ·rw [bA c,aT (h.mpr c)]; rfl
theorem Bb {B:Int×Int→Bool} (hB:Adj cs rs B) {x y:Int} (hx:0<x∧x<(cs.length:Int)+1) (hy:0<y∧y<(rs.length:Int)+1):(gh cs B x (y - 1) ^^ gv rs B x y)=(gv rs B (x - 1) y ^^ gh cs B x y):=by
 have hP:cz cs rs (x,y):=⟨⟨by dsimp only; omega,by dsimp only; omega⟩,by dsimp only; omega,by dsimp only; omega⟩
 have d:gh cs B x (y - 1)=(decide ((y - 1+cs.getD (x - 1).toNat 0)%2=1)&&B (x,y)):=by
  unfold gh;by_cases c:(y - 1+cs.getD (x - 1).toNat 0)%2=1
  ·rw [hB (x,y) (x,y - 1) hP (bV.mpr (.inr (.inl ⟨bO.mpr ⟨hx.1,hx.2,by omega,by omega,c⟩,rfl⟩)))]
  ·rw [bA c]; rfl
 have l:gv rs B (x - 1) y=(decide ((x - 1+rs.getD (y - 1).toNat 0)%2=1)&&B (x,y)):=by
  unfold gv;by_cases c:(x - 1+rs.getD (y - 1).toNat 0)%2=1
  ·rw [hB (x,y) (x - 1,y) hP (bV.mpr (.inl ⟨cb.mpr ⟨hy.1,hy.2,by omega,by omega,c⟩,rfl⟩))]
  ·rw [bA c]; rfl
 rw [d,l];unfold gh gv;rw [qQ (a:=y - 1+cs.getD (x - 1).toNat 0) (b:=y+cs.getD (x - 1).toNat 0) (by omega),qQ (a:=x - 1+rs.getD (y - 1).toNat 0) (b:=x+rs.getD (y - 1).toNat 0) (by omega)];generalize decide ((y+cs.getD (x - 1).toNat 0)%2=1)=u;generalize decide ((x+rs.getD (y - 1).toNat 0)%2=1)=v;generalize B (x,y)=b
 cases u<;>cases v<;>cases b<;>rfl
theorem Be {B:Int×Int→Bool} (hB:Adj cs rs B) (c:Bool) (x:Nat) (hx:x+1<cs.length+1):∀ y:Nat,y<rs.length+1→f1 cs rs B c (x+1) y=(f1 cs rs B c x y ^^ gh cs B ((x+1:Nat):Int) (y:Int))
 | 0,_=>rfl
 | y+1,hy=>by
  have ih:=Be hB c x hx y (by omega)
  show (f1 cs rs B c (x+1) y ^^ gv rs B ((x+1:Nat):Int) ((y+1:Nat):Int))=((f1 cs rs B c x y ^^ gv rs B (x:Int) ((y+1:Nat):Int)) ^^ gh cs B ((x+1:Nat):Int) ((y+1:Nat):Int))
  have k:=Bb hB (x:=((x+1:Nat):Int)) (y:=((y+1:Nat):Int)) (by omega) (by omega);rw [show ((y+1:Nat):Int) - 1=(y:Int) by omega,show ((x+1:Nat):Int) - 1=(x:Int) by omega] at k;rw [ih,Bool.xor_assoc,Bool.xor_assoc,k]
theorem uc {B:Int×Int→Bool} (hB:Adj cs rs B) (c:Bool) {x y:Int} (hi:inC cs rs (x,y)) (hx:0<x):ff cs rs B c (x,y)=(ff cs rs B c (x - 1,y) ^^ gh cs B x y):=by
 unfold inC at hi;dsimp only at hi;have:=Be hB c (x - 1).toNat (by omega) y.toNat (by omega)
 rw [show (x - 1).toNat+1=x.toNat by omega,show ((x.toNat:Nat):Int)=x by omega,show ((y.toNat:Nat):Int)=y by omega] at this;exact this
theorem ud {B:Int×Int→Bool} (c:Bool) {x y:Int} (hi:inC cs rs (x,y)) (hy:0<y):ff cs rs B c (x,y)=(ff cs rs B c (x,y - 1) ^^ gv rs B x y):=by
 unfold inC at hi;dsimp only at hi
 show f1 cs rs B c x.toNat y.toNat=_
 rw [show y.toNat=(y - 1).toNat+1 by omega]
 show (f1 cs rs B c x.toNat (y - 1).toNat ^^ gv rs B ((x.toNat:Nat):Int) (((y - 1).toNat+1:Nat):Int))=_
 rw [show ((x.toNat:Nat):Int)=x by omega,show (((y - 1).toNat+1:Nat):Int)=y by omega];rfl
theorem wV {B:Int×Int→Bool} (hB:Adj cs rs B) (c:Bool):dm cs rs (ff cs rs B c):=by
 refine dm.of (fun x y hi hx hn=>?_) (fun x y hi hy hn=>?_)
 ·rw [uc hB c hi hx];unfold gh;rw [bA hn,Bool.false_and,Bool.xor_false]
 ·rw [ud c hi hy];unfold gv;rw [bA hn,Bool.false_and,Bool.xor_false]
theorem jo (a b:Bool):(a ^^ (a ^^ b))=b:=by cases a<;>cases b<;>rfl
theorem zH {B:Int×Int→Bool} (hB:Adj cs rs B) (c:Bool) {p q:Int×Int} (hi:cz cs rs p) (hq:q∈nb cs rs p):acr (ff cs rs B c) p q=B p:=by
 have hpq:=hB p q hi hq;obtain ⟨x,y⟩:=p;rcases bV.mp hq with ⟨z,rfl⟩ | ⟨z,rfl⟩ | ⟨z,rfl⟩ | ⟨z,rfl⟩<;>dsimp only at z hpq ⊢
 ·obtain ⟨a1,a2,a3,a4,a5⟩:=cb.mp z;rw [m8,ud c (x:=x - 1) (y:=y) ⟨⟨by dsimp only; omega,by dsimp only; omega⟩,by dsimp only; omega,by dsimp only; omega⟩ a1,jo];unfold gv;rw [aT a5,Bool.true_and,hpq]
 ·obtain ⟨a1,a2,a3,a4,a5⟩:=bO.mp z;rw [m7,uc hB c (x:=x) (y:=y - 1) ⟨⟨by dsimp only; omega,by dsimp only; omega⟩,by dsimp only; omega,by dsimp only; omega⟩ a1,jo];unfold gh;rw [aT a5,Bool.true_and,hpq]
 ·obtain ⟨a1,a2,a3,a4,a5⟩:=bO.mp z;rw [jv,uc hB c (x:=x) (y:=y) ⟨⟨by dsimp only; omega,by dsimp only; omega⟩,by dsimp only; omega,by dsimp only; omega⟩ a1,jo];unfold gh;rw [aT a5,Bool.true_and]
 ·obtain ⟨a1,a2,a3,a4,a5⟩:=cb.mp z;rw [ju,ud c (x:=x) (y:=y) ⟨⟨by dsimp only; omega,by dsimp only; omega⟩,by dsimp only; omega,by dsimp only; omega⟩ a1,jo];unfold gv;rw [aT a5,Bool.true_and]
end
section
theorem zr {cs rs:List Int} {a b:Int×Int} (ha:inC cs rs a) (h:b∈bs cs rs a):a∈bs cs rs b:=by
 obtain ⟨x,y⟩:=a;unfold inC at ha;rw [iD];rcases iD.mp h with ⟨z,rfl⟩ | ⟨z,rfl⟩ | ⟨z,rfl⟩ | ⟨z,rfl⟩<;>dsimp only at z ha ⊢
 ·obtain ⟨z1,z2⟩:=jx.mp z;exact .inr (.inr (.inr ⟨lN.mpr ⟨by omega,z2⟩,by rw [Int.sub_add_cancel]⟩))
 ·obtain ⟨z1,z2⟩:=jw.mp z;exact .inr (.inr (.inl ⟨lO.mpr ⟨by omega,z2⟩,by rw [Int.sub_add_cancel]⟩))
 ·obtain ⟨z1,z2⟩:=lO.mp z;exact .inr (.inl ⟨jw.mpr ⟨by omega,by rw [Int.add_sub_cancel]; exact z2⟩,by rw [Int.add_sub_cancel]⟩)
 ·obtain ⟨z1,z2⟩:=lN.mp z;exact .inl ⟨jx.mpr ⟨by omega,by rw [Int.add_sub_cancel]; exact z2⟩,by rw [Int.add_sub_cancel]⟩
end
section
variable {cs rs:List Int}
noncomputable def inS (M:List Sm1) (j:Nat) (p:Int×Int):Bool:=decide (idx (M.map (·.2)) p=j)
theorem i9 {M:List Sm1} (al:dF cs rs M) (j:Nat):Adj cs rs (inS M j):=fun p q hi hq=>by
 obtain ⟨e,he,hp⟩:=df.mp (al.cov p hi (List.ne_nil_of_mem hq));have hq:=(al.some.told e he).shut (cC cs rs) p hp q hq;unfold inS;rw [uk (L:=M.map (·.2)) (oH al) (List.mem_map.mpr ⟨e,he,rfl⟩) hp hq]
noncomputable def Ls (cs rs:List Int) (M:List Sm1) (j:Nat) (c:Int×Int):Bool:=ff cs rs (inS M j) false c
theorem qC {M:List Sm1} (al:dF cs rs M) (j:Nat):dm cs rs (Ls cs rs M j):=wV (i9 al j) false
noncomputable def cu (u:Nat→Bool):Nat→Bool
 | 0=>false
 | n+1=>cu u n ^^ u n
theorem mY {u:Nat→Bool}:∀ {n:Nat},(∀ j,j<n→u j=false)→cu u n=false
 | 0,_=>rfl
 | n+1,h=>by show (cu u n ^^ u n)=false; rw [mY fun j hj=>h j (by omega),h n (by omega)]; rfl
theorem pe {u:Nat→Bool} {k:Nat}:∀ {n:Nat},k<n→(∀ j,j<n→j≠k→u j=false)→cu u n=u k
 | 0,h,_=>absurd h (Nat.not_lt_zero _)
 | n+1,h,z=>by
  show (cu u n ^^ u n)=u k
  by_cases e:n=k
  ·subst e;rw [mY fun j hj=>z j (by omega) (by omega)]
   cases u n<;>rfl
  ·rw [pe (by omega) fun j hj=>z j (by omega),z n (by omega) e]
   cases u k<;>rfl
theorem pj (u v:Nat→Bool):∀ n:Nat,cu (fun j=>u j ^^ v j) n=(cu u n ^^ cu v n)
 | 0=>rfl
 | n+1=>by
  show (cu (fun j=>u j ^^ v j) n ^^ (u n ^^ v n))=((cu u n ^^ u n) ^^ (cu v n ^^ v n))
  rw [pj u v n]
  cases cu u n<;>cases cu v n<;>cases u n<;>cases v n<;>rfl
theorem jq {u v:Nat→Bool}:∀ {n:Nat},(∀ j,j<n→u j=v j)→cu u n=cu v n
 | 0,_=>rfl
 | n+1,h=>by show (cu u n ^^ u n)=(cu v n ^^ v n); rw [jq fun j hj=>h j (by omega),h n (by omega)]
theorem pf (u:Nat→Bool):∀ n:Nat,cu u n=decide (((List.range n).filter u).length%2=1)
 | 0=>rfl
 | n+1=>by
  show (cu u n ^^ u n)=_
  rw [pf u n,List.range_succ,List.filter_append,List.length_append];generalize ((List.range n).filter u).length=m
  cases h:u n with
  | true =>
   rw [show ([n].filter u).length=1 by simp [h]];rcases Nat.mod_two_eq_zero_or_one m with e | e
   ·rw [e,show (m+1)%2=1 by omega]; rfl
   ·rw [e,show (m+1)%2=0 by omega]; rfl
  | false =>
   rw [show ([n].filter u).length=0 by simp [h],Nat.add_zero]
   cases decide (m%2=1)<;>rfl
theorem m9 (b:Nat→Bool) (f:Nat→Int×Int→Bool) (k:Bool) (p q:Int×Int):∀ n:Nat,acr (fun c=>cu (fun j=>b j&&f j c) n ^^ k) p q=cu (fun j=>b j&&acr (f j) p q) n
 | 0=>by
  show acr (fun _=>false ^^ k) p q=false
  unfold acr
  split<;>cases k<;>rfl
 | n+1=>by
  have ih:=m9 b f k p q n
  show acr (fun c=>(cu (fun j=>b j&&f j c) n ^^ (b n&&f n c)) ^^ k) p q=(cu (fun j=>b j&&acr (f j) p q) n ^^ (b n&&acr (f n) p q))
  rw [← ih];have e4:∀ A B C D k b:Bool,(((A ^^ (b&&B)) ^^ k) ^^ ((C ^^ (b&&D)) ^^ k))=(((A ^^ k) ^^ (C ^^ k)) ^^ (b&&(B ^^ D))):=by decide
  unfold acr
  split
  ·exact e4 ..
  ·exact e4 ..
theorem kJ {M:List Sm1} (al:dF cs rs M) (b:Nat→Bool) (k:Bool):∀ n:Nat,dm cs rs fun c=>cu (fun j=>b j&&Ls cs rs M j c) n ^^ k
 | 0=>fun _ _ _ _=>rfl
 | n+1=>fun c d hc hd=>by
  have h1:(cu (fun j=>b j&&Ls cs rs M j c) n ^^ k)=(cu (fun j=>b j&&Ls cs rs M j d) n ^^ k):=kJ al b k n c d hc hd;have h2:=qC al n c d hc hd
  show ((cu (fun j=>b j&&Ls cs rs M j c) n ^^ (b n&&Ls cs rs M n c)) ^^ k)=((cu (fun j=>b j&&Ls cs rs M j d) n ^^ (b n&&Ls cs rs M n d)) ^^ k)
  rw [h2];generalize cu (fun j=>b j&&Ls cs rs M j c) n=u at h1 ⊢;generalize cu (fun j=>b j&&Ls cs rs M j d) n=v at h1 ⊢
  cases u<;>cases v<;>cases k<;>first | rfl | cases h1
noncomputable def bF (M:List Sm1) (f:Int×Int→Bool) (j:Nat):Bool:=match M[j]? with
 | some e=>acr f (e.2.getD 0 (0,0)) (e.2.getD 1 (0,0))
 | none=>false
theorem kM {M:List Sm1} (al:dF cs rs M) {e:Sm1} (he:e∈M):e.2.getD 0 (0,0)∈e.2∧cz cs rs (e.2.getD 0 (0,0))∧e.2.getD 1 (0,0)∈nb cs rs (e.2.getD 0 (0,0)):=by
 have td:=al.some.told e he;have l2:=td.len;obtain ⟨p,q,h1,h2,h3⟩:=td.step (cC cs rs) (i:=1) (by omega) (.inl (by decide));have h1:e.2[0]?=some p:=h1;rw [List.getD_eq_getElem?_getD,List.getD_eq_getElem?_getD,h1,h2];have hp:=List.mem_of_getElem? h1;exact ⟨hp,j8 td p hp,h3⟩
theorem gL {M:List Sm1} (al:dF cs rs M) {f:Int×Int→Bool} (hf:dm cs rs f):∀ c,inC cs rs c→f c=(cu (fun j=>bF M f j&&Ls cs rs M j c) M.length ^^ f (0,0)):=by
 have hg:=kJ al (bF M f) (f (0,0)) M.length;refine wN hf hg (fun p q hi hq=>wI al hf hg (fun e he=>?_) hi hq) ?_
 ·obtain ⟨j,hj⟩:=List.getElem?_of_mem he;obtain ⟨h1,h2,h3⟩:=kM al he;have ix:idx (M.map (·.2)) (e.2.getD 0 (0,0))=j:=iB (oH al) (by rw [List.getElem?_map,hj]; rfl) h1;rw [m9];have lj:j<M.length:=(List.getElem?_eq_some_iff.mp hj).1;have ea:∀ i,acr (Ls cs rs M i) (e.2.getD 0 (0,0)) (e.2.getD 1 (0,0))=decide (j=i):=fun i=>by
   unfold Ls;rw [zH (i9 al i) false h2 h3];unfold inS;rw [ix]
  rw [pe lj fun i _ ne=>by rw [ea,bA (Ne.symm ne),Bool.and_false],ea,aT rfl,Bool.and_true];unfold bF;rw [hj]
 ·have e0:∀ j,Ls cs rs M j (0,0)=false:=fun j=>rfl
  show f (0,0)=(cu (fun j=>bF M f j&&Ls cs rs M j (0,0)) M.length ^^ f (0,0))
  rw [mY fun j _=>by rw [e0,Bool.and_false]]
  cases f (0,0)<;>rfl
theorem tW {M:List Sm1} (al:dF cs rs M) {f:Int×Int→Bool} (hf:dm cs rs f) {a c:Int×Int} (ha:inC cs rs a) (hc:inC cs rs c) (h:∀ j,j<M.length→Ls cs rs M j a=Ls cs rs M j c):f a=f c:=by
 rw [gL al hf a ha,gL al hf c hc,jq fun j hj=>by rw [h j hj]]
theorem tX {M:List Sm1} (al:dF cs rs M) {f:Int×Int→Bool} (hf:dm cs rs f) (h1:∀ p q,cz cs rs p→q∈nb cs rs p→acr f p q=true) {a c:Int×Int} (ha:inC cs rs a) (hc:inC cs rs c) :
  (f a ^^ f c)=cu (fun j=>Ls cs rs M j a ^^ Ls cs rs M j c) M.length:=by
 have hb:∀ j,j<M.length→bF M f j=true:=fun j hj=>by
  unfold bF;rw [List.getElem?_eq_getElem hj];obtain ⟨_,h2,h3⟩:=kM al (List.getElem_mem hj);exact h1 _ _ h2 h3
 rw [gL al hf a ha,gL al hf c hc,pj,jq (u:=fun j=>bF M f j&&Ls cs rs M j a) (v:=fun j=>Ls cs rs M j a) fun j hj=>by rw [hb j hj]; rfl,jq (u:=fun j=>bF M f j&&Ls cs rs M j c) (v:=fun j=>Ls cs rs M j c) fun j hj=>by rw [hb j hj]; rfl];generalize cu (fun j=>Ls cs rs M j a) M.length=u;generalize cu (fun j=>Ls cs rs M j c) M.length=v
 cases u<;>cases v<;>cases f (0,0)<;>rfl
noncomputable def jD (cs rs:List Int) (M:List Sm1) (a c:Int×Int):List Nat:=(List.range M.length).filter fun j=>Ls cs rs M j a ^^ Ls cs rs M j c
open Classical in
theorem nI {M:List Sm1} (al:dF cs rs M) {a c:Int×Int} (ha:inC cs rs a) (hc:inC cs rs c):jD cs rs M a c=[]↔∃ m,Bf.Walk (bs cs rs) c a m:=by
 have nil:jD cs rs M a c=[]↔∀ j,j<M.length→Ls cs rs M j a=Ls cs rs M j c:=by
  unfold jD;rw [List.filter_eq_nil_iff];refine ⟨fun h j hj=>?_,fun h j hj=>?_⟩
  ·have:=h j (List.mem_range.mpr hj)
   cases h1:Ls cs rs M j a<;>cases h2:Ls cs rs M j c<;>first | rfl | (rw [h1,h2] at this; exact absurd rfl this)
  ·rw [h j (List.mem_range.mp hj)]
   cases Ls cs rs M j c<;>decide
 rw [nil];refine ⟨fun h=>?_,fun ⟨m,wk⟩ j _=>((qC al j).walk hc wk).symm⟩;have hf:dm cs rs fun q=>decide (∃ m,Bf.Walk (bs cs rs) c q m):=fun q d hq hd=>decide_eq_decide.mpr
  ⟨fun ⟨m,wk⟩=>⟨m+1,wk.on hd⟩,fun ⟨m,wk⟩=>⟨m+1,wk.on (zr hq hd)⟩⟩
 have:=tW al hf ha hc h
 have h2:decide (∃ m,Bf.Walk (bs cs rs) c c m)=true:=aT ⟨0,.here⟩;rw [h2] at this;exact of_decide_eq_true this
end
section
variable {cs rs:List Int}
noncomputable def kC (B:Int×Int→Bool) (P:List (Int×Int)):Bool:=P.foldl (fun a p=>a ^^ B p) false
theorem lG (B:Int×Int→Bool) (P:List (Int×Int)) (p:Int×Int):kC B (P++[p])=(kC B P ^^ B p):=by
 unfold kC; rw [List.foldl_append]; rfl
theorem qA (M:List Sm1) (j:Nat) (P:List (Int×Int)):kC (inS M j) P=decide ((P.map fun p=>((idx (M.map (·.2)) p:Nat):Int)).count ((j:Nat):Int)%2=1):=by
  have key:∀ P:List (Int×Int),kC (inS M j) P.reverse=decide ((P.reverse.map fun p=>((idx (M.map (·.2)) p:Nat):Int)).count ((j:Nat):Int)%2=1):=by
    intro P
    induction P with
    | nil=>rfl
    | cons p P ih =>
      rw [List.reverse_cons,lG,ih,List.map_append,List.count_append];generalize (List.map (fun p=>((idx (M.map (·.2)) p:Nat):Int)) P.reverse).count ((j:Nat):Int)=m;unfold inS;by_cases e:idx (M.map (·.2)) p=j
      · rw [aT e,show (List.map (fun p=>((idx (M.map (·.2)) p:Nat):Int)) [p]).count ((j:Nat):Int)=1 by simp [e]]
        rcases Nat.mod_two_eq_zero_or_one m with h | h
        · rw [h,show (m+1)%2=1 by omega]; rfl
        · rw [h,show (m+1)%2=0 by omega]; rfl
      · rw [bA e,show (List.map (fun p=>((idx (M.map (·.2)) p:Nat):Int)) [p]).count ((j:Nat):Int)=0 by
          rw [List.map_cons,List.map_nil,List.count_eq_zero,List.mem_singleton]; omega,Nat.add_zero,Bool.xor_false]
  have:=key P.reverse
  rwa [List.reverse_reverse] at this
theorem two_ends {a b:Int}:∃ lo hi:Int,(if b<a then b else a)=lo∧(if a<b then b else a)=hi∧lo≤hi∧((lo=a∧hi=b)∨(lo=b∧hi=a)):=by
 by_cases h1:b<a
 ·exact ⟨b,a,if_pos h1,if_neg (by omega),by omega,.inr ⟨rfl,rfl⟩⟩
 ·by_cases h2:a<b
  ·exact ⟨a,b,if_neg h1,if_pos h2,by omega,.inl ⟨rfl,rfl⟩⟩
  ·have:a=b:=by omega
   subst this;exact ⟨a,a,if_neg h1,if_neg h2,by omega,.inl ⟨rfl,rfl⟩⟩
theorem oZ {f:Int→Bool} {lo hi a b:Int} (h:(lo=a∧hi=b)∨(lo=b∧hi=a)):(f lo ^^ f hi)=(f a ^^ f b):=by
 rcases h with ⟨rfl,rfl⟩ | ⟨rfl,rfl⟩
 ·rfl
 ·rw [Bool.xor_comm]
theorem x4 (a b c:Bool):((a ^^ b) ^^ (b ^^ c))=(a ^^ c):=by cases a<;>cases b<;>cases c<;>rfl
end
section
variable {P:Program} {w:World} {K:W.Frag} {mg:Str→Option Value} {base:Heap} {t:Ad}
structure CrP (cs rs:List Int) (a c:Int×Int) (P:List (Int×Int)):Prop where
 odd:∀ B,Adj cs rs B→kC B P=(ff cs rs B false a ^^ ff cs rs B false c)
 on:∀ q∈P,cz cs rs q∧nb cs rs q≠[]
theorem CrP.step {cs rs:List Int} {a c d p:Int×Int} {P:List (Int×Int)} (h:CrP cs rs a c P) (hp:cz cs rs p) (hn:nb cs rs p≠[]) (hs:∀ B,Adj cs rs B→ff cs rs B false d=(ff cs rs B false c ^^ B p)):CrP cs rs a d (P++[p]) :=
 ⟨fun B hB=>by rw [lG,h.odd B hB,hs B hB,Bool.xor_assoc],fun q hq=>(List.mem_append.mp hq).elim (h.on q) fun z=>by rw [List.mem_singleton.mp z]; exact ⟨hp,hn⟩⟩
theorem CrP.stay {cs rs:List Int} {a c d:Int×Int} {P:List (Int×Int)} (h:CrP cs rs a c P) (hs:∀ B,Adj cs rs B→ff cs rs B false d=ff cs rs B false c):CrP cs rs a d P :=
 ⟨fun B hB=>by rw [h.odd B hB,hs B hB],h.on⟩
theorem CrP.from {cs rs:List Int} {a b c d:Int×Int} {P:List (Int×Int)} (h:CrP cs rs a c P) (hs:∀ B,Adj cs rs B→(ff cs rs B false a ^^ ff cs rs B false c)=(ff cs rs B false b ^^ ff cs rs B false d)):CrP cs rs b d P :=
 ⟨fun B hB=>by rw [h.odd B hB,hs B hB],h.on⟩
noncomputable def sp_au (C:Addr):Sp:=fun vs H Q _=>∃ (p a b:Addr) (c d:Int×Int) (s:Int) (cs rs:List Int),vs=[.ref p,.ref a,.ref b]∧aK C H p s cs rs∧cs.length≤39∧rs.length≤39∧H a=some (.tup [.int c.1,.int c.2])∧H b=some (.tup [.int d.1,.int d.2])∧inC cs rs c∧inC cs rs d ∧
 ∀ l ys P H',ah H H'→H' l=some (.lst ys)→aP H' ys P→CrP cs rs c d P→P.length≤80→Q (.ref l) H'
theorem ok_au (T:Txt K mg t):a7 P w K mg base CX0 5 t.f_au t.d_au ["cloth","one","other"] (sp_au t.a_ab):=by
 refine T.F_au.ok sc_au (fun vs H Q E h=>?_) (fun cdv A outer s H vs Q E hr h=>?_)
 ·obtain ⟨p,a,b,c,d,s,cs,rs,rfl,_⟩:=h; rfl
 ·obtain ⟨p,a,b,c,d,s,cs,rs,rfl,hc,lc,lr,ha,hb,hic,hid,k⟩:=h;obtain ⟨⟨ic1,ic2⟩,ic3,ic4⟩:=id hic;obtain ⟨⟨id1,id2⟩,id3,id4⟩:=id hid;obtain ⟨dx,a1,b1,e1,e2,e3⟩:=hc.ob;have nm:∀ {w h:Int} {m:Str},NoF m→(cfl s a1 b1 w h).lookup m=none:=fun x=>dZ _ _ _ x;refine aI (aM 3 sc_au.nd (cZ ae)) fun _ _=>aI (c6 PassesOwn.never rfl (iE rfl T.no_ax (aa (ao (qJ rfl) rfl T.no_min (by rfl) (aa (au (aD K rfl) (pv 1) af) (aa (au (aD K rfl) (pv 2) af) ae))) (aa (ao (fN rfl) rfl T.no_max (by rfl) (aa (au (aD K rfl) (pv 1) af) (aa (au (aD K rfl) (pv 2) af) ae))) ae))) (aW (i:=4) sc_au.nd rfl (Or.inl rfl)) (ai (bo (bE (cH (pv 0) T.cl_ab T.m_aa (ok_aa T) (rmo hr) T.b_aa .nil aJ (aa bZ (aa (pv 4) (aa (au (aD K rfl) (pv 1) af) ae))))) (ai (bf (cT PySem.F.plainAttrs_list PySem.F.slot_list_append PySem.F.type_list_append aV (pv 3) (aa (bB (aa (ar aY (pv 4) af) (aa (au (aD K rfl) (pv 1) af) ae))) ae)))) aE))) fun _ _=>aI (c6 PassesOwn.never rfl (iE rfl T.no_ax (aa (ao (qJ rfl) rfl T.no_min (by rfl) (aa (au (aD K rfl) (pv 1) af) (aa (au (aD K rfl) (pv 2) af) ae))) (aa (ao (fN rfl) rfl T.no_max (by rfl) (aa (au (aD K rfl) (pv 1) af) (aa (au (aD K rfl) (pv 2) af) ae))) ae))) (aW (i:=4) sc_au.nd rfl (Or.inl rfl)) (ai (bo (bE (cH (pv 0) T.cl_ab T.m_aa (ok_aa T) (rmo hr) T.b_aa .nil aJ (aa bZ (aa (pv 4) (aa (au (aD K rfl) (pv 2) af) ae))))) (ai (bf (cT PySem.F.plainAttrs_list PySem.F.slot_list_append PySem.F.type_list_append aV (pv 3) (aa (bB (aa (au (aD K rfl) (pv 2) af) (aa (ar aY (pv 4) af) ae))) ae)))) aE))) fun _ _=>dr (aG (pv 3)) fun _ _=>?_;apply nwL fun l H0 sl nl el=>?_;apply mx ?_;apply aN (SqT.of (sl _ _ ha)) (v:=.int c.1) rfl ?_;apply aN (SqT.of (sl _ _ hb)) (v:=.int d.1) rfl ?_;apply aN (SqT.of (sl _ _ ha)) (v:=.int c.1) rfl ?_;apply aN (SqT.of (sl _ _ hb)) (v:=.int d.1) rfl ?_;left;obtain ⟨lo,hi,q1,q2,le,ends⟩:=two_ends (a:=c.1) (b:=d.1);rw [q1,q2];clear q1 q2;have b0:0≤lo:=by rcases ends with z | z<;>omega
  have b1:hi<(cs.length:Int)+1:=by rcases ends with z | z<;>omega
  refine ⟨lo,hi,rfl,⟨by omega,by omega,by omega,by omega⟩,?_⟩;obtain ⟨n,hn⟩:∃ n:Nat,(hi - lo).toNat=n:=⟨_,rfl⟩
  rw [hn];refine cN (fun i σ' H'=>∃ (o4:Option V) (xs:List V) (P:List (Int×Int)),σ'=[some (.ref p),some (.ref a),some (.ref b),some (.ref l),o4]∧ah H H'∧H' l=some (.lst xs)∧aP H' xs P∧P.length≤0+i∧CrP cs rs (lo,c.2) (lo+((i:Nat):Int),c.2) P)
   ⟨none,[],[],rfl,sl,el,aP.nil,Nat.le_refl _,⟨fun B hB=>by rw [show lo+((0:Nat):Int)=lo by omega,Bool.xor_self]; rfl,fun q hq=>nomatch hq⟩⟩ ?_ ?_
  ·rintro i σ' H1 hin ⟨o4,xs,P,rfl,s1,f1,w1,lP,cr⟩;have hc1:=hc.mono s1;have lx:=w1.1;apply aF (s1 _ _ e1) (nm (by decide +kernel)) ?_;apply aN (SqT.of (s1 _ _ ha)) (v:=.int c.2) rfl ?_;apply ⟨p,"col",lo+((i:Nat):Int),c.2,s,cs,rs,cs,rs,rfl,hc1,.inl ⟨rfl,rfl⟩,.inl ⟨rfl,rfl⟩,by omega,by omega,by omega,by omega,?_⟩;have nx:inC cs rs (lo+((i:Nat):Int)+1,c.2):=⟨⟨by dsimp only; omega,by dsimp only; omega⟩,by dsimp only; omega,by dsimp only; omega⟩
   have hx:∀ B,Adj cs rs B→ff cs rs B false (lo+((i:Nat):Int)+1,c.2)=(ff cs rs B false (lo+((i:Nat):Int),c.2) ^^ gh cs B (lo+((i:Nat):Int)+1) c.2):=fun B hB=>by
    have:=uc hB false nx (by omega)
    rwa [Int.add_sub_cancel] at this
   by_cases c2:(c.2+cs.getD (lo+((i:Nat):Int)).toNat 0)%2=1
   ·rw [aT c2];apply bY f1 ?_;apply aN (SqT.of (s1 _ _ ha)) (v:=.int c.2) rfl ?_;apply nwT fun bb H2 sbb nbb ebb=>?_;apply aX (sbb _ _ f1) (aZ (by omega)) ?_;refine ⟨_,_,P++[(lo+((i:Nat):Int)+1,c.2)],rfl,(s1.trans sbb).later nl,ag,((w1.mono sbb).upd (sbb _ _ f1) (by intro ys z; cases z)).snoc (Pt.upd (q:=(lo+((i:Nat):Int)+1,c.2)) ⟨bb,rfl,ebb⟩ (sbb _ _ f1) (by intro ys z; cases z)),by rw [List.length_append,List.length_singleton]; omega,?_⟩;refine CrP.from (cr.step (d:=(lo+((i:Nat):Int)+1,c.2)) (p:=(lo+((i:Nat):Int)+1,c.2)) ⟨⟨by dsimp only; omega,by dsimp only; omega⟩,by dsimp only; omega,by dsimp only; omega⟩ (List.ne_nil_of_mem (bV.mpr (.inr (.inr (.inl ⟨bO.mpr ⟨by omega,by omega,by omega,by omega,by rw [Int.add_sub_cancel]; exact c2⟩,rfl⟩))))) fun B hB=>?_) fun B hB=>by rw [show lo+((i+1:Nat):Int)=lo+((i:Nat):Int)+1 by omega]
    rw [hx B hB];unfold gh;rw [Int.add_sub_cancel,aT c2,Bool.true_and]
   ·rw [bA c2];left;exact ⟨_,xs,P,rfl,s1,f1,w1,by omega,by
     rw [show lo+((i+1:Nat):Int)=lo+((i:Nat):Int)+1 by omega];refine cr.stay fun B hB=>?_;rw [hx B hB];unfold gh;rw [Int.add_sub_cancel,bA c2,Bool.false_and,Bool.xor_false]⟩
  rintro σ' H1 ⟨o4,xs,P,rfl,s1,f1,w1,lP,cr⟩;have en:lo+((n:Nat):Int)=hi:=by omega
  rw [en] at cr;left;have cr1:CrP cs rs c (d.1,c.2) P:=cr.from fun B hB=>oZ (f:=fun x=>ff cs rs B false (x,c.2)) ends
  have sP:ah H H1:=s1;have lP1:P.length≤39:=by omega
  clear cr ends le b0 b1 en lP sl el;obtain ⟨P1,hP1⟩:∃ P1,P1=P:=⟨_,rfl⟩
  rw [← hP1] at cr1;refine mx ?_;apply aN (SqT.of (s1 _ _ ha)) (v:=.int c.2) rfl ?_;apply aN (SqT.of (s1 _ _ hb)) (v:=.int d.2) rfl ?_;apply aN (SqT.of (s1 _ _ ha)) (v:=.int c.2) rfl ?_;apply aN (SqT.of (s1 _ _ hb)) (v:=.int d.2) rfl ?_;left;obtain ⟨lo,hi,q1,q2,le,ends⟩:=two_ends (a:=c.2) (b:=d.2);rw [q1,q2];clear q1 q2;have b0:0≤lo:=by rcases ends with z | z<;>omega
  have b1:hi<(rs.length:Int)+1:=by rcases ends with z | z<;>omega
  refine ⟨lo,hi,rfl,⟨by omega,by omega,by omega,by omega⟩,?_⟩;obtain ⟨n,hn⟩:∃ n:Nat,(hi - lo).toNat=n:=⟨_,rfl⟩
  rw [hn];refine cN (fun i σ' H'=>∃ (o4:Option V) (xs:List V) (P:List (Int×Int)),σ'=[some (.ref p),some (.ref a),some (.ref b),some (.ref l),o4]∧ah H H'∧H' l=some (.lst xs)∧aP H' xs P∧P.length≤39+i∧CrP cs rs (d.1,lo) (d.1,lo+((i:Nat):Int)) (P.drop P1.length)∧P.take P1.length=P1)
   ⟨_,xs,P,rfl,s1,f1,w1,by omega,⟨fun B hB=>by rw [show lo+((0:Nat):Int)=lo by omega,Bool.xor_self,hP1,List.drop_length]; rfl,fun q hq=>by rw [hP1,List.drop_length] at hq; exact nomatch hq⟩,by rw [hP1,List.take_length]⟩ ?_ ?_
  ·rintro i σ' H1 hin ⟨o4,xs,P,rfl,s1,f1,w1,lP,cr⟩;have hc1:=hc.mono s1;have lx:=w1.1;have lt:P1.length≤P.length:=by have:=congrArg List.length cr.2; rw [List.length_take] at this; omega
   apply aF (s1 _ _ e1) (nm (by decide +kernel)) ?_;apply aN (SqT.of (s1 _ _ hb)) (v:=.int d.1) rfl ?_;apply ⟨p,"row",lo+((i:Nat):Int),d.1,s,cs,rs,rs,cs,rfl,hc1,.inr ⟨rfl,rfl⟩,.inr ⟨rfl,rfl⟩,by omega,by omega,by omega,by omega,?_⟩;have nx:inC cs rs (d.1,lo+((i:Nat):Int)+1):=⟨⟨by dsimp only; omega,by dsimp only; omega⟩,by dsimp only; omega,by dsimp only; omega⟩
   have hx:∀ B,Adj cs rs B→ff cs rs B false (d.1,lo+((i:Nat):Int)+1)=(ff cs rs B false (d.1,lo+((i:Nat):Int)) ^^ gv rs B d.1 (lo+((i:Nat):Int)+1)):=fun B hB=>by
    have:=ud (B:=B) false nx (by omega)
    rwa [Int.add_sub_cancel] at this
   by_cases c2:(d.1+rs.getD (lo+((i:Nat):Int)).toNat 0)%2=1
   ·rw [aT c2];apply bY f1 ?_;apply aN (SqT.of (s1 _ _ hb)) (v:=.int d.1) rfl ?_;apply nwT fun bb H2 sbb nbb ebb=>?_;apply aX (sbb _ _ f1) (aZ (by omega)) ?_;refine ⟨_,_,P++[(d.1,lo+((i:Nat):Int)+1)],rfl,(s1.trans sbb).later nl,ag,((w1.mono sbb).upd (sbb _ _ f1) (by intro ys z; cases z)).snoc (Pt.upd (q:=(d.1,lo+((i:Nat):Int)+1)) ⟨bb,rfl,ebb⟩ (sbb _ _ f1) (by intro ys z; cases z)),by rw [List.length_append,List.length_singleton]; omega,?_⟩;refine ⟨?_,by rw [List.take_append_of_le_length lt]; exact cr.2⟩;rw [List.drop_append_of_le_length lt];refine CrP.from (cr.1.step (d:=(d.1,lo+((i:Nat):Int)+1)) (p:=(d.1,lo+((i:Nat):Int)+1)) ⟨⟨by dsimp only; omega,by dsimp only; omega⟩,by dsimp only; omega,by dsimp only; omega⟩ (List.ne_nil_of_mem (bV.mpr (.inr (.inr (.inr ⟨cb.mpr ⟨by omega,by omega,by omega,by omega,by rw [Int.add_sub_cancel]; exact c2⟩,rfl⟩))))) fun B hB=>?_) fun B hB=>by rw [show lo+((i+1:Nat):Int)=lo+((i:Nat):Int)+1 by omega]
    rw [hx B hB];unfold gv;rw [Int.add_sub_cancel,aT c2,Bool.true_and]
   ·rw [bA c2];left;exact ⟨_,xs,P,rfl,s1,f1,w1,by omega,⟨by
     rw [show lo+((i+1:Nat):Int)=lo+((i:Nat):Int)+1 by omega];refine cr.1.stay fun B hB=>?_;rw [hx B hB];unfold gv;rw [Int.add_sub_cancel,bA c2,Bool.false_and,Bool.xor_false],cr.2⟩⟩
  rintro σ' H1 ⟨o4,xs,P,rfl,s1,f1,w1,lP,cr⟩;have en:lo+((n:Nat):Int)=hi:=by omega
  rw [en] at cr;left;have cr2:CrP cs rs (d.1,c.2) d (P.drop P1.length):=cr.1.from fun B hB=>oZ (f:=fun y=>ff cs rs B false (d.1,y)) ends
  have eP:P=P1++P.drop P1.length:=by conv=>lhs; rw [← List.take_append_drop P1.length P,cr.2]
  refine k l xs P H1 s1 f1 w1 ⟨fun B hB=>?_,fun q hq=>?_⟩ (by omega)
  ·rw [eP];have ap:∀ X Y:List (Int×Int),kC B (X++Y)=(kC B X ^^ kC B Y):=fun X Y=>by
    have:∀ (Y:List (Int×Int)) (u:Bool),Y.foldl (fun a p=>a ^^ B p) u=(u ^^ Y.foldl (fun a p=>a ^^ B p) false):=by
     intro Y
     induction Y with
     | nil=>intro u; cases u<;>rfl
     | cons y Y ih=>intro u; rw [List.foldl_cons,List.foldl_cons,ih,ih (false ^^ B y)]; cases u<;>cases B y<;>simp
    unfold kC;rw [List.foldl_append,this]
   rw [ap,cr1.odd B hB,cr2.odd B hB,x4]
  ·rw [eP] at hq;exact (List.mem_append.mp hq).elim (cr1.on q) (cr2.on q)
end
section
theorem sJ {X:Cx} {o e:Expr} {apos cpos:Pos} {to te:TE} (K:W.Frag) (hK:X.K=K) (ho:PE X o to) (he:PE X e te)
  (hbase:attributeBase o "count" X.env (eval o X.env)=eval o X.env:=by rfl)
  (hfew:((backTo cpos (starEach [e] X.env)).all (fun x=>!x.1)&&(backToKw cpos (keywordEach [] X.env)).all (fun x=>x.1.isSome)
   && decide ([e].length+([]:List Keyword).length+(if ([]:List Keyword).isEmpty then 0 else 1)<30))=true:=by rfl)
  (hline:(apos.endLine==cpos.line)=true:=by rfl) (hs:starEach [e] X.env=(false,eval e X.env)::starEach [] X.env:=by rfl) (hplain:(backTo cpos (starEach [] X.env)).any (·.1)=false:=by rfl) :
  PE X (.Call (.Attribute o "count" apos) [e] [] cpos) (tBM K "list" ji to (v7 te yo)):=by
 subst hK;exact cT PySem.F.plainAttrs_list PySem.F.slot_list_count PySem.F.type_list_count sE ho (aa he ae hs) hbase hfew hline hs hplain
end
section
variable {P:Program} {w:World} {K:W.Frag} {mg:Str→Option Value} {base:Heap} {t:Ad}
theorem pK {cs rs:List Int} {e:Sm1} (h:Sm.cy (nb cs rs) e.1 e.2):hd e∈e.2∧nb cs rs (hd e)≠[]:=by
 obtain ⟨a,b,l,z,hb,_⟩:=h.path;unfold hd;rw [z];exact ⟨List.mem_cons_self,fun z=>by rw [List.headD_cons] at z; rw [z] at hb; cases hb⟩
theorem qH {cs rs:List Int} {L:List Sm1} (h:dJ cs rs L):L.Nodup:=by
 have key:∀ (L:List Sm1),(∀ e∈L,e.2≠[])→(bP L).Nodup→L.Nodup:=by
  intro L
  induction L with
  | nil => intro _ _; exact List.nodup_nil
  | cons e L ih =>
   intro hne hn;unfold bP at hn ih;rw [List.flatMap_cons,List.nodup_append] at hn;refine List.nodup_cons.mpr ⟨fun hm=>?_,ih (fun e he=>hne e (List.mem_cons_of_mem _ he)) hn.2.1⟩;obtain ⟨q,hq⟩:=List.exists_mem_of_ne_nil _ (hne e List.mem_cons_self);exact hn.2.2 q hq q (List.mem_flatMap.mpr ⟨e,hm,hq⟩) rfl
 refine key L (fun e he z=>?_) h.nd;have:=(h.told e he).len
 rw [z] at this; simp at this
theorem ng {cs rs:List Int} {L L':List Sm1} (h:dF cs rs L) (h':dF cs rs L') {e:Sm1} (he:e∈L):e∈L':=by
 have td:=h.some.told e he;obtain ⟨m1,m2⟩:=pK td;obtain ⟨e',he',hq⟩:=df.mp (h'.cov _ (j8 td _ m1) m2);obtain ⟨z1,z2⟩:=td.uniq (cC cs rs) (h'.some.told e' he') m1 hq;rw [show e=e' from Prod.ext z1 z2]; exact he'
theorem wK {cs rs:List Int} {L L':List Sm1} (h:dF cs rs L) (h':dF cs rs L'):L=L':=by
 have:=Sm.lZ (c:=fun _=>true) (le:=fun a b=>Ts.ple (hd a) (hd b)) (qH h.some) (qH h'.some) h.srt h'.srt (fun a ha b hb h1 h2=>by
  have e:hd a=hd b:=Sm.u5 h1 h2;have t1:=h.some.told a ha;have t2:=h.some.told b hb;obtain ⟨z1,z2⟩:=t1.uniq (cC cs rs) t2 (pK t1).1 (by rw [e]; exact (pK t2).1);exact Prod.ext z1 z2) fun e _=>⟨ng h h',ng h' h⟩
 rwa [List.filter_eq_self.mpr fun _ _=>rfl,List.filter_eq_self.mpr fun _ _=>rfl] at this
theorem gP {cs rs:List Int}:∀ {L:List Sm1},(∀ e∈L,Sm.cy (nb cs rs) e.1 e.2)→2*L.length≤(bP L).length
 | [],_=>Nat.le_refl _
 | e::L,h=>by
  have a:=(h e List.mem_cons_self).len;have b:=gP (L:=L) fun x hx=>h x (List.mem_cons_of_mem _ hx);unfold bP at b ⊢;rw [List.flatMap_cons,List.length_append,List.length_cons];omega
theorem kO {M:List Sm1} {j:Nat} {e:Sm1} (h:M[j]?=some e):bP (M.take (j+1))=bP (M.take j)++e.2:=by
 rw [List.take_add_one,h];exact cY _ _
theorem nM {M:List Sm1} {j:Nat}:(bP (M.take j)).length≤(bP M).length:=by
 have:bP M=bP (M.take j)++bP (M.drop j):=by
  conv=>lhs; rw [← List.take_append_drop j M]
  unfold bP; rw [List.flatMap_append]
 rw [this,List.length_append]; omega
noncomputable def su (H:Hp):V→V
 | .ref T=>match H T with
  | some (.tup [_, y]) => y
  | _ => .non
 | _=>.non
noncomputable def PwL (H:Hp) (xs:List V) (M:List Sm1):Prop:=xs.length=M.length∧∀ (i:Nat) v e,xs[i]?=some v→M[i]?=some e→∃ l zs,v=.ref l∧H l=some (.lst zs)∧aP H zs e.2
theorem PwL.mono {H H':Hp} {xs:List V} {M:List Sm1} (s:ah H H') (h:PwL H xs M):PwL H' xs M:=⟨h.1,fun i v e a b=>let ⟨l,zs,q1,q2,q3⟩:=h.2 i v e a b; ⟨l,zs,q1,s _ _ q2,q3.mono s⟩⟩
theorem PwS.lines {H:Hp} {lf:Addr} {xs:List V} {M:List Sm1} (h:PwS H lf xs M):PwL H (xs.map (su H)) M:=by
 refine ⟨by rw [List.length_map]; exact h.1,fun i v e a b=>?_⟩;rw [List.getElem?_map] at a;obtain ⟨u,hu,rfl⟩:=Option.map_eq_some_iff.mp a;obtain ⟨T,l,ys,rfl,_,h3,h4,h5⟩:=h.2 i u e hu b;exact ⟨l,ys,by simp only [su,h3],h4,h5⟩
noncomputable def A2 (H:Hp) (d:Addr) (M:List Sm1) (F:List (Int×Int)):Prop:=∃ kvs:List (List Key×V),H d=some (.dT kvs)∧kvs.length≤F.length∧∀ q∈F,bp kvs (ky q)=some (.int ((idx (M.map (·.2)) q:Nat):Int))
noncomputable def sp_aE (C:Addr):Sp:=fun vs H Q _=>∃ (p a b:Addr) (c d:Int×Int) (s:Int) (cs rs:List Int),vs=[.ref p,.ref a,.ref b]∧aK C H p s cs rs∧cs.length≤39∧rs.length≤39∧H a=some (.tup [.int c.1,.int c.2])∧H b=some (.tup [.int d.1,.int d.2])∧inC cs rs c∧inC cs rs d ∧
 ∀ l M H',ah H H'→dF cs rs M→H' l=some (.lst ((jD cs rs M c d).map fun j=>V.int ((j:Nat):Int)))→Q (.ref l) H'
theorem ok_aE (T:Txt K mg t):a7 P w K mg base CX0 12 t.f_aE t.d_aE ["cloth","one","other"] (sp_aE t.a_ab):=by
 refine T.F_aE.ok sc_aE (fun vs H Q E h=>?_) (fun cdv A outer s H vs Q E hr h=>?_)
 ·obtain ⟨p,a,b,c,d,s,cs,rs,rfl,_⟩:=h; rfl
 ·obtain ⟨p,a,b,c,d,s,cs,rs,rfl,hc,lc,lr,ha,hb,hic,hid,k⟩:=h;refine aI (bf (aq (ok_ag T) (rmo hr) rfl T.mg_ag T.F_ag.kp T.b_ag .nil aJ (aa (pv 0) (aa (au (aD K rfl) (pv 1) af) (aa (au (aD K rfl) (pv 1) af) ae))))) fun _ _=>aI (bf (aq (ok_ag T) (rmo hr) rfl T.mg_ag T.F_ag.kp T.b_ag .nil aJ (aa (pv 0) (aa (au (aD K rfl) (pv 2) af) (aa (au (aD K rfl) (pv 2) af) ae))))) fun _ _=>aI (rj (i:=3) sc_aE.nd rfl (Or.inl rfl) (N:=["told"]) (cap:=[none]) rfl ⟨rfl,rfl,rfl,rfl,rfl,rfl⟩ (dR (aq (ok_aB T) (rmo hr) rfl T.mg_aB T.F_aB.kp T.b_aB .nil aJ (aa (pv 0) ae))) (fun _ _ _=>(aW (i:=0) (show (["told"]:List Str).Nodup by decide +kernel) rfl (Or.inl rfl))) (fun _ _ _=>hV) (fun _ _ _=>(au (aD K rfl) (pv 0) af)) (by rfl)) fun _ _=>aI (gw (i:=4) sc_aE.nd rfl (Or.inr rfl) jP) fun _ _=>aI (c6 PassesOwn.never rfl (ri rfl T.no_aV (aa (pv 3) ae)) (gY (n:=2) K rfl rfl (cD (aW (i:=5) sc_aE.nd rfl (Or.inl rfl)) (cD (aW (i:=6) sc_aE.nd rfl (Or.inl rfl)) gZ))) (ai (c6 PassesOwn.never rfl (dR (pv 6)) (aW (i:=7) sc_aE.nd rfl (Or.inl rfl)) (ai (jh (fm hr) (pv 4) (pv 7) (pv 5) rfl))))) fun _ _=>aI (gw (i:=8) sc_aE.nd rfl (Or.inr rfl) (fU (N:=["point","number_at"]) (cap:=[none,some 4]) rfl ⟨rfl,rfl,rfl,rfl,rfl,rfl⟩ (dR (aq (ok_au T) (rmo hr) rfl T.mg_au T.F_au.kp T.b_au .nil aJ (aa (pv 0) (aa (pv 1) (aa (pv 2) ae))))) (fun _ _ _=>(aW (i:=0) (show (["point","number_at"]:List Str).Nodup by decide +kernel) rfl (Or.inl rfl))) (fun _ _ _=>hV) (fun _ _ _=>(rf (fm hr) (pv 1) (pv 0) (fun _ _=>rfl))))) fun _ _=>dr (aG (fU (N:=["number","numbers"]) (cap:=[none,some 8]) rfl ⟨rfl,rfl,rfl,rfl,rfl,rfl⟩ (dk rfl T.no_ax (aa (ao (bW K rfl) rfl T.no_len (by rfl) (aa (pv 3) ae)) ae)) (fun _ _ _=>(aW (i:=0) (show (["number","numbers"]:List Str).Nodup by decide +kernel) rfl (Or.inl rfl))) (fun _ _ _=>(mr (bQ dy (ar bN (sJ K rfl (pv 1) (pv 0)) af) af))) (fun _ _ _=>(pv 0)))) fun _ _=>?_;apply aN (SqT.of ha) (v:=.int c.1) rfl ?_;apply aN (SqT.of ha) (v:=.int c.2) rfl ?_;apply ⟨p,c.1,c.2,s,cs,rs,rfl,hc,hic,?_⟩;apply aN (SqT.of hb) (v:=.int d.1) rfl ?_;apply aN (SqT.of hb) (v:=.int d.2) rfl ?_;apply ⟨p,d.1,d.2,s,cs,rs,rfl,hc,hid,?_⟩;apply ⟨p,s,cs,rs,rfl,hc,lc,lr,fun lf ys M H1 s1 nlf e1 al pw=>?_⟩;have few:=al.some.few lc lr;have two:=gP al.some.told;have lM:M.length≤840:=by omega
  have ly:=pw.1;apply ⟨⟨_,SqL.of e1⟩,fun ll nll=>?_⟩;refine jz (su H1) (SqL.of e1) (by omega) nll (fun v o H' Q' hv s' q=>?_) (fun H2 s2 e2=>?_)
  ·obtain ⟨i,hi⟩:=List.getElem?_of_mem hv;have hiM:i<M.length:=by have:=(List.getElem?_eq_some_iff.mp hi).1; omega
   obtain ⟨T1,l1,zs,rfl,_,h3,_,_⟩:=pw.2 i v _ hi (List.getElem?_eq_getElem hiM);apply aN (SqT.of (s' _ _ h3)) (v:=.ref l1) rfl ?_;have es:su H1 (.ref T1)=.ref l1:=by simp only [su,h3]
   rw [es] at q;exact q H' (ah.refl _)
  have pl:=(pw.lines).mono s2;have s02:=s1.trans s2;generalize ys.map (su H1)=xs at e2 pl;have lx:=pl.1;apply fun dn ndn=>?_;have s3:=ah.new (o:=HO.dT []) ndn;have e3:=ag (H:=H2) (a:=dn) (o:=HO.dT []);generalize upd H2 dn (HO.dT [])=H3 at s3 e3 ⊢;apply ⟨ll,rfl,⟨_,SqL.of (s3 _ _ e2)⟩,?_⟩;refine kP (K:=K) (a:=ll) (xs:=xs) (fun j σ' H'=>∃ (o5 o6 o7:Option V),σ'=[some (.ref p),some (.ref a),some (.ref b),some (.ref ll),some (.ref dn),o5,o6,o7,none]∧ah H2 H'∧A2 H' dn M (bP (M.take j)))
   ⟨none,none,none,rfl,s3,[],e3,Nat.zero_le _,fun q hq=>nomatch hq⟩ (fun i σ' H' _ ⟨_,_,_,_,z,_⟩=>SqL.of (z _ _ e2)) ?_ ?_
  ·rintro j v σ' H4 Tj hv ⟨o5,o6,o7,rfl,s4,no4⟩ nT;have hj:j<M.length:=by have:=(List.getElem?_eq_some_iff.mp hv).1; omega
   obtain ⟨e,he⟩:∃ e,M[j]?=some e:=⟨_,List.getElem?_eq_getElem hj⟩
   obtain ⟨l,zs,rfl,hl,pz⟩:=(pl.mono s4).2 j v e hv he;have sT:=ah.new (o:=HO.tup [V.int (j:Nat),V.ref l]) nT;have eT:=ag (H:=H4) (a:=Tj) (o:=HO.tup [V.int (j:Nat),V.ref l]);obtain ⟨kv4,d4,n4,v4⟩:=no4;have d5:=sT _ _ d4;have hl5:=sT _ _ hl;have pz5:=pz.mono sT;have s5:=s4.trans sT;generalize upd H4 Tj (HO.tup [V.int (j:Nat),V.ref l])=H5 at sT eT d5 hl5 pz5 s5 ⊢;have lz:=pz5.1;have fj:=kO he;have fs:=nM (M:=M) (j:=j+1);rw [fj,List.length_append] at fs;refine fV eT rfl ?_;apply ⟨⟨_,SqL.of hl5⟩,?_⟩;refine fQ (xs:=zs) (fun m σ' H'=>∃ (o7:Option V),σ'=[some (.ref p),some (.ref a),some (.ref b),some (.ref ll),some (.ref dn),some (.int (j:Nat)),some (.ref l),o7,none]∧ah H2 H'∧H' l=some (.lst zs)∧aP H' zs e.2∧A2 H' dn M (bP (M.take j)++e.2.take m))
    ⟨o7,rfl,s5,hl5,pz5,kv4,d5,by rw [List.length_append]; omega,fun q hq=>v4 q (by simpa using hq)⟩ (fun i σ' H' _ ⟨_,_,_,z,_⟩=>SqL.of z) ?_ ?_
   ·rintro m v σ' H6 hv6 ⟨o7,rfl,s6,l6,p6,kv6,d6,n6,v6⟩;have hm:m<e.2.length:=by have:=(List.getElem?_eq_some_iff.mp hv6).1; omega
    obtain ⟨q,hq⟩:∃ q,e.2[m]?=some q:=⟨_,List.getElem?_eq_getElem hm⟩
    obtain ⟨bq,rfl,hbq⟩:=p6.2 m v q hv6 hq;have tk:e.2.take (m+1)=e.2.take m++[q]:=by rw [List.take_add_one,hq]; rfl
    have ltk:(e.2.take m).length≤e.2.length:=by rw [List.length_take]; omega
    rw [List.length_append] at n6;apply ⟨dn,_,rfl,jr.t (k:=ky q) d6 hbq (Nat.lt_of_le_of_lt (show kv6.length≤1681 by omega) (by decide)),?_⟩;have nn:∀ {x:Addr} {ys:List V},H6 x=some (.lst ys)→x≠dn:=fun h=>cm h d6 (fun z=>nomatch z);refine ⟨_,rfl,s6.later ndn,by rw [aj (nn l6)]; exact l6,p6.upd d6 (by intro ys z; cases z),_,ag,?_,fun q' hq'=>?_⟩
    ·have:=cP kv6 (ky q) (V.int (j:Nat))
     rw [tk,List.length_append,List.length_append,List.length_singleton]; omega
    ·rw [fK];by_cases z:ky q'=ky q
     ·rw [if_pos z,jL z,iB (oH al) (by rw [List.getElem?_map,he]; rfl) (List.mem_of_getElem? hq)]
     ·rw [if_neg z];refine v6 q' ?_;rw [tk,← List.append_assoc] at hq';rcases List.mem_append.mp hq' with y | y
      ·exact y
      ·exact absurd (congrArg ky (List.mem_singleton.mp y)) z
   ·rintro σ' H6 ⟨o7,rfl,s6,l6,p6,kv6,d6,n6,v6⟩;rw [lz,List.take_length,← fj] at n6 v6;exact ⟨_,_,_,rfl,s6,kv6,d6,n6,v6⟩
  rintro σ' H4 ⟨o5,o6,o7,rfl,s4,kv4,d4,n4,v4⟩;rw [lx,List.take_length] at v4;have s04:=s02.trans s4;apply ⟨p,a,b,c,d,s,cs,rs,rfl,hc.mono s04,lc,lr,s04 _ _ ha,s04 _ _ hb,hic,hid,fun lp zs Pc H5 s5 e5 pp cr lPc=>?_⟩;have d5:=s5 _ _ d4;have lzz:=pp.1;apply ⟨⟨_,SqL.of e5⟩,fun ln nln=>?_⟩;refine nA ((Pc.map fun q=>((idx (M.map (·.2)) q:Nat):Int)).map V.int) (by rw [List.length_map,List.length_map]; exact lzz.symm) (SqL.of e5) (by omega) nln (fun i x v o H' Q' hx hy s' q=>?_) (fun H6 s6 e6=>?_)
  ·rw [List.map_map,List.getElem?_map] at hy;obtain ⟨qq,hqq,rfl⟩:=Option.map_eq_some_iff.mp hy;obtain ⟨bq,rfl,hbq⟩:=pp.2 i x qq hx hqq;obtain ⟨on1,on2⟩:=cr.on qq (List.mem_of_getElem? hqq);apply oy (k:=ky qq) (s' _ _ d5) (s' _ _ hbq) (v4 qq (al.cov qq on1 on2)) ?_;exact q H' (ah.refl _)
  apply bX ((s4.trans (s5.trans s6)) _ _ e2) ?_;rw [lx];apply ⟨_,rfl,by omega,by omega,fun lr' nlr=>?_⟩;rw [Int.toNat_natCast];refine lU (fun j=>Ls cs rs M j c ^^ Ls cs rs M j d) (fun j v H'=>v=.int ((j:Nat):Int)) (by omega) nlr (fun i v H1 H2 _ h=>h) (fun i o H' Q' hi s' q=>?_) (fun i o H' Q' hi _ s' _ q=>?_) (fun ys H7 s7 e7 ly hR=>?_)
  ·apply bY (s' _ _ e6) ?_;apply sO (s' _ _ e6) ?_;apply b6 (by decide) ?_;left;have:=cr.odd (inS M i) (i9 al i)
   rw [qA] at this;rw [Int.zero_add];generalize (Pc.map fun q=>((idx (M.map (·.2)) q:Nat):Int)).count ((i:Nat):Int)=ct at this ⊢;rw [show decide (((ct:Nat):Int)%2=1)=decide (ct%2=1) from decide_eq_decide.mpr (by omega),this];exact q _ (ah.refl _)
  ·left;rw [Int.zero_add];exact q _ _ (ah.refl _) rfl
  ·refine k lr' M H7 (s04.trans (s5.trans (s6.trans s7))) al (e7.trans ?_)
   congr 2
   refine List.ext_getElem? fun j=>?_;unfold jD;rw [List.getElem?_map]
   cases hy:ys[j]? with
   | none =>
    rw [List.getElem?_eq_none (by rw [← ly]; exact List.getElem?_eq_none_iff.mp hy)]; rfl
   | some v =>
    obtain ⟨m,hm,rfl⟩:=hR j v hy;rw [hm]; rfl
theorem zm {H:Hp} {ys:List V} {M:List (Int×Int)} (py:aP H ys M) {i:Nat} (hi:i<M.length) {q:Int×Int} (hq:M[Sm.bef M i]?=some q):∃ v,atI ys ((i:Int) - 1)=some v∧Pt H v q:=by
 by_cases hz:i=0
 ·subst hz;obtain ⟨m,e⟩:∃ m,M=m++[q]:=by
   unfold Sm.bef at hq;rw [if_pos rfl] at hq;rw [← List.getLast?_eq_getElem?] at hq;exact List.getLast?_eq_some_iff.mp hq
  rw [e] at py;exact hZ py
 ·unfold Sm.bef at hq;rw [if_neg hz] at hq;have hl:i - 1<ys.length:=by rw [py.1]; omega
  refine ⟨_,?_,py.2 (i - 1) _ q (List.getElem?_eq_getElem hl) hq⟩;rw [show (i:Int) - 1=((i - 1:Nat):Int) by omega];exact dj (List.getElem?_eq_getElem hl)
theorem i4 {P:Program} {w:World} {H H':Hp} {d:Addr} {kvs:List (K2×V)} (h:eC P w H d kvs) (s:ah H H'):eC P w H' d kvs:=by
 rcases h with ⟨a,b⟩ | ⟨xs,a,b,c⟩
 ·exact .inl ⟨a,s _ _ b⟩
 ·exact .inr ⟨xs,s _ _ a,b.keeps fun x ys e=>s _ _ e,c⟩
theorem Bd {P:Program} {w:World} {H:Hp} {d:Addr} {kvs:List (K2×V)} (h:eC P w H d kvs):(∀ {x:Addr} {ys:List V},H x=some (.lst ys)→x≠d)∧∀ {x:Addr} {ys:List V},H x=some (.tup ys)→x≠d:=by
 have:∃ o,H d=some o∧(∀ ys,o≠.lst ys)∧∀ ys,o≠.tup ys:=by
  rcases h with ⟨_,b⟩ | ⟨xs,a,_⟩
  ·exact ⟨_,b,fun ys z=>(by cases z),fun ys z=>(by cases z)⟩
  ·exact ⟨_,a,fun ys z=>(by cases z),fun ys z=>(by cases z)⟩
 obtain ⟨o,h1,h2,h3⟩:=this;exact ⟨fun {x ys} e z=>by subst z; rw [h1] at e; exact h2 ys (Option.some.inj e),fun {x ys} e z=>by subst z; rw [h1] at e; exact h3 ys (Option.some.inj e)⟩
noncomputable def KnR (cs rs:List Int) (M:List Sm1) (kvs:List (K2×V)):Prop:=∀ p q v,bp kvs [ky p,ky q]=some v→q∈nb cs rs p∧v=.int ((idx (M.map (·.2)) p:Nat):Int)
noncomputable def KnD (e:Sm1) (m:Nat) (kvs:List (K2×V)):Prop:=∀ (i:Nat) p q,i<m→(i≠0∨e.1=true)→e.2[Sm.bef e.2 i]?=some p→e.2[i]?=some q→(bp kvs [ky (mnP p q),ky (mxP p q)]).isSome=true
theorem uv {kvs:List (K2×V)} {k:K2} {v:V} {k':K2} (h:(bp kvs k').isSome=true):(bp (b9 kvs k v) k').isSome=true:=by
 rw [fK]; split
 ·rfl
 ·exact h
theorem KnD.put {e:Sm1} {m:Nat} {kvs:List (K2×V)} {k:K2} {v:V} (h:KnD e m kvs):KnD e m (b9 kvs k v):=fun i p q a b c d=>uv (h i p q a b c d)
theorem xc {p q p' q':Int×Int} (h:([ky p,ky q]:K2)=[ky p',ky q']):p=p'∧q=q':=by
 simp only [List.cons.injEq,and_true] at h;exact ⟨jL h.1,jL h.2⟩
theorem Bi {p q:Int×Int}:(mnP p q=p∧mxP p q=q)∨(mnP p q=q∧mxP p q=p):=by
 by_cases h:Ts.ple p q
 ·exact .inl ⟨xj h,zY h⟩
 ·have:Ts.ple q p:=by unfold Ts.ple at h ⊢; omega
  exact .inr ⟨zX this,xk this⟩
theorem KnR.put {cs rs:List Int} {M:List Sm1} (al:dF cs rs M) {kvs:List (K2×V)} (h:KnR cs rs M kvs) {j:Nat} {e:Sm1} (he:M[j]?=some e) {p q:Int×Int} (hp:p∈e.2) (hq:q∈nb cs rs p):KnR cs rs M (b9 kvs [ky (mnP p q),ky (mxP p q)] (.int ((j:Nat):Int))):=fun p' q' v hv=>by
 rw [fK] at hv;by_cases z:([ky p',ky q']:K2)=[ky (mnP p q),ky (mxP p q)]
 ·rw [if_pos z] at hv;obtain ⟨rfl,rfl⟩:=xc z
  cases hv;have hq2:=(al.some.told e (List.mem_of_getElem? he)).shut (cC cs rs) p hp q hq;have ix:∀ r∈e.2,idx (M.map (·.2)) r=j:=fun r hr=>iB (oH al) (by rw [List.getElem?_map,he]; rfl) hr;rcases Bi (p:=p) (q:=q) with ⟨a,b⟩ | ⟨a,b⟩
  ·rw [a,b,ix p hp]; exact ⟨hq,rfl⟩
  ·rw [a,b,ix q hq2]; exact ⟨(cC cs rs).sym hq,rfl⟩
 ·rw [if_neg z] at hv;exact h p' q' v hv
structure A1 (cs rs:List Int) (M:List Sm1) (kvs:List (K2×V)):Prop where
 yes:∀ p q,cz cs rs p→q∈nb cs rs p→Ts.ple p q→bp kvs [ky p,ky q]=some (.int ((idx (M.map (·.2)) p:Nat):Int))
 no:∀ p q,q∉nb cs rs p→bp kvs [ky p,ky q]=none
theorem KnR.all {cs rs:List Int} {M:List Sm1} (al:dF cs rs M) {kvs:List (K2×V)} (h:KnR cs rs M kvs) (hd:∀ e∈M,KnD e e.2.length kvs):A1 cs rs M kvs:=by
 refine ⟨fun p q hi hq le=>?_,fun p q hq=>?_⟩
 ·obtain ⟨e,he,hp⟩:=df.mp (al.cov p hi (List.ne_nil_of_mem hq));have td:=al.some.told e he;obtain ⟨i,hl,h0,hh⟩:=td.near (cC cs rs) hp hq
  have so:(bp kvs [ky p,ky q]).isSome=true:=by
   rcases hh with ⟨a,b⟩ | ⟨a,b⟩
   ·have:=hd e he i p q hl h0 a b
    rwa [xj le,zY le] at this
   ·have:=hd e he i q p hl h0 a b
    rwa [zX le,xk le] at this
  obtain ⟨v,hv⟩:=Option.isSome_iff_exists.mp so;rw [hv,(h p q v hv).2]
 ·cases hv:bp kvs [ky p,ky q] with
  | none => rfl
  | some v => exact absurd (h p q v hv).1 hq
noncomputable def sp_aq (P:Program) (w:World) (C:Addr):Sp:=fun vs H Q _=>∃ (p:Addr) (s:Int) (cs rs:List Int),vs=[.ref p]∧aK C H p s cs rs∧cs.length≤39∧rs.length≤39 ∧
 ∀ d kvs M H',ah H H'→dF cs rs M→eC P w H' d kvs→A1 cs rs M kvs→Q (.ref d) H'
theorem ok_aq (T:Txt K mg t):a7 P w K mg base CX0 11 t.f_aq t.d_aq ["_law_cloth"] (sp_aq P w t.a_ab):=by
 refine T.F_aq.ok sc_aq (fun vs H Q E h=>?_) (fun cdv A outer s H vs Q E hr h=>?_)
 ·obtain ⟨p,s,cs,rs,rfl,_⟩:=h; rfl
 ·obtain ⟨p,s,cs,rs,rfl,hc,lc,lr,k⟩:=h;refine aI (aM 1 sc_aq.nd jP) fun _ _=>aI (c6 PassesOwn.never rfl (ri rfl T.no_aV (aa (aq (ok_aB T) (rmo hr) rfl T.mg_aB T.F_aB.kp T.b_aB .nil aJ (aa (pv 0) ae)) ae)) (gY (n:=2) K rfl rfl (cD (aW (i:=2) sc_aq.nd rfl (Or.inl rfl)) (cD (gY (n:=2) K rfl rfl (cD (aW (i:=3) sc_aq.nd rfl (Or.inl rfl)) (cD (aW (i:=4) sc_aq.nd rfl (Or.inl rfl)) gZ))) gZ))) (ai (c6 PassesOwn.never rfl (iE rfl T.no_ax (aa (ar cq af (eM zw rfl T.no_int (by rfl) (aa (pv 3) ae))) (aa (ao (bW K rfl) rfl T.no_len (by rfl) (aa (pv 4) ae)) ae))) (aW (i:=5) sc_aq.nd rfl (Or.inl rfl)) (ai (u7 rfl rfl (l9 hr) (pv 1) (bB (aa (ao (tS rfl hr.units) rfl T.no_min (by rfl) (aa (au (aA K rfl) (pv 4) (ar cq (pv 5) af)) (aa (au (aA K rfl) (pv 4) (pv 5)) ae))) (aa (ao (tR rfl hr.units) rfl T.no_max (by rfl) (aa (au (aA K rfl) (pv 4) (ar cq (pv 5) af)) (aa (au (aA K rfl) (pv 4) (pv 5)) ae))) ae))) (pv 2) rfl))))) fun _ _=>dr (aG (pv 1)) fun _ _=>?_;apply fun dn ndn=>?_;have s0:=ah.new (o:=HO.dT []) ndn;have e0:=ag (H:=H) (a:=dn) (o:=HO.dT []);generalize upd H dn (HO.dT [])=H0 at s0 e0 ⊢;apply ⟨p,s,cs,rs,rfl,hc.mono s0,lc,lr,fun lf ys M H1 s1 nlf e1 al pw=>?_⟩;have few:=al.some.few lc lr;have two:=gP al.some.told;have lM:M.length≤840:=by omega
  have ly:=pw.1;apply ⟨lf,rfl,⟨_,SqL.of e1⟩,?_⟩;refine kP (K:=K) (a:=lf) (xs:=ys) (fun j σ' H'=>∃ (o2 o3 o4 o5:Option V) (kvs:List (K2×V)),σ'=[some (.ref p),some (.ref dn),o2,o3,o4,o5]∧ah H H'∧H' lf=some (.lst ys)∧PwS H' lf ys M∧eC P w H' dn kvs∧kvs.length≤(bP (M.take j)).length∧KnR cs rs M kvs∧∀ e∈M.take j,KnD e e.2.length kvs)
   ⟨none,none,none,none,[],rfl,s0.trans s1,e1,pw,.inl ⟨rfl,s1 _ _ e0⟩,Nat.zero_le _,(fun p q v hv=>nomatch hv),(fun e he=>nomatch he)⟩ (fun i σ' H' _ ⟨_,_,_,_,_,_,_,z,_⟩=>SqL.of z) ?_ ?_
  ·rintro j v σ' H4 Tj hv ⟨o2,o3,o4,o5,kv4,rfl,s4,e4,pw4,d4,n4,kr4,kd4⟩ nT;have hj:j<M.length:=by have:=(List.getElem?_eq_some_iff.mp hv).1; omega
   obtain ⟨e,he⟩:∃ e,M[j]?=some e:=⟨_,List.getElem?_eq_getElem hj⟩
   obtain ⟨T1,l,zs,rfl,nl,hT1,hl,pz⟩:=pw4.2 j v e hv he;have td:=al.some.told e (List.mem_of_getElem? he);have sT:=ah.new (o:=HO.tup [V.int (j:Nat),V.ref T1]) nT;have eT:=ag (H:=H4) (a:=Tj) (o:=HO.tup [V.int (j:Nat),V.ref T1]);have d5:=i4 d4 sT;have hT5:=sT _ _ hT1;have hl5:=sT _ _ hl;have pz5:=pz.mono sT;have e5:=sT _ _ e4;have pw5:=pw4.mono sT;have s5:=s4.trans sT;generalize upd H4 Tj (HO.tup [V.int (j:Nat),V.ref T1])=H5 at sT eT d5 hT5 hl5 pz5 e5 pw5 s5 ⊢;have lz:=pz5.1;have fj:=kO he;have fs:=nM (M:=M) (j:=j+1);rw [fj,List.length_append] at fs;refine fV eT rfl ?_;apply fV hT5 rfl ?_;apply mx ?_;apply bX hl5 ?_;left;obtain ⟨lo,hlo,flo⟩:∃ lo:Nat,(1 - (if e.1=true then (1:Int) else 0))=(lo:Int)∧((lo=0∧e.1=true)∨(lo=1∧e.1=false)):=by
    cases e.1
    ·exact ⟨1,rfl,.inr ⟨rfl,rfl⟩⟩
    ·exact ⟨0,rfl,.inl ⟨rfl,rfl⟩⟩
   rw [hlo];have l2:=td.len;have lo1:lo≤1:=by rcases flo with z | z<;>omega
   refine ⟨_,_,rfl,⟨by omega,by omega,by omega,by omega⟩,?_⟩;rw [show (((zs.length:Nat):Int) - ((lo:Nat):Int)).toNat=zs.length - lo by omega];refine cN (fun m σ' H'=>∃ (o5:Option V) (kvs:List (K2×V)),σ'=[some (.ref p),some (.ref dn),some (.int (j:Nat)),some (.bl e.1),some (.ref l),o5]∧ah H H'∧H' lf=some (.lst ys)∧PwS H' lf ys M∧H' l=some (.lst zs)∧aP H' zs e.2∧eC P w H' dn kvs∧kvs.length≤(bP (M.take j)).length+m∧KnR cs rs M kvs∧(∀ e∈M.take j,KnD e e.2.length kvs)∧KnD e (lo+m) kvs)
    ⟨o5,kv4,rfl,s5,e5,pw5,hl5,pz5,d5,n4,kr4,kd4,fun i p q a b=>by exfalso; rcases flo with ⟨z,_⟩ | ⟨z,y⟩<;>rcases b with b | b<;>first | omega | (rw [y] at b; cases b)⟩ ?_ ?_
   ·rintro m σ' H6 hm ⟨o5,kv6,rfl,s6,e6,pw6,l6,p6,d6,n6,kr6,kd6,ke6⟩;obtain ⟨i,hi,ei⟩:∃ i:Nat,lo+m=i∧((lo:Nat):Int)+((m:Nat):Int)=((i:Nat):Int):=⟨lo+m,rfl,by omega⟩
    rw [ei];have il:i<e.2.length:=by omega
    have h0:i≠0∨e.1=true:=by rcases flo with ⟨_,y⟩ | ⟨z,_⟩; exact .inr y; exact .inl (by omega)
    obtain ⟨pp,qq,h1,h2,h3⟩:=td.step (cC cs rs) il h0;obtain ⟨v1,a1,pt1⟩:=zm p6 il h1;obtain ⟨v2,a2⟩:∃ v,zs[i]?=some v:=⟨_,List.getElem?_eq_getElem (by omega)⟩
    have pt2:=p6.2 i v2 qq a2 h2;have hpp:pp∈e.2:=List.mem_of_getElem? h1;apply aR (SqL.of l6) a1 ?_;apply aR (SqL.of l6) (dj a2) ?_;apply vJ pt1 pt2 fun u1 hu1=>?_;apply aR (SqL.of l6) a1 ?_;apply aR (SqL.of l6) (dj a2) ?_;apply vJ pt1 pt2 fun u2 hu2=>?_;obtain ⟨b1,rfl,hb1⟩:=hu1;obtain ⟨b2,rfl,hb2⟩:=hu2;apply nwT fun tk H7 stk ntk etk=>?_;have d7:=i4 d6 stk;obtain ⟨nl7,nt7⟩:=Bd d7;refine ⟨dn,tk,ky (mnP pp qq),ky (mxP pp qq),kv6,rfl,rfl,d7,⟨b1,b2,etk,stk _ _ hb1,stk _ _ hb2⟩,Nat.lt_of_le_of_lt (show kv6.length≤1681 by omega) (by decide),fun H8 hc8 d8=>?_⟩;have kl:∀ {c:Addr} {us:List V},H6 c=some (.lst us)→H8 c=some (.lst us):=fun h=>(hc8 _ (nl7 (stk _ _ h))).trans (stk _ _ h);have kt:∀ {c:Addr} {us:List V},H6 c=some (.tup us)→H8 c=some (.tup us):=fun h=>(hc8 _ (nt7 (stk _ _ h))).trans (stk _ _ h);have kp:∀ {us:List V} {qs:List (Int×Int)},aP H6 us qs→aP H8 us qs:=fun h=>⟨h.1,fun i v q x y=>let ⟨b,r1,r2⟩:=h.2 i v q x y; ⟨b,r1,kt r2⟩⟩
    refine ⟨_,_,rfl,fun b o eb=>(hc8 b (bM eb ndn)).trans (stk _ _ (s6 _ _ eb)),kl e6,⟨pw6.1,fun i v e x y=>let ⟨T,l,us,r1,r2,r3,r4,r5⟩:=pw6.2 i v e x y; ⟨T,l,us,r1,r2,kt r3,kl r4,kp r5⟩⟩,kl l6,kp p6,d8,?_,kr6.put al he hpp h3,fun e' he'=>(kd6 e' he').put,fun i' p q x y z z'=>?_⟩
    ·have:=cP kv6 [ky (mnP pp qq),ky (mxP pp qq)] (V.int (j:Nat))
     omega
    ·by_cases ii:i'<lo+m
     ·exact uv (ke6 i' p q ii y z z')
     ·have:i'=i:=by omega
      subst this;rw [h1] at z;rw [h2] at z'
      cases z
      cases z';rw [fK,if_pos rfl]; rfl
   ·rintro σ' H6 ⟨o5,kv6,rfl,s6,e6,pw6,l6,p6,d6,n6,kr6,kd6,ke6⟩;refine ⟨_,_,_,_,kv6,rfl,s6,e6,pw6,d6,by rw [fj,List.length_append]; omega,kr6,fun e' he'=>?_⟩;rw [List.take_add_one,he] at he';rcases List.mem_append.mp he' with z | z
    ·exact kd6 e' z
    ·have:e'=e:=by simpa using z
     rw [this,show e.2.length=lo+(zs.length - lo) by omega];exact ke6
  ·rintro σ' H4 ⟨o2,o3,o4,o5,kv4,rfl,s4,e4,pw4,d4,n4,kr4,kd4⟩;rw [ly,List.take_length] at kd4;left;exact k dn kv4 M H4 s4 al d4 (kr4.all al kd4)
end
section
noncomputable def wa (P:Program) (w:World) (td ty:TE):TE:=fun σ H Q=>td σ H fun x H1=>ty σ H1 fun y H2=>∃ a kvs F k v,x=.ref a∧wD P w a kvs F∧H2 a=some F∧y=kV k∧bp kvs k=some v∧Q v H2
theorem sL {X:Cx} {o i:Expr} {pos:Pos} {td ty:TE} (P:Program) (w:World) (hP:X.prog=P) (hw:X.w=w) (ho:PE X o td) (hi:PE X i ty) (hs:wG i):PE X (.Subscript o i pos) (wa P w td ty):=by
 subst hP hw;intro pins s σ H Q I h;refine mX PySem.F.slot_dict_getitem.lookup hs (thn (ho pins s σ H _ I h) fun u s1 ⟨x,H1,I1,rx,q1⟩=>thn (hi pins s1 σ H1 _ I1 q1) fun iv s2 ⟨y,H2,I2,ry,a,kvs,F,k,v,ex,hF,hd,ey,hv,q2⟩=>?_);subst ex ey;obtain rfl:u=Value.ref a:=rx
 obtain ⟨vs,ep,rfl⟩:=hF;obtain ⟨⟨z,lo,rel,at'⟩,_,_⟩:=(show bg X.prog X.w H2 s2.heap a (.ext (wC X.prog X.w a kvs vs ep)) from I2.hok a _ hd)
 have dd:=at'.dictOf;obtain ⟨w',hw,rw'⟩:=dW.some_of (v:=v) (o:=valueAt vs k) (by rw [← hv]; exact rel.val k);exact ⟨dd.typeIs,wpAny_getItem_of (jI ry) dd.mapOf hw ⟨v,H2,I2.tok _,rw',q2⟩⟩
theorem vn {P:Program} {w:World} {td ty:TE} {σ:L2.St} {H:Hp} {Q:VK} (h:td σ H fun x H1=>ty σ H1 fun y H2=>∃ a kvs F k v,x=.ref a∧wD P w a kvs F∧H2 a=some F∧y=kV k∧bp kvs k=some v∧Q v H2):wa P w td ty σ H Q:=h
theorem nz {σ:L2.St} {H:Hp} {Q:VK} {te:TE} {tt:TT} {cap:List (Option Nat)} {l d:Addr} {F:HO} {kvs:List (Key×V)} (p:Key→Bool) (hF:H d=some F) (hz:kvs.length≤5000) (hl:H l=none)
    (test:∀ (i:Nat) k v o H' (Q':Bool→Hp→Prop),kvs[i]?=some (k,v)→ah H H'→(∀ H5,ah H' H5→Q' (p k) H5)→tt (((dY (none::cap) σ).set 0 o).set 0 (some (kV k))) H' Q')
    (step:∀ (i:Nat) k v o H' (Q':VK),kvs[i]?=some (k,v)→p k=true→ah H H'→(∀ H5,ah H' H5→Q' (kV k) H5)→te (((dY (none::cap) σ).set 0 o).set 0 (some (kV k))) H' Q')
    (fin:∀ H',ah H H'→H' l=some (.lst ((kvs.filter fun kv=>p kv.1).map fun kv=>kV kv.1))→Q (.ref l) H'):gF (Itk d F kvs) (dw 0) tt te (none::cap) l σ H Q:=by
  refine ⟨kvs.length,fun i ys σ' H'=>ys=((kvs.take i).filter fun kv=>p kv.1).map (fun kv=>kV kv.1)∧(∃ o,σ'=(dY (none::cap) σ).set 0 o)∧ah H H'∧H' l=some (.lst ys),⟨rfl,⟨none,rfl⟩,ah.new hl,ag⟩,?_,?_⟩
  · rintro i ys σ' H' hi ⟨rfl,⟨o,rfl⟩,s,e⟩
    refine ⟨⟨s _ _ hF,hi⟩,fun x H2 y=>?_⟩;obtain ⟨e2,k,v,hk,rfl⟩:=y;subst e2
    have tk:((kvs.take (i+1)).filter fun kv=>p kv.1).map (fun kv=>kV kv.1)=((kvs.take i).filter fun kv=>p kv.1).map (fun kv=>kV kv.1)++(if p k=true then [kV k] else []):=by
      rw [List.take_add_one,hk,List.filter_append,List.map_append]
      congr 1
      cases hp:p k<;>simp [hp]
    refine cV (test i k v o H2 _ hk s fun H5 s5=>?_);by_cases hp:p k=true
    · rw [if_pos hp]
      rw [if_pos hp] at tk;refine step i k v o H5 _ hk hp (s.trans s5) fun H6 s6=>⟨s6 _ _ (s5 _ _ e),?_,?_⟩
      · have:(((kvs.take i).filter fun kv=>p kv.1).map (fun kv=>kV kv.1)).length≤kvs.length:=by
          rw [List.length_map];exact Nat.le_trans (List.length_filter_le _ _) (by rw [List.length_take]; omega)
        exact Nat.lt_of_le_of_lt (Nat.le_trans this hz) (by decide)
      · exact ⟨tk.symm,⟨_,List.set_set ..⟩,((s.trans s5).trans s6).later hl,ag⟩
    · rw [if_neg hp]
      rw [if_neg hp,List.append_nil] at tk;exact ⟨tk.symm,⟨_,List.set_set ..⟩,s.trans s5,s5 _ _ e⟩
  · rintro ys σ' H' ⟨rfl,_,s,e⟩
    rw [List.take_of_length_le (Nat.le_refl _)] at e;exact ⟨⟨s _ _ hF,Nat.le_refl _⟩,fin H' s e⟩
noncomputable abbrev nK (j:Nat):Key:=Sum.inl ((j:Nat):Int)
structure iz (n:Nat) (u:Nat→Bool) (okv:List (Key×V)):Prop where
 nd:(okv.map (·.1)).Nodup
 ks:∀ k∈okv.map (·.1),∃ j,j<n∧k=nK j
 vl:∀ j,j<n→(bp okv (nK j)=none∧u j=false)∨bp okv (nK j)=some (.bl (u j))
theorem iz.nil (n:Nat):iz n (fun _=>false) []:=⟨List.nodup_nil,(fun _ h=>nomatch h),fun _ _=>.inl ⟨rfl,rfl⟩⟩
theorem iz.congr {n:Nat} {u v:Nat→Bool} {okv:List (Key×V)} (h:iz n u okv) (e:∀ j,j<n→u j=v j):iz n v okv:=⟨h.nd,h.ks,fun j hj=>by rw [← e j hj]; exact h.vl j hj⟩
theorem zZ {i j:Nat} (h:nK i=nK j):i=j:=by injection h with h; omega
theorem iz.put {n:Nat} {u:Nat→Bool} {okv:List (Key×V)} (h:iz n u okv) {J:Nat} (hJ:J<n):iz n (fun j=>u j ^^ decide (J=j)) (b9 okv (nK J) (.bl (!u J))):=by
 have keys:∀ k,k∈(b9 okv (nK J) (.bl (!u J))).map (·.1)→k∈okv.map (·.1)∨k=nK J:=fun k hk=>by
  by_cases m:nK J∈okv.map (·.1)
  ·rw [la m] at hk; exact .inl hk
  ·rw [hW _ (by cases q:bp okv (nK J) with | none=>rfl | some v=>exact absurd (ka.mp (by rw [q]; rfl)) m),List.map_append] at hk;rcases List.mem_append.mp hk with z | z
   ·exact .inl z
   ·exact .inr (by simpa using z)
 refine ⟨?_,fun k hk=>?_,fun j hj=>?_⟩
 ·by_cases m:nK J∈okv.map (·.1)
  ·rw [la m]; exact h.nd
  ·rw [hW _ (by cases q:bp okv (nK J) with | none=>rfl | some v=>exact absurd (ka.mp (by rw [q]; rfl)) m),List.map_append,List.nodup_append];exact ⟨h.nd,by simp,fun a ha b hb e=>m ((show b=nK J by simpa using hb) ▸ e ▸ ha)⟩
 ·rcases keys k hk with z | z
  ·exact h.ks k z
  ·exact ⟨J,hJ,z⟩
 ·rw [fK];by_cases e:j=J
  ·subst e;rw [if_pos rfl,aT rfl];right; cases u j<;>rfl
  ·rw [if_neg (fun z=>e (zZ z)),bA (Ne.symm e),Bool.xor_false];exact h.vl j hj
noncomputable def mn (okv:List (Key×V)) (k:Key):Bool:=match bp okv k with
 | some (.bl b)=>b
 | _=>false
theorem oR {κ:Type} [DecidableEq κ]:∀ {kvs:List (κ×V)},(kvs.map (·.1)).Nodup→∀ {i:Nat} {k:κ} {v:V},kvs[i]?=some (k,v)→bp kvs k=some v
 | [],_,i,k,v,h=>by simp at h
 | p::r,nd,0,k,v,h=>by
  rw [List.getElem?_cons_zero] at h
  cases h;exact bT rfl
 | p::r,nd,i+1,k,v,h=>by
  rw [List.getElem?_cons_succ] at h;rw [List.map_cons,List.nodup_cons] at nd;rw [bS (fun z=>nd.1 (by rw [z]; exact List.mem_map.mpr ⟨_,List.mem_of_getElem? h,rfl⟩))];exact oR nd.2 h
theorem iz.sorted {n:Nat} {u:Nat→Bool} {okv:List (Key×V)} (h:iz n u okv) {ms:List Int} (pm:ms.Perm ((okv.filter fun kv=>mn okv kv.1).map fun kv=>match kv.1 with | .inl i=>i | .inr _=>0)) (so:ms.Pairwise (·≤·)) :
  ms=((List.range n).filter u).map fun j=>((j:Nat):Int):=by
 have rg:((List.range n).filter u).Pairwise (·<·):=List.pairwise_lt_range.filter _
 have so2:(((List.range n).filter u).map fun j=>((j:Nat):Int)).Pairwise (·≤·):=by
  rw [List.pairwise_map];exact rg.imp fun {a b} z=>by omega
 have nd2:(((List.range n).filter u).map fun j=>((j:Nat):Int)).Nodup:=by
  unfold List.Nodup;rw [List.pairwise_map];exact rg.imp fun {a b} z=>by omega
 have nd1:((okv.filter fun kv=>mn okv kv.1).map fun kv=>match kv.1 with | .inl i=>i | .inr _=>0).Nodup:=by
  have nf:((okv.filter fun kv=>mn okv kv.1).map (·.1)).Nodup:=h.nd.sublist (List.Sublist.map _ List.filter_sublist);unfold List.Nodup at nf ⊢;rw [List.pairwise_map] at nf ⊢;refine nf.imp_of_mem fun {a b} ha hb ne z=>?_;obtain ⟨i,_,ei⟩:=h.ks a.1 (List.mem_map.mpr ⟨a,(List.mem_filter.mp ha).1,rfl⟩);obtain ⟨j,_,ej⟩:=h.ks b.1 (List.mem_map.mpr ⟨b,(List.mem_filter.mp hb).1,rfl⟩);rw [ei,ej] at z ne;exact ne (congrArg Sum.inl (show ((i:Nat):Int)=((j:Nat):Int) from z))
 refine (pm.trans ((List.perm_ext_iff_of_nodup nd1 nd2).mpr fun i=>?_)).eq_of_pairwise (fun a b _ _ x y=>Int.le_antisymm x y) so so2;rw [List.mem_map,List.mem_map];constructor
 ·rintro ⟨kv,hm,rfl⟩;obtain ⟨h1,h2⟩:=List.mem_filter.mp hm;obtain ⟨j,hj,ej⟩:=h.ks kv.1 (List.mem_map.mpr ⟨kv,h1,rfl⟩);rw [ej] at h2 ⊢;refine ⟨j,List.mem_filter.mpr ⟨List.mem_range.mpr hj,?_⟩,rfl⟩;unfold mn at h2;rcases h.vl j hj with ⟨z,_⟩ | z
  ·rw [z] at h2; cases h2
  ·rw [z] at h2; exact h2
 ·rintro ⟨j,hm,rfl⟩;obtain ⟨h1,h2⟩:=List.mem_filter.mp hm;have hj:=List.mem_range.mp h1;rcases h.vl j hj with ⟨_,z⟩ | z
  ·rw [z] at h2; cases h2
  ·obtain ⟨kv,hkv,ek⟩:=List.mem_map.mp (ka.mp (show (bp okv (nK j)).isSome=true by rw [z]; rfl));refine ⟨kv,List.mem_filter.mpr ⟨hkv,?_⟩,by rw [ek]⟩;rw [ek];unfold mn;rw [z]; exact h2
end
section
variable {cs rs:List Int}
noncomputable def Nxt (a b:Int×Int):Prop:=(b.1=a.1+1∧b.2=a.2)∨(b.1=a.1∧b.2=a.2+1)∨(b.1=a.1 - 1∧b.2=a.2)∨(b.1=a.1∧b.2=a.2 - 1)
noncomputable def crP (a b:Int×Int):Int×Int:=if b.1=a.1 then (a.1,if a.2<b.2 then b.2 else a.2) else (if a.1<b.1 then b.1 else a.1,a.2)
noncomputable def crQ (a b:Int×Int):Int×Int:=if b.1=a.1 then (a.1+1,if a.2<b.2 then b.2 else a.2) else (if a.1<b.1 then b.1 else a.1,a.2+1)
theorem rR {M:List Sm1} (al:dF cs rs M) {a b:Int×Int} (ha:inC cs rs a) (hb:inC cs rs b) (n:Nxt a b) :
  cz cs rs (crP a b)∧Ts.ple (crP a b) (crQ a b)∧∀ j,Ls cs rs M j b=(Ls cs rs M j a ^^ (decide (crQ a b∈nb cs rs (crP a b))&&inS M j (crP a b))):=by
 obtain ⟨ax,ay⟩:=a;obtain ⟨bx,by'⟩:=b;obtain ⟨⟨a1,a2⟩,a3,a4⟩:=id ha;obtain ⟨⟨b1,b2⟩,b3,b4⟩:=id hb;unfold Nxt at n;dsimp only at a1 a2 a3 a4 b1 b2 b3 b4 n;have hor:∀ x y:Int,inC cs rs (x,y)→0<x→∀ j,Ls cs rs M j (x,y)=(Ls cs rs M j (x - 1,y) ^^ (decide ((x,y+1)∈nb cs rs (x,y))&&inS M j (x,y))):=fun x y hi hx j=>by
  unfold Ls;rw [uc (i9 al j) false hi hx];unfold gh;obtain ⟨⟨c1,c2⟩,c3,c4⟩:=id hi;dsimp only at c1 c2 c3 c4;have:decide ((x,y+1)∈nb cs rs (x,y))=decide ((y+cs.getD (x - 1).toNat 0)%2=1):=decide_eq_decide.mpr ⟨fun z=>by
   rcases bV.mp z with ⟨_,e⟩ | ⟨_,e⟩ | ⟨u,_⟩ | ⟨_,e⟩
   ·have:=(Prod.mk.inj e).1; omega
   ·have:=(Prod.mk.inj e).2; omega
   ·exact (bO.mp u).2.2.2.2
   ·have:=(Prod.mk.inj e).1; omega,fun z=>bV.mpr (.inr (.inr (.inl ⟨bO.mpr ⟨hx,by omega,by omega,by omega,z⟩,rfl⟩)))⟩
  rw [this]
 have ver:∀ x y:Int,inC cs rs (x,y)→0<y→∀ j,Ls cs rs M j (x,y)=(Ls cs rs M j (x,y - 1) ^^ (decide ((x+1,y)∈nb cs rs (x,y))&&inS M j (x,y))):=fun x y hi hy j=>by
  unfold Ls;rw [ud (B:=inS M j) false hi hy];unfold gv;obtain ⟨⟨c1,c2⟩,c3,c4⟩:=id hi;dsimp only at c1 c2 c3 c4;have:decide ((x+1,y)∈nb cs rs (x,y))=decide ((x+rs.getD (y - 1).toNat 0)%2=1):=decide_eq_decide.mpr ⟨fun z=>by
   rcases bV.mp z with ⟨_,e⟩ | ⟨_,e⟩ | ⟨_,e⟩ | ⟨u,_⟩
   ·have:=(Prod.mk.inj e).1; omega
   ·have:=(Prod.mk.inj e).2; omega
   ·have:=(Prod.mk.inj e).1; omega
   ·exact (cb.mp u).2.2.2.2,fun z=>bV.mpr (.inr (.inr (.inr ⟨cb.mpr ⟨hy,by omega,by omega,by omega,z⟩,rfl⟩)))⟩
  rw [this]
 have flp:∀ {A B C:Bool},A=(B ^^ C)→B=(A ^^ C):=by intro A B C h; rw [h]; cases B<;>cases C<;>rfl
 unfold crP crQ;dsimp only;rcases n with ⟨rfl,rfl⟩ | ⟨rfl,rfl⟩ | ⟨rfl,rfl⟩ | ⟨rfl,rfl⟩
 ·simp only [if_neg (show ¬ ax+1=ax by omega),if_pos (show ax<ax+1 by omega)];refine ⟨⟨⟨by first | omega | (dsimp only; omega),by first | omega | (dsimp only; omega)⟩,by first | omega | (dsimp only; omega),by first | omega | (dsimp only; omega)⟩,.inr ⟨rfl,by first | omega | (dsimp only; omega)⟩,fun j=>?_⟩;have:=hor _ _ hb (by omega) j
  rwa [Int.add_sub_cancel] at this
 ·simp only [if_true,if_pos (show ay<ay+1 by omega)];refine ⟨⟨⟨by first | omega | (dsimp only; omega),by first | omega | (dsimp only; omega)⟩,by first | omega | (dsimp only; omega),by first | omega | (dsimp only; omega)⟩,.inl (by first | omega | (dsimp only; omega)),fun j=>?_⟩;have:=ver _ _ hb (by omega) j
  rwa [Int.add_sub_cancel] at this
 ·simp only [if_neg (show ¬ ax - 1=ax by omega),if_neg (show ¬ ax<ax - 1 by omega)];refine ⟨⟨⟨by first | omega | (dsimp only; omega),by first | omega | (dsimp only; omega)⟩,by first | omega | (dsimp only; omega),by first | omega | (dsimp only; omega)⟩,.inr ⟨rfl,by first | omega | (dsimp only; omega)⟩,fun j=>?_⟩;exact flp (hor _ _ ha (by omega) j)
 ·simp only [if_true,if_neg (show ¬ ay<ay - 1 by omega)];refine ⟨⟨⟨by first | omega | (dsimp only; omega),by first | omega | (dsimp only; omega)⟩,by first | omega | (dsimp only; omega),by first | omega | (dsimp only; omega)⟩,.inl (by first | omega | (dsimp only; omega)),fun j=>?_⟩;exact flp (ver _ _ ha (by omega) j)
theorem zK {M:List Sm1} (al:dF cs rs M) {p q:Int×Int} (hi:cz cs rs p) (hq:q∈nb cs rs p):idx (M.map (·.2)) p<M.length:=by
 obtain ⟨e,he,hp⟩:=df.mp (al.cov p hi (List.ne_nil_of_mem hq));obtain ⟨j,hj⟩:=List.getElem?_of_mem he;rw [iB (oH al) (by rw [List.getElem?_map,hj]; rfl) hp];exact (List.getElem?_eq_some_iff.mp hj).1
theorem oQ {l:List Int} {k:Int} (h0:0<k) (h1:k≤l.length):(l.take k.toNat).sum=(l.take (k - 1).toNat).sum+l.getD (k - 1).toNat 0:=by
 obtain ⟨n,rfl⟩:∃ n:Nat,k=n+1:=⟨(k - 1).toNat,by omega⟩
 rw [show ((n:Int)+1).toNat=n+1 by omega,show ((n:Int)+1 - 1).toNat=n by omega,List.take_add_one,List.sum_append,List.getD_eq_getElem?_getD,List.getElem?_eq_getElem (by omega)];simp
theorem zz {s x y:Int} (h0:0<x) (h1:x≤cs.length):gM s cs rs x y=(gM s cs rs (x - 1) y+(y+cs.getD (x - 1).toNat 0))%2:=by
 unfold gM;rw [oQ h0 h1];have:x*y=(x - 1)*y+y:=by rw [Int.sub_mul,Int.one_mul]; omega
 rw [this];omega
theorem zA {s x y:Int} (h0:0<y) (h1:y≤rs.length):gM s cs rs x y=(gM s cs rs x (y - 1)+(x+rs.getD (y - 1).toNat 0))%2:=by
 unfold gM;rw [oQ h0 h1];have:x*y=x*(y - 1)+x:=by rw [Int.mul_sub,Int.mul_one]; omega
 rw [this];omega
noncomputable def fC (s:Int) (cs rs:List Int) (c:Int×Int):Bool:=decide (gM s cs rs c.1 c.2=1)
theorem qN (s x y:Int):gM s cs rs x y=0∨gM s cs rs x y=1:=by unfold gM; omega
theorem zF {s x y:Int} (h0:0<x) (h1:x≤cs.length):(fC s cs rs (x - 1,y) ^^ fC s cs rs (x,y))=decide ((y+cs.getD (x - 1).toNat 0)%2=1):=by
 unfold fC;have e:=zz (rs:=rs) (s:=s) (y:=y) h0 h1;rcases qN (cs:=cs) (rs:=rs) s (x - 1) y with z | z<;>dsimp only<;>rw [e,z]<;>rcases Int.emod_two_eq (y+cs.getD (x - 1).toNat 0) with q | q
 ·rw [show (0+(y+cs.getD (x - 1).toNat 0))%2=0 by omega,q]; rfl
 ·rw [show (0+(y+cs.getD (x - 1).toNat 0))%2=1 by omega,q]; rfl
 ·rw [show (1+(y+cs.getD (x - 1).toNat 0))%2=1 by omega,q]; rfl
 ·rw [show (1+(y+cs.getD (x - 1).toNat 0))%2=0 by omega,q]; rfl
theorem zG {s x y:Int} (h0:0<y) (h1:y≤rs.length):(fC s cs rs (x,y - 1) ^^ fC s cs rs (x,y))=decide ((x+rs.getD (y - 1).toNat 0)%2=1):=by
 unfold fC;have e:=zA (cs:=cs) (s:=s) (x:=x) h0 h1;rcases qN (cs:=cs) (rs:=rs) s x (y - 1) with z | z<;>dsimp only<;>rw [e,z]<;>rcases Int.emod_two_eq (x+rs.getD (y - 1).toNat 0) with q | q
 ·rw [show (0+(x+rs.getD (y - 1).toNat 0))%2=0 by omega,q]; rfl
 ·rw [show (0+(x+rs.getD (y - 1).toNat 0))%2=1 by omega,q]; rfl
 ·rw [show (1+(x+rs.getD (y - 1).toNat 0))%2=1 by omega,q]; rfl
 ·rw [show (1+(x+rs.getD (y - 1).toNat 0))%2=0 by omega,q]; rfl
theorem zj {a b:Bool} (h:(a ^^ b)=false):a=b:=by cases a<;>cases b<;>first | rfl | cases h
theorem wU (s:Int):dm cs rs (fC s cs rs):=by
 refine dm.of (fun x y hi hx hn=>zj ?_) fun x y hi hy hn=>zj ?_
 ·obtain ⟨⟨c1,c2⟩,c3,c4⟩:=hi;dsimp only at c1 c2 c3 c4;rw [zF hx (by omega),bA hn]
 ·obtain ⟨⟨c1,c2⟩,c3,c4⟩:=hi;dsimp only at c1 c2 c3 c4;rw [zG hy (by omega),bA hn]
theorem zE (s:Int) {p q:Int×Int} (hq:q∈nb cs rs p):acr (fC s cs rs) p q=true:=by
 obtain ⟨x,y⟩:=p;rcases bV.mp hq with ⟨u,rfl⟩ | ⟨u,rfl⟩ | ⟨u,rfl⟩ | ⟨u,rfl⟩
 ·obtain ⟨r1,r2,r3,r4,r5⟩:=cb.mp u;rw [m8,zG r1 (by omega),aT r5]
 ·obtain ⟨r1,r2,r3,r4,r5⟩:=bO.mp u;rw [m7,zF r1 (by omega),aT r5]
 ·obtain ⟨r1,r2,r3,r4,r5⟩:=bO.mp u;rw [jv,zF r1 (by omega),aT r5]
 ·obtain ⟨r1,r2,r3,r4,r5⟩:=cb.mp u;rw [ju,zG r1 (by omega),aT r5]
theorem wR {M:List Sm1} (al:dF cs rs M) (s:Int) {a c:Int×Int} (ha:inC cs rs a) (hc:inC cs rs c):decide ((jD cs rs M a c).length%2=1)=!decide (gM s cs rs a.1 a.2=gM s cs rs c.1 c.2):=by
 have h:=tX al (wU s) (fun p q _ hq=>zE s hq) ha hc;rw [pf] at h
 show decide (((List.range M.length).filter fun j=>Ls cs rs M j a ^^ Ls cs rs M j c).length%2=1)=_
 rw [← h];unfold fC;rcases qN (cs:=cs) (rs:=rs) s a.1 a.2 with z | z<;>rcases qN (cs:=cs) (rs:=rs) s c.1 c.2 with y | y<;>rw [z,y]<;>rfl
end
section
variable {P:Program} {w:World} {K:W.Frag} {mg:Str→Option Value} {base:Heap} {t:Ad}
theorem qS (L:List Nat):((L.map fun j=>((j:Nat):Int)).map V.int).isEmpty=L.isEmpty:=by cases L<;>rfl
noncomputable def sp_law (K:W.Frag):Sp:=fun vs H Q _=>∃ (a:Addr) (ns:List Int),vs=[.ref a]∧SqL K H a (ns.map V.int)∧ns.length≤63∧∀ H',Q (.bl true) H'
theorem z9 (T:Txt K mg t):a7 P w K mg base CX0 13 t.f_law t.d_law ["_law_script"] (sp_law K):=by
 refine T.F_law.ok cB (fun vs H Q E h=>?_) (fun cdv A outer s H vs Q E hr h=>?_)
 ·obtain ⟨a,ns,rfl,_⟩:=h; rfl
 ·obtain ⟨a,ns,rfl,hS,hl,z⟩:=h;refine aI (aM 1 cB.nd (aq (ok_av T) (rmo hr) rfl T.mg_av T.F_av.kp T.b_av .nil aJ (aa (pv 0) (aa af ae)))) fun _ _=>aI (aM 2 cB.nd (aq (ok_aH T) (rmo hr) rfl T.mg_aH T.F_aH.kp T.b_aH .nil aJ (aa (pv 1) ae))) fun _ _=>aI (aM 3 cB.nd (aq (ok_aI T) (rmo hr) rfl T.mg_aI T.F_aI.kp T.b_aI .nil aJ (aa (pv 2) ae))) fun _ _=>aI (aM 4 cB.nd (aq (ok_aq T) (rmo hr) rfl T.mg_aq T.F_aq.kp T.b_aq .nil aJ (aa (pv 3) ae))) fun _ _=>aI (aM 5 cB.nd (bB (aa (ar bN (au (aA K rfl) (pv 1) af) (bz (pv 3) T.cl_ab T.m_ae (ok_ae T) (rmo hr) T.b_ae .nil aJ)) (aa (ar bN (au (aA K rfl) (pv 1) af) (bz (pv 3) T.cl_ab T.m_ad (ok_ad T) (rmo hr) T.b_ad .nil aJ)) ae)))) fun _ _=>aI (aM 6 cB.nd (pv 5)) fun _ _=>aI (gw (i:=7) cB.nd rfl (Or.inr rfl) uU) fun _ _=>aI (c6 PassesOwn.never rfl (dk rfl T.no_ax (aa (ar bN (au (aA K rfl) (pv 1) af) af) ae)) (aW (i:=8) cB.nd rfl (Or.inl rfl)) (aO (Am (pv 6) (gY (n:=2) K rfl rfl (cD (aW (i:=9) cB.nd rfl (Or.inl rfl)) (cD (aW (i:=10) cB.nd rfl (Or.inl rfl)) gZ)))) (aO (aM 11 cB.nd (au (aA K rfl) (cZ (aa (bB (aa (ar aY (pv 9) af) (aa (pv 10) ae))) (aa (bB (aa (pv 9) (aa (ar aY (pv 10) af) ae))) (aa (bB (aa (ar cq (pv 9) af) (aa (pv 10) ae))) (aa (bB (aa (pv 9) (aa (ar cq (pv 10) af) ae))) ae))))) (ar bN (au (aA K rfl) (pv 1) (ar aY af (pv 8))) af))) (ai (bo (PW.pt (dB (eN og dz af (au (aD K rfl) (pv 11) af) (bz (pv 3) T.cl_ab T.m_ae (ok_ae T) (rmo hr) T.b_ae .nil aJ)) (cU (eN og dz af (au (aD K rfl) (pv 11) af) (bz (pv 3) T.cl_ab T.m_ad (ok_ad T) (rmo hr) T.b_ad .nil aJ))))) (aO (aM 12 cB.nd (bB (aa (bB (aa (ao (fN rfl) rfl T.no_max (by rfl) (aa (pv 9) (aa (au (aD K rfl) (pv 11) af) ae))) (aa (pv 10) ae))) (aa (bB (aa (ao (fN rfl) rfl T.no_max (by rfl) (aa (pv 9) (aa (au (aD K rfl) (pv 11) af) ae))) (aa (ar aY (pv 10) af) ae))) ae)))) (aO (cJ (bo (bQ dy (au (aD K rfl) (pv 11) af) (pv 9)) (ai (aM 12 cB.nd (bB (aa (bB (aa (pv 9) (aa (ao (fN rfl) rfl T.no_max (by rfl) (aa (pv 10) (aa (au (aD K rfl) (pv 11) af) ae))) ae))) (aa (bB (aa (ar aY (pv 9) af) (aa (ao (fN rfl) rfl T.no_max (by rfl) (aa (pv 10) (aa (au (aD K rfl) (pv 11) af) ae))) ae))) ae))))) aE)) (aO (cJ (bo (mq (xq rfl rfl (l9 hr) (pv 12) (pv 4))) (ai (jh (fm hr) (pv 7) (om rfl rfl (l9 hr) (pv 4) (pv 12) (fun _ _=>rfl)) (uV (uS (fm hr) (pv 7) (om rfl rfl (l9 hr) (pv 4) (pv 12) (fun _ _=>rfl)) gj ⟨rfl,rfl,rfl,rfl⟩)) rfl)) aE)) (ai (aM 6 cB.nd (pv 11)))))) aE))))) fun _ _=>aI (aM 13 cB.nd (ao (pD K rfl) rfl T.no_sorted (by rfl) (aa (fU (N:=["_law_number","_law_odd"]) (cap:=[none,some 7]) rfl ⟨rfl,rfl,rfl,rfl,rfl,rfl⟩ (xw (pv 7)) (fun _ _ _=>(aW (i:=0) (show (["_law_number","_law_odd"]:List Str).Nodup by decide +kernel) rfl (Or.inl rfl))) (fun _ _ _=>(mr (bE (sL P w rfl rfl (pv 1) (pv 0) (fun _ _=>rfl))))) (fun _ _ _=>(pv 0))) ae))) fun _ _=>aI (bo (cA (bE (aq (ok_aC T) (rmo hr) rfl T.mg_aC T.F_aC.kp T.b_aC .nil aJ (aa (aq (ok_aE T) (rmo hr) rfl T.mg_aE T.F_aE.kp T.b_aE .nil aJ (aa (pv 3) (aa (pv 5) (aa (pv 6) ae)))) (aa (pv 13) ae))))) (ai (aG gj)) aE) fun _ _=>aI (cJ (bo (bQ kX (gk ml (aq (ok_aK T) (rmo hr) rfl T.mg_aK T.F_aK.kp T.b_aK .nil aJ (aa (pv 3) (aa (pv 5) (aa (pv 6) ae)))) gu) (gk (Ac hr.units) (pv 13) (cZ ae))) (ai (aG gj)) aE)) fun _ _=>dr (aG (gk dy (gk dy (ar bN (ao (bW K rfl) rfl T.no_len (by rfl) (aa (pv 13) ae)) af) af) (gk kX (cH (pv 3) T.cl_ab T.m_af (ok_af T) (rmo hr) T.b_af .nil aJ (aa (au (aD K rfl) (pv 5) af) (aa (au (aD K rfl) (pv 5) af) ae))) (cH (pv 3) T.cl_ab T.m_af (ok_af T) (rmo hr) T.b_af .nil aJ (aa (au (aD K rfl) (pv 6) af) (aa (au (aD K rfl) (pv 6) af) ae)))))) fun _ _=>?_;apply ⟨a,100,ns,rfl,hS,hl,by decide,fun ls zs H1 s1 es lz _ sm=>?_⟩;apply ⟨ls,zs,rfl,es,by omega,fun pp s cs rs H2 s2 pl=>?_⟩;apply ⟨pp,true,s,cs,rs,rfl,pl,fun p H3 s3 hC=>?_⟩;obtain ⟨_,hs,bc,br⟩:=id pl;have lc:=bc.1;have lr:=br.1;have es:=(s2.trans s3) _ _ es;clear s1 s2 s3 pl;apply ⟨p,s,cs,rs,rfl,hC,by omega,by omega,fun kn kvs M H4 s4 al d4 ok=>?_⟩;have hC:=hC.mono s4;have es:=s4 _ _ es;clear s4;obtain ⟨dx,a1,b1,g1,g2,g3⟩:=hC.ob;have nl:∀ {w h:Int} {m:Str},NoF m→(cfl s a1 b1 w h).lookup m=none:=fun x=>dZ _ _ _ x;have few:=al.some.few (by omega) (by omega);apply aR (SqL.of es) (bC (i:=12) (by decide) (by omega)) ?_;generalize zs.getD (12:Int).toNat 0=z12;apply aF g1 (nl (by decide +kernel)) ?_;apply ⟨p,s,cs,rs,rfl,hC,?_⟩;apply b6 (by omega) ?_;apply aR (SqL.of es) (bC (i:=13) (by decide) (by omega)) ?_;generalize zs.getD (13:Int).toNat 0=z13;apply aF g1 (nl (by decide +kernel)) ?_;apply ⟨p,s,cs,rs,rfl,hC,?_⟩;apply b6 (by omega) ?_;left;obtain ⟨f,ef,hf⟩:∃ f:Int×Int,(z12%((cs.length:Int)+1),z13%((rs.length:Int)+1))=f∧inC cs rs f:=⟨_,rfl,⟨Int.emod_nonneg _ (by omega),Int.emod_lt_of_pos _ (by omega)⟩,Int.emod_nonneg _ (by omega),Int.emod_lt_of_pos _ (by omega)⟩
  have ef1:z12%((cs.length:Int)+1)=f.1:=by rw [← ef]
  have ef2:z13%((rs.length:Int)+1)=f.2:=by rw [← ef]
  rw [ef1,ef2];clear ef ef1 ef2;refine nwT fun fa H5 sfa nfa efa=>?_;have d5:=i4 d4 sfa;have hC:=hC.mono sfa;have es:=sfa _ _ es;have g1:=sfa _ _ g1;clear sfa d4;apply fun od nod=>?_;have s6:=ah.new (o:=HO.dK []) nod;have e6:=ag (H:=H5) (a:=od) (o:=HO.dK []);generalize upd H5 od (HO.dK [])=H6 at s6 e6 ⊢;apply aR (SqL.of (s6 _ _ es)) (bC (i:=14) (by decide) (by omega)) ?_;generalize zs.getD (14:Int).toNat 0=z14;apply b6 (by decide) ?_;apply ⟨_,rfl,by omega,by omega,?_⟩;refine cN (fun i σ' H'=>∃ (o8 o9 o10 o11 o12:Option V) (ha:Addr) (h:Int×Int) (okv:List (Key×V)),σ'=[some (.ref a),some (.ref ls),some (.ref pp),some (.ref p),some (.ref kn),some (.ref fa),some (.ref ha),some (.ref od),o8,o9,o10,o11,o12,none]∧ah H5 H'∧H' ha=some (.tup [.int h.1,.int h.2])∧inC cs rs h∧H' od=some (.dK okv)∧okv.length≤i∧iz M.length (fun j=>Ls cs rs M j f ^^ Ls cs rs M j h) okv)
   ⟨none,none,none,none,none,fa,f,[],rfl,s6,s6 _ _ efa,hf,e6,Nat.le_refl _,(iz.nil _).congr fun j _=>(Bool.xor_self _).symm⟩ ?_ ?_
  ·rintro i σ' H7 hi ⟨o8,o9,o10,o11,o12,ha,h,okv,rfl,s7,eh,hh,eo,lo,oo⟩;have hi81:i<81:=by omega
   rw [Int.zero_add];apply fV eh rfl ?_;apply nwT fun t0 H8 st0 nt0 et0=>?_;apply nwT fun t1 H9 st1 nt1 et1=>?_;apply nwT fun t2 H10 st2 nt2 et2=>?_;apply nwT fun t3 H11 st3 nt3 et3=>?_;apply nwL fun tl H12 stl ntl etl=>?_;have s712:=st0.trans (st1.trans (st2.trans (st3.trans stl)));have s12:=s7.trans s712;apply aR (SqL.of (s12 _ _ es)) (bC (i:=15+((i:Nat):Int)) (by omega) (by omega)) ?_;generalize zs.getD (15+((i:Nat):Int)).toNat 0=zi;apply b6 (by decide) ?_;obtain ⟨tr,b,hat,htr,nx⟩:∃ (tr:Addr) (b:Int×Int),atI [V.ref t0,V.ref t1,V.ref t2,V.ref t3] (zi%4)=some (.ref tr)∧H12 tr=some (.tup [.int b.1,.int b.2])∧Nxt h b:=by
    have r4:zi%4=0∨zi%4=1∨zi%4=2∨zi%4=3:=by omega
    rcases r4 with e | e | e | e<;>rw [e]
    ·exact ⟨t0,(h.1+1,h.2),rfl,stl _ _ (st3 _ _ (st2 _ _ (st1 _ _ et0))),.inl ⟨rfl,rfl⟩⟩
    ·exact ⟨t1,(h.1,h.2+1),rfl,stl _ _ (st3 _ _ (st2 _ _ et1)),.inr (.inl ⟨rfl,rfl⟩)⟩
    ·exact ⟨t2,(h.1 - 1,h.2),rfl,stl _ _ (st3 _ _ et2),.inr (.inr (.inl ⟨rfl,rfl⟩))⟩
    ·exact ⟨t3,(h.1,h.2 - 1),rfl,stl _ _ et3,.inr (.inr (.inr ⟨rfl,rfl⟩))⟩
   have eh:=s712 _ _ eh;have eo:=s712 _ _ eo;apply aR (SqL.of etl) hat ?_;clear st0 st1 st2 st3 stl et0 et1 et2 et3 etl hat s712 s7;apply aN (SqT.of htr) (v:=.int b.1) rfl ?_;left;by_cases c1:0≤b.1
   rotate_left
   ·rw [bA c1];left;exact ⟨_,_,_,_,_,ha,h,okv,rfl,s12,eh,hh,eo,by omega,oo⟩
   rw [aT c1];apply aF (s12 _ _ g1) (nl (by decide +kernel)) ?_;apply ⟨p,s,cs,rs,rfl,hC.mono s12,?_⟩;left;by_cases c2:b.1<(cs.length:Int)+1
   rotate_left
   ·rw [bA c2];left;exact ⟨_,_,_,_,_,ha,h,okv,rfl,s12,eh,hh,eo,by omega,oo⟩
   rw [aT c2];apply aN (SqT.of htr) (v:=.int b.2) rfl ?_;left;by_cases c3:0≤b.2
   rotate_left
   ·rw [bA c3];left;exact ⟨_,_,_,_,_,ha,h,okv,rfl,s12,eh,hh,eo,by omega,oo⟩
   rw [aT c3];apply aF (s12 _ _ g1) (nl (by decide +kernel)) ?_;apply ⟨p,s,cs,rs,rfl,hC.mono s12,?_⟩;left;by_cases c4:b.2<(rs.length:Int)+1
   rotate_left
   ·rw [bA c4];left;exact ⟨_,_,_,_,_,ha,h,okv,rfl,s12,eh,hh,eo,by omega,oo⟩
   rw [aT c4];have hb:inC cs rs b:=⟨⟨c1,c2⟩,c3,c4⟩
   obtain ⟨iP,le,stp⟩:=rR al hh hb nx;apply aN (SqT.of htr) (v:=.int b.1) rfl ?_;apply nwT fun pa H13 spa npa epa=>?_;apply aN (SqT.of (spa _ _ htr)) (v:=.int b.1) rfl ?_;apply nwT fun pb H14 spb npb epb=>?_;apply nwT fun sa H15 ssa nsa esa=>?_;have s1215:=spa.trans (spb.trans ssa);apply cK (fun σ' H'=>∃ (st pa pb:Addr),σ'=[some (.ref a),some (.ref ls),some (.ref pp),some (.ref p),some (.ref kn),some (.ref fa),some (.ref ha),some (.ref od),some (.int (i:Nat)),some (.int h.1),some (.int h.2),some (.ref tr),some (.ref st),none]∧ah H12 H'∧H' st=some (.tup [.ref pa,.ref pb])∧H' pa=some (.tup [.int (crP h b).1,.int (crP h b).2])∧H' pb=some (.tup [.int (crQ h b).1,.int (crQ h b).2])) ?_ ?_
   ·apply aN (SqT.of (s1215 _ _ htr)) (v:=.int b.1) rfl ?_;left;by_cases ce:b.1=h.1
    ·rw [aT ce];apply aN (SqT.of (s1215 _ _ htr)) (v:=.int b.2) rfl ?_;apply nwT fun pc H16 spc npc epc=>?_;apply aN (SqT.of (spc _ _ (s1215 _ _ htr))) (v:=.int b.2) rfl ?_;apply nwT fun pd H17 spd npd epd=>?_;apply nwT fun sb H18 ssb nsb esb=>?_;apply ⟨sb,pc,pd,rfl,s1215.trans (spc.trans (spd.trans ssb)),esb,?_,?_⟩
     ·have e:crP h b=(h.1,if h.2<b.2 then b.2 else h.2):=by unfold crP; rw [if_pos ce]
      rw [e]; exact ssb _ _ (spd _ _ epc)
     ·have e:crQ h b=(h.1+1,if h.2<b.2 then b.2 else h.2):=by unfold crQ; rw [if_pos ce]
      rw [e]; exact ssb _ _ epd
    ·rw [bA ce];apply ⟨sa,pa,pb,rfl,s1215,esa,?_,?_⟩
     ·have e:crP h b=(if h.1<b.1 then b.1 else h.1,h.2):=by unfold crP; rw [if_neg ce]
      rw [e]; exact ssa _ _ (spb _ _ epa)
     ·have e:crQ h b=(if h.1<b.1 then b.1 else h.1,h.2+1):=by unfold crQ; rw [if_neg ce]
      rw [e]; exact ssa _ _ epb
   clear spa spb ssa epa epb esa s1215;rintro σ' H16 ⟨st,pa,pb,rfl,s16,est,epa,epb⟩;have htr:=s16 _ _ htr;have eo:=s16 _ _ eo;have s12:=s12.trans s16;clear s16;have d16:=i4 d5 s12;have k16:gb H16 st (ky (crP h b)) (ky (crQ h b)):=⟨pa,pb,est,epa,epb⟩
   apply cK (fun σ' H'=>∃ (okv:List (Key×V)),σ'=[some (.ref a),some (.ref ls),some (.ref pp),some (.ref p),some (.ref kn),some (.ref fa),some (.ref ha),some (.ref od),some (.int (i:Nat)),some (.int h.1),some (.int h.2),some (.ref tr),some (.ref st),none]∧ah H5 H'∧H' tr=some (.tup [.int b.1,.int b.2])∧H' od=some (.dK okv)∧okv.length≤i+1∧iz M.length (fun j=>Ls cs rs M j f ^^ Ls cs rs M j b) okv) ?_ ?_
   ·apply ⟨kn,st,ky (crP h b),ky (crQ h b),kvs,rfl,rfl,d16,k16,?_⟩;by_cases hq:crQ h b∈nb cs rs (crP h b)
    ·have yes:=ok.yes _ _ iP hq le;have hJ:=zK al iP hq;obtain ⟨J,eJ⟩:∃ J,idx (M.map (·.2)) (crP h b)=J:=⟨_,rfl⟩
     rw [eJ] at yes hJ;rw [yes,Option.isSome_some];apply xP eo ?_;apply ⟨kn,st,ky (crP h b),ky (crQ h b),kvs,_,rfl,rfl,d16,k16,yes,?_⟩;apply ⟨_,dG.k (k:=nK J) eo,?_⟩
     have ev:(bp okv (nK J)).getD (.bl false)=.bl (Ls cs rs M J f ^^ Ls cs rs M J h):=by
      rcases oo.vl _ hJ with ⟨q1,q2⟩ | q1
      ·rw [q1,q2]; rfl
      ·rw [q1]; rfl
     rw [ev];apply ⟨kn,st,ky (crP h b),ky (crQ h b),kvs,_,rfl,rfl,d16,k16,yes,?_⟩;apply ⟨od,_,rfl,jr.k (k:=nK J) eo (cx (by omega)),?_⟩;refine ⟨_,rfl,s12.later nod,by rw [aj (cm htr eo (fun z=>nomatch z))]; exact htr,ag,Nat.le_trans (cP _ _ _) (by omega),(oo.put hJ).congr fun j hj=>?_⟩;rw [stp j,aT hq,Bool.true_and,← Bool.xor_assoc];unfold inS;rw [eJ]
    ·rw [ok.no _ _ hq,Option.isSome_none];apply ⟨okv,rfl,s12,htr,eo,by omega,oo.congr fun j hj=>?_⟩;rw [stp j,bA hq,Bool.false_and,Bool.xor_false]
   rintro σ' H17 ⟨okv,rfl,s17,htr,eo,lo,oo⟩;left;exact ⟨_,_,_,_,_,tr,b,okv,rfl,s17,htr,hb,eo,lo,oo⟩
  rintro σ' H7 ⟨o8,o9,o10,o11,o12,ha,h,okv,rfl,s7,eh,hh,eo,lo,oo⟩;apply vA ?_;apply ⟨od,okv,rfl,eo,fun F hF l1 nl1=>?_⟩;have s8:ah H5 (upd H7 od F):=s7.later nod;have eh8:upd H7 od F ha=some (.tup [.int h.1,.int h.2]):=by rw [aj (cm eh eo (fun z=>nomatch z))]; exact eh
  have eF:=ag (H:=H7) (a:=od) (o:=F);generalize upd H7 od F=H8 at s8 eh8 eF nl1 ⊢;have vOf:∀ (i:Nat) k v,okv[i]?=some (k,v)→∃ b,v=.bl b∧mn okv k=b∧bp okv k=some v:=fun i k v hk=>by
   have hv:=oR oo.nd hk;obtain ⟨j,hj,rfl⟩:=oo.ks k (List.mem_map.mpr ⟨_,List.mem_of_getElem? hk,rfl⟩);rcases oo.vl j hj with ⟨q,_⟩ | q
   ·rw [q] at hv; cases hv
   ·rw [q] at hv
    cases hv;exact ⟨_,rfl,by unfold mn; rw [q],q⟩
  refine nz (mn okv) eF (by omega) nl1 (fun i k v o H' Q' hk s' q=>?_) (fun i k v o H' Q' hk _ s' q=>?_) (fun H9 s9 e9=>?_)
  ·obtain ⟨b,rfl,hp,hv⟩:=vOf i k v hk;rw [hp] at q;apply vn ?_;apply ⟨od,okv,F,k,.bl b,rfl,hF,s' _ _ eF,rfl,hv,?_⟩;left;exact q H' (ah.refl _)
  ·left;exact q H' (ah.refl _)
  have e9:H9 l1=some (.lst (((okv.filter fun kv=>mn okv kv.1).map fun kv=>match kv.1 with | .inl i=>i | .inr _=>0).map V.int)):=by
   rw [e9,List.map_map]
   congr 2
   refine List.map_congr_left fun kv hm=>?_;obtain ⟨j,_,ej⟩:=oo.ks kv.1 (List.mem_map.mpr ⟨kv,(List.mem_filter.mp hm).1,rfl⟩)
   show kV kv.1=V.int (match kv.1 with | .inl i=>i | .inr _=>0)
   rw [ej]<;>rfl
  apply vH e9 fun lq ms nq pm so=>?_;have em:=oo.sorted pm so;subst em;have sq:=ah.new (o:=HO.lst ((((List.range M.length).filter fun j=>Ls cs rs M j f ^^ Ls cs rs M j h).map fun j=>((j:Nat):Int)).map V.int)) nq;have eq:=ag (H:=H9) (a:=lq) (o:=HO.lst ((((List.range M.length).filter fun j=>Ls cs rs M j f ^^ Ls cs rs M j h).map fun j=>((j:Nat):Int)).map V.int));generalize upd H9 lq (HO.lst ((((List.range M.length).filter fun j=>Ls cs rs M j f ^^ Ls cs rs M j h).map fun j=>((j:Nat):Int)).map V.int))=H10 at sq eq ⊢;have s10:=s8.trans (s9.trans sq);have eh10:=sq _ _ (s9 _ _ eh8);have two:=gP al.some.told
  have ld:((List.range M.length).filter fun j=>Ls cs rs M j f ^^ Ls cs rs M j h).length≤1000:=by
   have:=List.length_filter_le (fun j=>Ls cs rs M j f ^^ Ls cs rs M j h) (List.range M.length)
   rw [List.length_range] at this;omega
  clear s9 sq e9 s8 eh8 eF nl1 vOf;apply ⟨p,fa,ha,f,h,s,cs,rs,rfl,hC.mono s10,by omega,by omega,s10 _ _ efa,eh10,hf,hh,fun lt M' H11 s11 al' e11=>?_⟩;have em:=wK al' al;subst em;have e11:H11 lt=some (.lst (((jD cs rs M' f h).map fun j=>((j:Nat):Int)).map V.int)):=by rw [e11,List.map_map]; rfl
  apply ⟨.ref lt,.ref lq,.list (((jD cs rs M' f h).map fun j=>((j:Nat):Int)).map PyData.int),rfl,uG (by rw [List.length_map]; exact ld),oA e11,oA (s11 _ _ eq),fun H12 s12=>?_⟩;have s1012:=s11.trans s12;have eq:=s1012 _ _ eq;have s12:=s10.trans s1012;have eh12:=s1012 _ _ eh10;clear s11 s1012 s10 e11 eh10;apply cK (fun σ' H'=>σ'=[some (.ref a),some (.ref ls),some (.ref pp),some (.ref p),some (.ref kn),some (.ref fa),some (.ref ha),some (.ref od),o8,o9,o10,o11,o12,some (.ref lq)]∧ah H12 H') ?_ ?_
  ·apply ⟨p,fa,ha,f,h,s,cs,rs,rfl,hC.mono s12,by omega,by omega,s12 _ _ efa,eh12,hf,hh,fun H13 s13 nw=>?_,fun l2 H13 s13 _ wk=>?_⟩
   ·have ne:jD cs rs M' f h≠[]:=fun z=>nw ((nI al hf hh).mp z);apply ⟨rfl,?_⟩;apply nwL fun le H14 sle nle ele=>?_;refine ⟨lq,le,_,rfl,rfl,sle _ _ (s13 _ _ eq),ele,?_⟩;have e0:((List.range M'.length).filter fun j=>Ls cs rs M' j f ^^ Ls cs rs M' j h).isEmpty=false:=List.isEmpty_eq_false_iff.mpr ne;rw [qS,e0];refine ⟨rfl,?_⟩;left;rw [show decide ((V.bl !decide (V.non=V.non))=V.bl (if false=true then !false else false))=true by decide];left;exact ⟨rfl,s13.trans sle⟩
   ·have ee:jD cs rs M' f h=[]:=(nI al hf hh).mpr wk;apply ⟨rfl,?_⟩;apply nwL fun le H14 sle nle ele=>?_;refine ⟨lq,le,_,rfl,rfl,sle _ _ (s13 _ _ eq),ele,?_⟩;have e0:((List.range M'.length).filter fun j=>Ls cs rs M' j f ^^ Ls cs rs M' j h).isEmpty=true:=List.isEmpty_iff.mpr ee;rw [qS,e0];refine ⟨rfl,?_⟩;left;rw [show decide ((V.bl !decide (V.ref l2=V.non))=V.bl (if false=true then !true else true))=true by simp];left;exact ⟨rfl,s13.trans sle⟩
  ·rintro σ' H13 ⟨rfl,s13⟩;have s05:=s12.trans s13;apply bX (s13 _ _ eq) ?_;apply b6 (by decide) ?_;apply aF (s05 _ _ g1) (nl (by decide +kernel)) ?_;apply aN (SqT.of (s05 _ _ efa)) (v:=.int f.1) rfl ?_;apply aN (SqT.of (s05 _ _ efa)) (v:=.int f.2) rfl ?_;apply ⟨p,f.1,f.2,s,cs,rs,rfl,hC.mono s05,bc,br,hf.1.1,hf.1.2,hf.2.1,hf.2.2,fun H14 s14=>?_⟩;left;have s14':=s05.trans s14;have eh14:=s14 _ _ (s13 _ _ eh12);refine aF (s14' _ _ g1) (nl (by decide +kernel)) ?_;apply aN (SqT.of eh14) (v:=.int h.1) rfl ?_;apply aN (SqT.of eh14) (v:=.int h.2) rfl ?_;apply ⟨p,h.1,h.2,s,cs,rs,rfl,hC.mono s14',bc,br,hh.1.1,hh.1.2,hh.2.1,hh.2.2,fun H15 s15=>?_⟩;left;rw [List.length_map,List.length_map];have dc:=wR al s hf hh;unfold jD at dc;rw [show decide ((((List.range M'.length).filter fun j=>Ls cs rs M' j f ^^ Ls cs rs M' j h).length:Int)%2=1)=decide (((List.range M'.length).filter fun j=>Ls cs rs M' j f ^^ Ls cs rs M' j h).length%2=1) from decide_eq_decide.mpr (by omega),dc,aT rfl];exact z _
end
end My
namespace PySem.W.Fast
theorem tw12061852400382211001:True:=⟨⟩
theorem tw15270348942294940434:True:=⟨⟩
theorem tw3296261362475881591:True:=⟨⟩
theorem tw15505546866461900126:True:=⟨⟩
theorem tw8576081399255454774:True:=⟨⟩
theorem tw7107737228676831021:True:=⟨⟩
theorem tw5725577050146019836:True:=⟨⟩
theorem tw8774990676419152067:True:=⟨⟩
theorem tw1234853834409938754:True:=⟨⟩
theorem tw17843976625252722753:True:=⟨⟩
theorem tw7237672278871393979:True:=⟨⟩
theorem tw11039604742975909787:True:=⟨⟩
theorem tw1216219115390759795:True:=⟨⟩
theorem tw8969462785033884467:True:=⟨⟩
theorem tw10859180487999844646:True:=⟨⟩
theorem tw10318789564968175223:True:=⟨⟩
theorem tw12793701901234851546:True:=⟨⟩
theorem tw9598890106945031976:True:=⟨⟩
theorem tw5302026505558632123:True:=⟨⟩
theorem tw11758309655991027943:True:=⟨⟩
theorem tw17321662556616621287:True:=⟨⟩
theorem tw16611401971022150898:True:=⟨⟩
theorem tw13495038364978207457:True:=⟨⟩
theorem tw8347124968440035417:True:=⟨⟩
theorem tw16635056885629251605:True:=⟨⟩
theorem tw16570284225218748243:True:=⟨⟩
theorem tw14775106722407052424:True:=⟨⟩
theorem tw14166126122508396906:True:=⟨⟩
theorem tw5456182937977922299:True:=⟨⟩
theorem tw11838260114011805902:True:=⟨⟩
theorem tw2332348984378112219:True:=⟨⟩
theorem tw15228418847885209556:True:=⟨⟩
theorem tw5921850261582931431:True:=⟨⟩
theorem tw13595768663337116660:True:=⟨⟩
theorem tw16847887937811302754:True:=⟨⟩
theorem tw6832989945546087324:True:=⟨⟩
theorem tw10741574356982507169:True:=⟨⟩
theorem tw6208412567093539879:True:=⟨⟩
theorem tw7328796928122904667:True:=⟨⟩
theorem tw6554996986400586771:True:=⟨⟩
theorem tw17904329864595073244:True:=⟨⟩
theorem tw10748387939782281893:True:=⟨⟩
theorem tw9813528675977049214:True:=⟨⟩
theorem tw9611829275549059801:True:=⟨⟩
theorem tw12668181189837058406:True:=⟨⟩
theorem tw17506984983503504274:True:=⟨⟩
theorem tw8054755936071445488:True:=⟨⟩
theorem tw71509248370676095:True:=⟨⟩
theorem tw6002250244251027227:True:=⟨⟩
theorem tw11365448460407949538:True:=⟨⟩
theorem tw9652882390049395520:True:=⟨⟩
theorem tw5632385943804917252:True:=⟨⟩
theorem tw8660722346671941130:True:=⟨⟩
theorem tw13604515781155480233:True:=⟨⟩
theorem tw3946721864020584485:True:=⟨⟩
theorem tw12463634351026333855:True:=⟨⟩
theorem tw6237540841266497086:True:=⟨⟩
theorem tw6835789379705393924:True:=⟨⟩
theorem tw17378430011667265092:True:=⟨⟩
theorem tw15205218205622889365:True:=⟨⟩
theorem tw14628283544217078467:True:=⟨⟩
theorem tw1373265152006429735:True:=⟨⟩
theorem tw8847623081608580793:True:=⟨⟩
theorem tw18014557017227171047:True:=⟨⟩
theorem tw13274916570050761319:True:=⟨⟩
theorem tw9573312495516608678:True:=⟨⟩
theorem tw5520771955506197273:True:=⟨⟩
theorem tw2688023642266738006:True:=⟨⟩
theorem tw4938105842011241576:True:=⟨⟩
theorem tw18400094504190299680:True:=⟨⟩
theorem tw7348656852788662861:True:=⟨⟩
theorem tw16009834026756605127:True:=⟨⟩
theorem tw12182729515405188125:True:=⟨⟩
theorem tw8071076020541680982:True:=⟨⟩
theorem tw316088663562724728:True:=⟨⟩
theorem tw6643050743464552832:True:=⟨⟩
theorem tw5361311676618401153:True:=⟨⟩
theorem tw12036570253705193158:True:=⟨⟩
theorem tw18204447456298075436:True:=⟨⟩
theorem tw10974369367374936815:True:=⟨⟩
theorem tw10937190417661117963:True:=⟨⟩
theorem tw2109338712347233373:True:=⟨⟩
theorem tw12425487260762676593:True:=⟨⟩
theorem tw9622515337995900407:True:=⟨⟩
theorem tw12843900682093471077:True:=⟨⟩
theorem tw15187358754013630938:True:=⟨⟩
theorem tw10188534659113758315:True:=⟨⟩
theorem tw1264737289237692491:True:=⟨⟩
theorem tw13746439592313538563:True:=⟨⟩
theorem tw12939000174070045567:True:=⟨⟩
theorem tw11972129568480922343:True:=⟨⟩
theorem tw5920650059597623306:True:=⟨⟩
theorem tw10556228526381708154:True:=⟨⟩
theorem tw17775865981338428930:True:=⟨⟩
theorem tw1070831773186454925:True:=⟨⟩
theorem tw4100859166741384091:True:=⟨⟩
theorem tw7259208650034867239:True:=⟨⟩
theorem tw13319454490492957117:True:=⟨⟩
theorem tw12634724729863544489:True:=⟨⟩
theorem tw18202391237875985239:True:=⟨⟩
theorem tw15469458257247091975:True:=⟨⟩
theorem tw6198411527071240043:True:=⟨⟩
theorem tw9266845549923433974:True:=⟨⟩
theorem tw2063654580110308318:True:=⟨⟩
theorem tw15496572325799626944:True:=⟨⟩
theorem tw8849402582864730521:True:=⟨⟩
theorem tw9436658796149960904:True:=⟨⟩
theorem tw13435070208658280187:True:=⟨⟩
theorem tw2103050589095099400:True:=⟨⟩
theorem tw7522529561371874394:True:=⟨⟩
theorem tw2567211546023131851:True:=⟨⟩
theorem tw16738451860146307954:True:=⟨⟩
theorem tw4397694495694513596:True:=⟨⟩
theorem tw11641642444294251453:True:=⟨⟩
theorem tw2380907113445821133:True:=⟨⟩
theorem tw8223797579501870574:True:=⟨⟩
theorem tw9510117158654140020:True:=⟨⟩
theorem tw10167854619275040359:True:=⟨⟩
theorem tw5588058395933800844:True:=⟨⟩
theorem tw425634756149814820:True:=⟨⟩
theorem tw8469048785420484785:True:=⟨⟩
theorem tw1598445178513952936:True:=⟨⟩
theorem tw3936642175027984765:True:=⟨⟩
theorem tw1395682858481849036:True:=⟨⟩
theorem tw17065252865282476045:True:=⟨⟩
theorem tw16217268041798857921:True:=⟨⟩
theorem tw4513945701273884020:True:=⟨⟩
theorem tw8088254531207421721:True:=⟨⟩
theorem tw4962403716430618498:True:=⟨⟩
theorem tw9257225775307400964:True:=⟨⟩
theorem tw11825102233093150307:True:=⟨⟩
theorem tw4140493799117497709:True:=⟨⟩
theorem tw7490018255128136050:True:=⟨⟩
theorem tw13318031024521729878:True:=⟨⟩
theorem tw9261200778881546454:True:=⟨⟩
theorem tw7133731398497102049:True:=⟨⟩
theorem tw8608110888749371808:True:=⟨⟩
theorem tw2541009556720720207:True:=⟨⟩
theorem tw13265740616105630222:True:=⟨⟩
theorem tw10590982463705585832:True:=⟨⟩
theorem tw2569900323319982425:True:=⟨⟩
theorem tw12985154243355228359:True:=⟨⟩
theorem tw4384109202452549840:True:=⟨⟩
theorem tw17454599498065656829:True:=⟨⟩
theorem tw10089267205312437811:True:=⟨⟩
theorem tw16397456178754580456:True:=⟨⟩
theorem tw243424285606238943:True:=⟨⟩
theorem tw6456529456170882014:True:=⟨⟩
theorem tw11847488924966408564:True:=⟨⟩
theorem tw2407418774557490575:True:=⟨⟩
theorem tw15683352572858223907:True:=⟨⟩
theorem tw14692965703331590835:True:=⟨⟩
theorem tw7022665226235492650:True:=⟨⟩
theorem tw9992849353083208952:True:=⟨⟩
theorem tw5931624024381091418:True:=⟨⟩
theorem tw11398250791299126644:True:=⟨⟩
theorem tw10622860582610841588:True:=⟨⟩
theorem tw15012597249267033366:True:=⟨⟩
theorem tw925169416942618802:True:=⟨⟩
theorem tw3751933094499087970:True:=⟨⟩
theorem tw13069448609502013414:True:=⟨⟩
theorem tw1730262717265286444:True:=⟨⟩
theorem tw15493901584439257411:True:=⟨⟩
theorem tw5988436056080991139:True:=⟨⟩
theorem tw1852762270314953256:True:=⟨⟩
theorem tw16069903810507659500:True:=⟨⟩
theorem tw12957501714208574402:True:=⟨⟩
theorem tw13355715171581356537:True:=⟨⟩
theorem tw12318466731976805702:True:=⟨⟩
theorem tw827802908315295743:True:=⟨⟩
theorem tw16661248108393351175:True:=⟨⟩
theorem tw16837395417707221651:True:=⟨⟩
theorem tw6296971281793370676:True:=⟨⟩
theorem tw18106626520883745236:True:=⟨⟩
theorem tw2022325170097829825:True:=⟨⟩
theorem tw16655081440365446413:True:=⟨⟩
theorem tw14178645970625197295:True:=⟨⟩
theorem tw10617157342502525993:True:=⟨⟩
theorem tw8635179429550577610:True:=⟨⟩
theorem tw400499234684059574:True:=⟨⟩
theorem tw1540405923540214027:True:=⟨⟩
theorem tw11976799662292161789:True:=⟨⟩
theorem tw1008061658872946907:True:=⟨⟩
theorem tw14324939161760136592:True:=⟨⟩
theorem tw14045927575882486722:True:=⟨⟩
theorem tw1837932479202726:True:=⟨⟩
theorem tw10509543059419691154:True:=⟨⟩
theorem tw2398440857830551945:True:=⟨⟩
theorem tw3117310415458303962:True:=⟨⟩
theorem tw15154344696107287502:True:=⟨⟩
theorem tw11671123243761260897:True:=⟨⟩
theorem tw14548529976394281371:True:=⟨⟩
theorem tw10019334413448925440:True:=⟨⟩
theorem tw6368119197682551333:True:=⟨⟩
theorem tw8212739878490469154:True:=⟨⟩
theorem tw4988307024904435417:True:=⟨⟩
theorem tw4155603872745820675:True:=⟨⟩
theorem tw15729344544559061565:True:=⟨⟩
theorem tw16145802512717791210:True:=⟨⟩
theorem tw17714572866644067619:True:=⟨⟩
theorem tw120312894315666930:True:=⟨⟩
theorem tw16453648226081113762:True:=⟨⟩
theorem tw4314737726648159006:True:=⟨⟩
theorem tw6467141820790307125:True:=⟨⟩
theorem tw17479886362224239278:True:=⟨⟩
theorem tw10598779550351381129:True:=⟨⟩
theorem tw10823270149279378312:True:=⟨⟩
theorem tw11725890314986377897:True:=⟨⟩
theorem tw7394510524001117799:True:=⟨⟩
theorem tw6580840358445938795:True:=⟨⟩
theorem tw15269217383482913634:True:=⟨⟩
theorem tw10962933256539225136:True:=⟨⟩
theorem tw12934087425055381716:True:=⟨⟩
theorem tw836122210942216538:True:=⟨⟩
theorem tw16152237296855262939:True:=⟨⟩
theorem tw4689587084944228805:True:=⟨⟩
theorem tw18000428314988744869:True:=⟨⟩
theorem tw6829613036629064139:True:=⟨⟩
theorem tw3448488007525971371:True:=⟨⟩
theorem tw10054988761725331938:True:=⟨⟩
theorem tw2983427804542942280:True:=⟨⟩
theorem tw15167006764458335911:True:=⟨⟩
theorem tw12243330744948468053:True:=⟨⟩
theorem tw7086094715349699335:True:=⟨⟩
theorem tw17724364466052256211:True:=⟨⟩
theorem tw17922406224197385348:True:=⟨⟩
theorem tw16281729191176395078:True:=⟨⟩
theorem tw9110159034776866963:True:=⟨⟩
theorem tw66704956807614718:True:=⟨⟩
theorem tw17396204849807589131:True:=⟨⟩
theorem tw17259307092038191748:True:=⟨⟩
theorem tw11729215720059224229:True:=⟨⟩
theorem tw14774682440541055272:True:=⟨⟩
theorem tw17148670806814784619:True:=⟨⟩
theorem tw15645731277328312060:True:=⟨⟩
theorem tw2448873964166115908:True:=⟨⟩
theorem tw8803284210261943976:True:=⟨⟩
theorem tw17543844380551920797:True:=⟨⟩
theorem tw8476678617469899800:True:=⟨⟩
theorem tw7797811518859637623:True:=⟨⟩
theorem tw4507772788317895507:True:=⟨⟩
theorem tw8793991366498213069:True:=⟨⟩
theorem tw6651725238589456013:True:=⟨⟩
theorem tw13638084485547096166:True:=⟨⟩
theorem tw13042989178470807142:True:=⟨⟩
theorem tw1653953772854016225:True:=⟨⟩
theorem tw16837240550762982469:True:=⟨⟩
theorem tw15151295581312151412:True:=⟨⟩
theorem tw15656232534283928634:True:=⟨⟩
theorem tw15478849568624835248:True:=⟨⟩
theorem tw4884411076873097857:True:=⟨⟩
theorem tw7777833154500743359:True:=⟨⟩
theorem tw15863911947503209691:True:=⟨⟩
theorem tw8236304354901699085:True:=⟨⟩
theorem tw7881026892800516695:True:=⟨⟩
theorem tw1131885231652657699:True:=⟨⟩
theorem tw7140258391088001176:True:=⟨⟩
theorem tw12014690361882939669:True:=⟨⟩
theorem tw4382174527466814599:True:=⟨⟩
theorem tw14919505173974939779:True:=⟨⟩
theorem tw8572562718484937229:True:=⟨⟩
theorem tw12202991821476273046:True:=⟨⟩
theorem tw4103449501689780594:True:=⟨⟩
theorem tw10280289512269845984:True:=⟨⟩
theorem tw9941728685923103611:True:=⟨⟩
theorem tw18145078634570681161:True:=⟨⟩
theorem tw2934788071680841133:True:=⟨⟩
theorem tw10459561005377486649:True:=⟨⟩
theorem tw10962326656368597531:True:=⟨⟩
theorem tw9289854730212626766:True:=⟨⟩
theorem tw790729363561871899:True:=⟨⟩
theorem tw10136762876548921530:True:=⟨⟩
theorem tw10125510594988661220:True:=⟨⟩
theorem tw2007597548776697981:True:=⟨⟩
theorem tw18290787520964062650:True:=⟨⟩
theorem tw925803178431259711:True:=⟨⟩
theorem tw11811113047663062031:True:=⟨⟩
theorem tw84059948971486917:True:=⟨⟩
theorem tw7650249050350708045:True:=⟨⟩
theorem tw8227445656231749435:True:=⟨⟩
theorem tw2268541545862553437:True:=⟨⟩
theorem tw265897624595547409:True:=⟨⟩
theorem tw14061688077647084126:True:=⟨⟩
theorem tw14250477752829670506:True:=⟨⟩
theorem tw17769574681827725827:True:=⟨⟩
theorem tw1243970581768719428:True:=⟨⟩
theorem tw6104482449300155080:True:=⟨⟩
theorem tw6818526567491059882:True:=⟨⟩
theorem tw11778622075213628018:True:=⟨⟩
theorem tw4595248291503431582:True:=⟨⟩
theorem tw14178083012812652050:True:=⟨⟩
theorem tw41312872966758162:True:=⟨⟩
theorem tw93176685969300746:True:=⟨⟩
theorem tw17079702740873618605:True:=⟨⟩
theorem tw17638534666692510312:True:=⟨⟩
theorem tw15927109919142465223:True:=⟨⟩
theorem tw4280666385851473073:True:=⟨⟩
theorem tw6603301817817690404:True:=⟨⟩
theorem tw2318862260190510145:True:=⟨⟩
theorem tw3788565770295658341:True:=⟨⟩
theorem tw14601159325278072688:True:=⟨⟩
theorem tw3003826873028926200:True:=⟨⟩
theorem tw9370772244494518758:True:=⟨⟩
theorem tw9818997222116495280:True:=⟨⟩
theorem tw8434239885961239642:True:=⟨⟩
theorem tw4419102920881915131:True:=⟨⟩
theorem tw926689389311656720:True:=⟨⟩
theorem tw17035530782825095550:True:=⟨⟩
theorem tw2431899969965195899:True:=⟨⟩
theorem tw17363421636665417925:True:=⟨⟩
theorem tw11221886913811094918:True:=⟨⟩
theorem tw11835371661842426332:True:=⟨⟩
theorem tw8945578026169862598:True:=⟨⟩
theorem tw4495772657976392158:True:=⟨⟩
theorem tw6556604394400403061:True:=⟨⟩
theorem tw16974331784334573986:True:=⟨⟩
theorem tw5316150679869037524:True:=⟨⟩
theorem tw3624604344552345225:True:=⟨⟩
theorem tw9005535572495764941:True:=⟨⟩
theorem tw17082742843148584719:True:=⟨⟩
theorem tw3359645170155850771:True:=⟨⟩
theorem tw18442619484816670280:True:=⟨⟩
theorem tw13945760112239471054:True:=⟨⟩
theorem tw6217227079299963360:True:=⟨⟩
theorem tw5775968428034901400:True:=⟨⟩
theorem tw17975539061386115330:True:=⟨⟩
theorem tw12183343378686673871:True:=⟨⟩
theorem tw14362423294746896994:True:=⟨⟩
theorem tw475916435037831872:True:=⟨⟩
theorem tw10040747696607887406:True:=⟨⟩
theorem tw641671460257568743:True:=⟨⟩
theorem tw114730761606140164:True:=⟨⟩
theorem tw11778022674538806969:True:=⟨⟩
theorem tw4839924703804172344:True:=⟨⟩
theorem tw17976316774559239825:True:=⟨⟩
theorem tw4054142758418202339:True:=⟨⟩
theorem tw13176558241552825757:True:=⟨⟩
theorem tw4120665298911437460:True:=⟨⟩
theorem tw15226179038810321706:True:=⟨⟩
theorem tw4803708889512207914:True:=⟨⟩
theorem tw15080453247871439075:True:=⟨⟩
theorem tw196764031562255181:True:=⟨⟩
theorem tw3786711127918031532:True:=⟨⟩
theorem tw5305243421887747212:True:=⟨⟩
theorem tw13403750271091622029:True:=⟨⟩
theorem tw11430667082476994197:True:=⟨⟩
theorem tw9740218500544100428:True:=⟨⟩
theorem tw10548874602464954570:True:=⟨⟩
theorem tw12180704735417456919:True:=⟨⟩
theorem tw3537257166951437263:True:=⟨⟩
theorem tw2189145006696905403:True:=⟨⟩
theorem tw10353932359324350590:True:=⟨⟩
theorem tw8328491759097041105:True:=⟨⟩
theorem tw3823801152103179560:True:=⟨⟩
theorem tw16201690059566812589:True:=⟨⟩
theorem tw2348165380040442994:True:=⟨⟩
theorem tw15833766074249117932:True:=⟨⟩
theorem tw5772179217307232218:True:=⟨⟩
theorem tw9470117100326111238:True:=⟨⟩
theorem tw17405134029269077069:True:=⟨⟩
theorem tw12882677428496361176:True:=⟨⟩
theorem tw13198755991271430636:True:=⟨⟩
theorem tw6595454211972432742:True:=⟨⟩
theorem tw6172245738672676186:True:=⟨⟩
theorem tw3487466235549804553:True:=⟨⟩
theorem tw8456930570225946638:True:=⟨⟩
theorem tw7173884992569555962:True:=⟨⟩
theorem tw11066768133439346265:True:=⟨⟩
theorem tw14602560473462778286:True:=⟨⟩
theorem tw9605375974559526608:True:=⟨⟩
theorem tw6254594612945925677:True:=⟨⟩
theorem tw15446088077436352434:True:=⟨⟩
theorem tw9272364259071662195:True:=⟨⟩
theorem tw9266628187681681665:True:=⟨⟩
theorem tw14253750257818630182:True:=⟨⟩
theorem tw3725089781428515291:True:=⟨⟩
end PySem.W.Fast
open PySem PySem.W PyProof.Rows
set_option maxRecDepth 100000 in
set_option maxHeartbeats 0 in
theorem PySem.Challenge.cw_sashiko_k20_whole_fences_part_holds : PySem.Challenge.rw_sashiko_k20_whole_fences_part.Holds := by
 w_on; o_law; k_head; (case hw=>w_witness2)
 k_fill
 refine L2.walk_ofK (l:=PySem.Challenge.rw_sashiko_k20_whole_fences_part) (n:=63) (k:=13) (x:="_law_script") (CX:=L2.CX0) (sp:=My.sp_law) rfl (by decide) rfl ⟨rfl,by decide,by decide⟩ (fun w h Y=>PySem.W.kIn_of Y) ?F ?S ?C
 case F =>
  intro w mg fa h KX G hmg
  have T:∃ t:My.Ad,My.Txt (L2.KOf KX) mg t:=by
   dsimp only [L2.KOf];refine' My.txt_mk KX G ?aC_aU ?ga_aU ?rd_aU ?aC_ab ?pg_ab ?hd_ab ?po_ab ?sa_ab ?mk_ab ?kc_ab ?na_columns_count ?na_rows_count ?na_col_bits ?na_row_bits ?na_first_colour ?a_as ?F_as ?a_ah ?F_ah ?a_aF ?F_aF ?a_at ?F_at ?a_ay ?F_ay ?a_ag ?F_ag ?fc_ao ?F_ao ?a_ai ?i_ai ?F_ai ?a_ae ?i_ae ?F_ae ?a_ad ?i_ad ?F_ad ?a_ac ?i_ac ?F_ac ?a_ap ?i_ap ?F_ap ?a_aa ?i_aa ?F_aa ?a_af ?i_af ?F_af ?a_ak ?F_ak ?a_az ?F_az ?a_am ?F_am ?a_aD ?F_aD ?a_an ?F_an ?a_ar ?F_ar ?a_aM ?F_aM ?a_al ?F_al ?a_aB ?F_aB ?a_aA ?F_aA ?a_aw ?F_aw ?a_aK ?F_aK ?a_au ?F_au ?a_aE ?F_aE ?a_av ?F_av ?a_aG ?F_aG ?a_aJ ?F_aJ ?a_aH ?F_aH ?a_aI ?F_aI ?a_aC ?F_aC ?a_aq ?F_aq ?a_law ?F_law ?aX_aO ?aX_aN ?aX_aR ?aX_aP ?aX_aT ?aX_aQ ?x_aO ?x_aN ?x_aR ?x_aP ?x_aT ?x_aQ ?v_LONGEST_SIDE ?z_aL ?z_int ?z_bool ?z_all ?z_len ?z_aj ?z_list ?z_ax ?z_abs ?z_str ?z_zip ?z_aS ?z_sorted ?z_min ?z_max ?z_reversed ?z_sum ?z_aV
   (case aC_aU | aC_ab | aX_aO | aX_aN | aX_aR | aX_aP | aX_aT | aX_aQ | a_as | a_ah | a_aF | a_at | a_ay | a_ag | a_ak | a_az | a_am | a_aD | a_an | a_ar | a_aM | a_al | a_aB | a_aA | a_aw | a_aK | a_au | a_aE | a_av | a_aG | a_aJ | a_aH | a_aI | a_aC | a_aq | a_law=>(unfold My.QNs; k_is))
   (case z_aL | z_int | z_bool | z_all | z_len | z_aj | z_list | z_ax | z_abs | z_str | z_zip | z_aS | z_sorted | z_min | z_max | z_reversed | z_sum | z_aV=>(unfold My.QNn; k_is))
   (case a_ai | a_ae | a_ad | a_ac | a_ap | a_aa | a_af=>(unfold My.QFi; k_is))
   (case ga_aU | rd_aU | pg_ab | hd_ab | po_ab | sa_ab | mk_ab | kc_ab | fc_ao | v_LONGEST_SIDE=>k_is)
   (case na_columns_count | na_rows_count | na_col_bits | na_row_bits | na_first_colour=>(unfold My.QFn; k_is))
   (case i_ai | i_ae | i_ad | i_ac | i_ap | i_aa | i_af=>(unfold My.QIf; k_is))
   (case x_aO | x_aN | x_aR | x_aP | x_aT | x_aQ=>(unfold My.QXc; k_exc))
   (case F_as | F_ah | F_aF | F_at | F_ay | F_ag | F_ao | F_ai | F_ae | F_ad | F_ac | F_ap | F_aa | F_af | F_ak | F_az | F_am | F_aD | F_an | F_ar | F_aM | F_al | F_aB | F_aA | F_aw | F_aK | F_au | F_aE | F_av | F_aG | F_aJ | F_aH | F_aI | F_aC | F_aq | F_law=>exact L2.fun_mk (by k_is) (by k_is) (by k_is))
  obtain ⟨t,T⟩:=T;have e0:=hmg.symm.trans T.mg_law
  cases e0;exact ⟨t.d_law,T.F_law.bl fun _ _ _ _ _ _ _=>rfl,fun base _ _=>My.z9 T⟩
 case S=>exact fun K H a ns hl _ hS=>⟨a,ns,rfl,hS,hl,fun _=>rfl⟩
 case C=>exact fun _ _ _ _ z=>z
