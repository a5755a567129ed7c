import PyProof.Rows.All
import Wide.All
import OpenK.AllK
import Wide.FinOn
import Lean
import PyProof.EqAt
import PyProof.EqKinds
import PyProof.TupleCall
import KE.KSortTup
import KE.KItemsList
import KE.KPairComp
import KE.KDictOf
import PyProof.AttrMissHeap
import PySem.Challenge.RW_sashiko_k14_whole_areas_leave_one
set_option Elab.async false
set_option linter.all false
set_option maxRecDepth 100000
namespace L2
open PySem PySem.Spec PyProof.Rows
abbrev Key:=Sum Int Str
def keyIs:Key→Value→Bool
 | .inl k,v=>Value.isInt k v
 | .inr x,v=>Value.isStrOf x v
def keyH (w:World):Key→Int
 | .inl k=>hashInt k
 | .inr x=>hashStr w x
theorem keyIs_shape:∀ {k:Key} {v:Value},keyIs k v=true→(∃ i t,k=Sum.inl i∧v=Value.int i t)∨(∃ x t,k=Sum.inr x∧v=Value.str x t)
 | .inl i,v,h=>by
  obtain ⟨t,e⟩:=Value.isInt_shape (k:=i) (v:=v) h
  exact .inl ⟨i,t,rfl,e⟩
 | .inr x,v,h=>by
  obtain ⟨t,e⟩:=Value.isStrOf_shape (x:=x) (v:=v) h
  exact .inr ⟨x,t,rfl,e⟩
theorem keyIs_int (i:Int) (t:Tok):keyIs (.inl i) (.int i t)=true:=by simp [keyIs,Value.isInt]
theorem keyIs_str (x:Str) (t:Tok):keyIs (.inr x) (.str x t)=true:=by simp [keyIs,Value.isStrOf]
theorem key_ll (a b:Int):decide ((Sum.inl a:Key)=Sum.inl b)=(a==b):=by
 by_cases e:a=b
 ·subst e; simp
 ·have h:¬ (Sum.inl a:Key)=Sum.inl b:=fun q=>e (Sum.inl.inj q)
  rw [decide_eq_false h]
  exact (beq_eq_false_iff_ne.mpr e).symm
theorem key_rr (a b:Str):decide ((Sum.inr a:Key)=Sum.inr b)=decide (a=b):=by
 by_cases e:a=b
 ·subst e; simp
 ·have h:¬ (Sum.inr a:Key)=Sum.inr b:=fun q=>e (Sum.inr.inj q)
  rw [decide_eq_false h,decide_eq_false e]
theorem key_lr (a:Int) (b:Str):decide ((Sum.inl a:Key)=Sum.inr b)=false:=decide_eq_false (fun q=>nomatch q)
theorem key_rl (a:Str) (b:Int):decide ((Sum.inr a:Key)=Sum.inl b)=false:=decide_eq_false (fun q=>nomatch q)
def mixKind (prog:Program) (w:World):PySem.KeyKind prog w Key where
 is:=keyIs
 hash:=keyH w
 inj:=fun v a b ha hb=>by
  rcases keyIs_shape ha with ⟨i,t,rfl,rfl⟩ | ⟨x,t,rfl,rfl⟩
  ·rcases keyIs_shape hb with ⟨j,u,rfl,e⟩ | ⟨y,u,rfl,e⟩
   ·injection e with e1 _; rw [e1]
   ·exact nomatch e
  ·rcases keyIs_shape hb with ⟨j,u,rfl,e⟩ | ⟨y,u,rfl,e⟩
   ·exact nomatch e
   ·injection e with e1 _; rw [e1]
 byValue:=fun k v h=>by
  rcases keyIs_shape h with ⟨i,t,rfl,rfl⟩ | ⟨x,t,rfl,rfl⟩<;>rfl
 pyHash:=fun hv h=>by
  rcases keyIs_shape hv with ⟨i,t,rfl,rfl⟩ | ⟨x,t,rfl,rfl⟩
  ·exact wpAny_pyHash_int h
  ·exact wpAny_pyHash_str h
 eqBool:=fun hu hv h=>by
  rcases keyIs_shape hu with ⟨i,t,rfl,rfl⟩ | ⟨x,t,rfl,rfl⟩
  ·rcases keyIs_shape hv with ⟨j,u,rfl,rfl⟩ | ⟨y,u,rfl,rfl⟩
   ·rw [key_ll] at h; exact wpAny_eqBool_int h
   ·rw [key_lr] at h; exact SeqAt.EqAt.int_str i t y u _ _ _ _ h
  ·rcases keyIs_shape hv with ⟨j,u,rfl,rfl⟩ | ⟨y,u,rfl,rfl⟩
   ·rw [key_rl] at h; exact SeqAt.EqAt.str_int x t j u _ _ _ _ h
   ·rw [key_rr] at h; exact wpAny_eqBool_str h
 «strs»:=fun k x t v h=>by
  rcases keyIs_shape h with ⟨i,u,rfl,e⟩ | ⟨y,u,rfl,e⟩
  ·exact nomatch e
  ·injection e with e1 _
   subst e1
   cases v<;>rfl
theorem mixKind_int (prog:Program) (w:World) (i:Int) (t:Tok):(mixKind prog w).is (.inl i) (.int i t)=true:=keyIs_int i t
theorem mixKind_str (prog:Program) (w:World) (x:Str) (t:Tok):(mixKind prog w).is (.inr x) (.str x t)=true:=keyIs_str x t
end L2
namespace L2
open PySem PySem.Spec PyProof.Rows
inductive V where
 | non | bl (b:Bool) | int (i:Int) | str (x:Str) | byt (b:Array UInt8) | flt (b:UInt64) | ref (a:Addr) | ty (n:String)
 deriving DecidableEq
def RelV:V→Value→Prop
 | .non,u=>u=Value.none
 | .bl b,u=>u=Value.bool b
 | .int i,u=>∃ t,u=Value.int i t
 | .str x,u=>∃ t,u=Value.str x t
 | .byt b,u=>∃ t,u=Value.bytes b t
 | .flt b,u=>∃ t,u=Value.float b t
 | .ref a,u=>u=Value.ref a
 | .ty n,u=>u=Value.type n
abbrev Vals:List V→List Value→Prop:=Paired RelV
theorem Vals.length {xs:List V} {us:List Value} (r:Vals xs us):xs.length=us.length:=Paired.length r
theorem Vals.get:∀ {xs:List V} {us:List Value} {i:Nat} {x:V},Vals xs us→xs[i]?=some x→∃ u,us[i]?=some u∧RelV x u
 | _,_,_,_,.nil,e=>by simp at e
 | _,_,0,_,.cons r _,e=>by simp at e; subst e; exact ⟨_,rfl,r⟩
 | _,_,i+1,x,.cons _ t,e=>by
  obtain ⟨u,h1,h2⟩:=Vals.get (i:=i) (x:=x) t (by simpa using e)
  exact ⟨u,by simpa using h1,h2⟩
theorem Vals.append:∀ {xs ys:List V} {us ws:List Value},Vals xs us→Vals ys ws→Vals (xs++ys) (us++ws)
 | _,_,_,_,.nil,s=>s
 | _,_,_,_,.cons r t,s=>.cons r (Vals.append t s)
theorem Vals.take:∀ {xs:List V} {us:List Value} (n:Nat),Vals xs us→Vals (xs.take n) (us.take n)
 | _,_,0,_=>.nil
 | _,_,_+1,.nil=>.nil
 | _,_,n+1,.cons r t=>.cons r (Vals.take n t)
theorem Vals.drop:∀ {xs:List V} {us:List Value} (n:Nat),Vals xs us→Vals (xs.drop n) (us.drop n)
 | _,_,0,r=>r
 | _,_,_+1,.nil=>.nil
 | _,_,n+1,.cons _ t=>Vals.drop n t
def RelO:Option V→Option Value→Prop
 | some v,some u=>RelV v u
 | none,none=>True
 | _,_=>False
def KV {κ:Type}:List (κ×V)→List (κ×Value)→Prop:=Paired fun (p:κ×V) (q:κ×Value)=>p.1=q.1∧RelV p.2 q.2
def kV:Key→V
 | .inl i=>.int i
 | .inr x=>.str x
inductive HO where
 | lst (xs:List V)
 | tup (xs:List V)
 | dK (kvs:List (Key×V)) | dT (kvs:List (List Key×V))
 | set (S:Int→Bool) (n:Nat)
 | ins (C dx:Addr) (fs:List (Str×V))
 | own (x:Addr)
 | xd (fs:List (Str×V))
 | met (f x:Addr)
 | rng (lo hi:Int)
 | frz (o:Obj) (u:HO)
 | tbl (ps:Array Value)
 | ext (φ:Heap→Prop)
abbrev Hp:=Addr→Option HO
def upd (H:Hp) (a:Addr) (o:HO):Hp:=fun b=>if b=a then some o else H b
theorem upd_same {H:Hp} {a:Addr} {o:HO}:upd H a o a=some o:=by unfold upd; rw [if_pos rfl]
theorem upd_ne {H:Hp} {a b:Addr} {o:HO} (h:b≠a):upd H a o b=H b:=by unfold upd; rw [if_neg h]
theorem upd_upd {H:Hp} {a:Addr} {o u:HO}:upd (upd H a o) a u=upd H a u:=by
 funext b; unfold upd; split<;>rfl
theorem ne_of {H:Hp} {a b:Addr} {o u:HO} (h:H a=some o) (h':H b=some u) (d:o≠u):a≠b:=by
 intro e; subst e; rw [h] at h'; exact d (Option.some.inj h')
theorem ne_of_none {H:Hp} {a b:Addr} {o:HO} (h:H a=some o) (h':H b=none):a≠b:=by
 intro e; subst e; rw [h] at h'; cases h'
section
variable (P:Program) (w:World)
def ObjOk (H:Hp) (h:Heap) (a:Addr):HO→Prop
  | .lst xs => xs.length ≤ sizeLine ∧ ∃ (its : List Value) (n : Nat), Vals xs its ∧ h.get? a = some { cls := .type "list", data := .seq its.toArray n }
  | .tup xs => xs.length ≤ sizeLine ∧ ∃ its : List Value, Vals xs its ∧ IsTup h a its.toArray
  | .dK kvs => kvs.length ≤ sizeLine ∧ (a == sysModules) = false ∧ ∃ vs, KV kvs vs ∧ h.DictOf (mixKind P w) a vs
  | .dT kvs => kvs.length ≤ sizeLine ∧ (a == sysModules) = false ∧ ∃ xs : List (List Key × Addr × Value),
      Paired (fun (p:List Key×V) (q:List Key×Addr×Value)=>p.1=q.1∧H q.2.1=some (.tup (p.1.map kV))∧RelV p.2 q.2.2) kvs xs ∧
      ∃ o es ep,h.get? a=some o∧o.ExactDict∧o.data=.dict es ep∧es.toList=xs.map (entryOfKey (tupleKind (mixKind P w)))∧(xs.map (·.1)).Nodup
  | .set S n => h.SetOf (intKind P w) a S n
  | .ins C dx fs => H dx = some (.own a) ∧ fs.length ≤ 1000 ∧ dx ≠ a ∧ h.get? a = some (PySem.W.instObj C dx) ∧
      ∃ mA,h.Ns1 dx mA∧(∀ f,RelO (fs.lookup f) (mA f))∧PySem.Within mA (fs.map (·.1))
  | .own _ => ∃ o, h.get? a = some o
  | .xd fs => ∃ mA, h.Ns1 a mA ∧ ∀ f, RelO (fs.lookup f) (mA f)
  | .rng lo hi => ∃ t u v, h.get? a = some { cls := .type "range", data := .fields #[.int lo t, .int hi u, .int 1 v] }
  | .frz o u => h.get? a = some o ∧ ObjOk H h a u
  | .tbl ps => h.get? a = some { cls := .none, data := .fields ps }
  | .met f x => h.get? a = some (PySem.W.methodObj (.ref f) (.ref x))
  | .ext φ => φ h ∧ (∃ o, h.get? a = some o) ∧ ∀ h1 h2 : Heap, φ h1 → (∀ o, h1.get? a = some o → h2.get? a = some o) → φ h2
def HOk (H:Hp) (h:Heap):Prop:=∀ a o,H a=some o→ObjOk P w H h a o
end
section
variable {P:Program} {w:World} {H H':Hp} {h h':Heap} {a:Addr} {o:HO}
theorem ObjOk.lt (x:ObjOk P w H h a o):a<h.objs.size:=by
 cases o with
 | lst xs=>obtain ⟨_,_,_,_,e⟩:=x; exact Heap.lt_size e
 | tup xs=>obtain ⟨_,_,_,p⟩:=x; exact p.lt
 | dK kvs=>obtain ⟨_,_,_,_,o,_,_,e,_⟩:=x; exact Heap.lt_size e
 | dT kvs=>obtain ⟨_,_,_,_,o,_,_,e,_⟩:=x; exact Heap.lt_size e
 | set S n=>obtain ⟨o,_,_,_,e,_⟩:=x; exact Heap.lt_size e
 | ins C dx fs=>obtain ⟨_,_,_,e,_⟩:=x; exact Heap.lt_size e
 | own y=>obtain ⟨_,e⟩:=x; exact Heap.lt_size e
 | xd fs=>obtain ⟨_,⟨_,_,_,e,_⟩,_⟩:=x; exact Heap.lt_size e
 | rng lo hi=>obtain ⟨_,_,_,e⟩:=x; exact Heap.lt_size e
 | frz ob u=>obtain ⟨e,_⟩:=x; exact Heap.lt_size e
 | tbl ps=>exact Heap.lt_size (show h.get? a=some _ from x)
 | met f y=>exact Heap.lt_size (show h.get? a=some _ from x)
 | ext φ=>obtain ⟨_,⟨_,e⟩,_⟩:=x; exact Heap.lt_size e
theorem Paired.mapP {α β:Type} {F G:α→β→Prop}:∀ {l₁:List α} {l₂:List β},Paired F l₁ l₂→(∀ a b,F a b→G a b)→Paired G l₁ l₂
 | _,_,.nil,_=>.nil
 | _,_,.cons r t,f=>.cons (f _ _ r) (Paired.mapP t f)
theorem ObjOk.stay (x:ObjOk P w H h a o) (k:∀ b u,(b=a∨H b=some (.own a))→h.get? b=some u→h'.get? b=some u)
  (ho:∀ b,H b=some (.own a)→H' b=some (.own a)) (ht:∀ b xs,H b=some (.tup xs)→H' b=some (.tup xs)):ObjOk P w H' h' a o:=by
 induction o with
 | lst xs=>obtain ⟨z,its,n,r,e⟩:=x; exact ⟨z,its,n,r,k _ _ (.inl rfl) e⟩
 | tup xs=>obtain ⟨z,its,r,ob,e,c⟩:=x; exact ⟨z,its,r,ob,k _ _ (.inl rfl) e,c⟩
 | dK kvs=>obtain ⟨z,y,vs,r,ob,es,ep,e,c⟩:=x; exact ⟨z,y,vs,r,ob,es,ep,k _ _ (.inl rfl) e,c⟩
 | dT kvs =>
  obtain ⟨z,y,xs,r,ob,es,ep,e,c⟩:=x
  exact ⟨z,y,xs,Paired.mapP r fun p q z=>⟨z.1,ht _ _ z.2.1,z.2.2⟩,ob,es,ep,k _ _ (.inl rfl) e,c⟩
 | set S n=>obtain ⟨ob,es,ep,t,e,c⟩:=x; exact ⟨ob,es,ep,t,k _ _ (.inl rfl) e,c⟩
 | ins C dx fs =>
  obtain ⟨d,z,ne,e,mA,⟨od,es,ep,e2,c⟩,r⟩:=x
  exact ⟨ho _ d,z,ne,k _ _ (.inl rfl) e,mA,⟨od,es,ep,k _ _ (.inr d) e2,c⟩,r⟩
 | own y=>obtain ⟨ob,e⟩:=x; exact ⟨ob,k _ _ (.inl rfl) e⟩
 | xd fs=>obtain ⟨mA,⟨od,es,ep,e,c⟩,r⟩:=x; exact ⟨mA,⟨od,es,ep,k _ _ (.inl rfl) e,c⟩,r⟩
 | rng lo hi=>obtain ⟨t,u,v,e⟩:=x; exact ⟨t,u,v,k _ _ (.inl rfl) e⟩
 | frz ob u ih=>obtain ⟨e,q⟩:=x; exact ⟨k _ _ (.inl rfl) e,ih q⟩
 | tbl ps =>
  have e:h.get? a=some { cls:=.none,data:=.fields ps }:=x
  show h'.get? a=some { cls:=.none,data:=.fields ps }
  exact k a _ (.inl rfl) e
 | met f y =>
  have e:h.get? a=some (PySem.W.methodObj (.ref f) (.ref y)):=x
  show h'.get? a=some (PySem.W.methodObj (.ref f) (.ref y))
  exact k a _ (.inl rfl) e
 | ext φ=>obtain ⟨p,⟨o,e⟩,st⟩:=x; exact ⟨st _ _ p fun o q=>k _ _ (.inl rfl) q,⟨o,k _ _ (.inl rfl) e⟩,st⟩
theorem HOk.lt (x:HOk P w H h) (e:H a=some o):a<h.objs.size:=(x a o e).lt
theorem HOk.fresh (x:HOk P w H h) (e:h.objs.size≤a):H a=none:=by
 cases q:H a with
 | none=>rfl
 | some u=>exact absurd (Nat.lt_of_lt_of_le (x.lt q) e) (Nat.lt_irrefl _)
theorem HOk.kept (x:HOk P w H h) (k:∀ b u,h.get? b=some u→h'.get? b=some u):HOk P w H h':=fun a o e =>
 (x a o e).stay (fun b u _ q=>k b u q) (fun _ q=>q) fun _ _ q=>q
theorem HOk.laid (x:HOk P w H h) (k:∀ b u,h.get? b=some u→h'.get? b=some u) (hp:h.objs.size≤a) (new:ObjOk P w (upd H a o) h' a o):HOk P w (upd H a o) h':=fun b u e=>by
 have hn:=x.fresh hp
 by_cases hb:b=a
 ·subst hb; rw [upd_same] at e; cases e; exact new
 ·rw [upd_ne hb] at e
  exact (x b u e).stay (fun c v _ q=>k c v q) (fun c q=>by rw [upd_ne (ne_of_none q hn)]; exact q) fun c xs q=>by rw [upd_ne (ne_of_none q hn)]; exact q
end
def Rd (H:Hp) (a:Addr) (u:HO):Prop:=H a=some u∨∃ o,H a=some (.frz o u)
theorem Rd.ok {P:Program} {w:World} {H:Hp} {h:Heap} {a:Addr} {u:HO} (r:Rd H a u) (x:HOk P w H h):ObjOk P w H h a u:=by
 rcases r with r | ⟨o,r⟩
 ·exact x a u r
 ·obtain ⟨_,q⟩:=x a _ r
  exact q
def Mut:Option HO→Prop
 | some (.lst _)=>True
 | some (.dK _)=>True
 | some (.dT _)=>True
 | some (.set _ _)=>True
 | some (.ins _ _ _)=>True
 | some (.ext _)=>True
 | _=>False
section
variable {P:Program} {w:World} {H:Hp} {h h':Heap} {x e:Addr} {o':HO}
theorem HOk.write (ok:HOk P w H h) (mu:Mut (H x)) (he:e=x∨H e=some (.own x)) (k:∀ b u,b≠e→h.get? b=some u→h'.get? b=some u) (heo:∃ u,h'.get? e=some u)
    (new:ObjOk P w (upd H x o') h' x o'):HOk P w (upd H x o') h':=fun b u q=>by
  have nown:∀ c y,H c=some (.own y)→c≠x:=fun c y r z=>by subst z; rw [r] at mu; exact mu
  have ntup:∀ c xs,H c=some (.tup xs)→c≠x:=fun c xs r z=>by subst z; rw [r] at mu; exact mu
  by_cases hb:b=x
  · subst hb; rw [upd_same] at q; cases q; exact new
  · rw [upd_ne hb] at q
    by_cases hbe:b=e
    · have q':H b=some (.own x):=by
        rcases he with z | z
        · exact absurd (hbe.trans z) hb
        · rw [hbe]; exact z
      rw [q] at q'; cases q'
      obtain ⟨v,hv⟩:=heo
      exact ⟨v,by rw [hbe]; exact hv⟩
    · refine (ok b u q).stay (fun c v hc r=>k c v ?_ r) (fun c r=>by rw [upd_ne (nown c b r)]; exact r) fun c xs r=>by rw [upd_ne (ntup c xs r)]; exact r
      rcases hc with rfl | hc
      · exact hbe
      · rintro rfl
        rcases he with z | z
        · exact nown c b hc z
        · rw [hc] at z; cases z; exact hb rfl
end
structure Un (fs ex:List Addr) (H H':Hp) (h h':Heap):Prop where
 keep:∀ b o,h.get? b=some o→H b=none→b∉fs→b∉ex→h'.get? b=some o
 slot:∀ b o,h.get? b=some o→H b=none→b∈fs→b∉ex→∃ sl,h'.get? b=some { o with slots:=sl }
 free:∀ b o,h.get? b=some o→H b=none→b∉ex→H' b=none
 there:∀ b o,h.get? b=some o→b∉ex→∃ o',h'.get? b=some o'
 tups:∀ b xs,H b=some (.tup xs)→H' b=some (.tup xs)
 frzs:∀ b o u,H b=some (.frz o u)→H' b=some (.frz o u)
 tbls:∀ b ps,H b=some (.tbl ps)→∃ more,H' b=some (.tbl (ps++more))
section
variable {fs fs' ex ex':List Addr} {H H1 H2:Hp} {h h1 h2 h':Heap} {a x e:Addr} {o:HO}
theorem Un.any (u:Un fs ex H H1 h h1) {b:Addr} {ob:Obj} (q:h.get? b=some ob) (n:H b=none) (hx:b∉ex):∃ sl,h1.get? b=some { ob with slots:=sl }:=by
 by_cases hb:b∈fs
 ·exact u.slot b ob q n hb hx
 ·exact ⟨ob.slots,u.keep b ob q n hb hx⟩
theorem Un.trans (a:Un fs ex H H1 h h1) (b:Un fs ex H1 H2 h1 h2):Un fs ex H H2 h h2 where
 keep:=fun c ob q n hc hx=>b.keep c ob (a.keep c ob q n hc hx) (a.free c ob q n hx) hc hx
 slot:=fun c ob q n hc hx=>by
  obtain ⟨sl,e1⟩:=a.slot c ob q n hc hx
  obtain ⟨sl',e2⟩:=b.slot c _ e1 (a.free c ob q n hx) hc hx
  exact ⟨sl',e2⟩
 free:=fun c ob q n hx=>by
  obtain ⟨o',e1⟩:=a.there c ob q hx
  exact b.free c o' e1 (a.free c ob q n hx) hx
 there:=fun c ob q hx=>by
  obtain ⟨o',e1⟩:=a.there c ob q hx
  exact b.there c o' e1 hx
 tups:=fun c xs q=>b.tups c xs (a.tups c xs q)
 frzs:=fun c ob xs q=>b.frzs c ob xs (a.frzs c ob xs q)
 tbls:=fun c ps q=>by
  obtain ⟨m1,e1⟩:=a.tbls c ps q
  obtain ⟨m2,e2⟩:=b.tbls c _ e1
  exact ⟨m1++m2,by rw [e2,Array.append_assoc]⟩
theorem Un.kept (k:∀ b u,h.get? b=some u→h'.get? b=some u):Un fs ex H H h h' :=
 ⟨fun b ob q _ _ _=>k b ob q,fun b ob q _ _ _=>⟨ob.slots,k b ob q⟩,fun _ _ _ n _=>n,fun b ob q _=>⟨ob,k b ob q⟩,fun _ _ q=>q,fun _ _ _ q=>q,fun _ ps q=>⟨#[],by rw [q]; simp⟩⟩
theorem Un.refl:Un fs ex H H h h:=Un.kept fun _ _ q=>q
theorem Un.laid (k:∀ b u,h.get? b=some u→h'.get? b=some u) (hp:h.objs.size≤a) (hn:H a=none):Un fs ex H (upd H a o) h h' where
 keep:=fun b u q _ _ _=>k b u q
 slot:=fun b u q _ _ _=>⟨u.slots,k b u q⟩
 free:=fun b u q n _=>by rw [upd_ne (Nat.ne_of_lt (Nat.lt_of_lt_of_le (Heap.lt_size q) hp))]; exact n
 there:=fun b u q _=>⟨u,k b u q⟩
 tups:=fun b xs q=>by rw [upd_ne (ne_of_none q hn)]; exact q
 frzs:=fun b u xs q=>by rw [upd_ne (ne_of_none q hn)]; exact q
 tbls:=fun b ps q=>⟨#[],by rw [upd_ne (ne_of_none q hn),q]; simp⟩
theorem Un.write (mu:Mut (H x)) (he:e=x∨H e=some (.own x)) (k:∀ b u,b≠e→h.get? b=some u→h'.get? b=some u) (heo:∃ u,h'.get? e=some u):Un fs ex H (upd H x o) h h':=by
 have hx:∀ b,H b=none→b≠x:=fun b n z=>by subst z; rw [n] at mu; exact mu
 have hb:∀ b,H b=none→b≠e:=fun b n z=>by
  subst z
  rcases he with r | r
  ·exact hx b n r
  ·rw [n] at r; cases r
 have hm:∀ b u,H b=some u→¬ Mut (some u)→b≠x:=fun b u q nm z=>by subst z; rw [q] at mu; exact nm mu
 refine ⟨fun b u q n _ _=>k b u (hb b n) q,fun b u q n _ _=>⟨u.slots,k b u (hb b n) q⟩,fun b u q n _=>by rw [upd_ne (hx b n)]; exact n,fun b u q _=>?_,
  fun b xs q=>by rw [upd_ne (hm b _ q fun z=>z)]; exact q,fun b u xs q=>by rw [upd_ne (hm b _ q fun z=>z)]; exact q,fun b ps q=>⟨#[],by rw [upd_ne (hm b _ q fun z=>z),q]; simp⟩⟩
 by_cases hbe:b=e
 ·subst hbe; exact heo
 ·exact ⟨u,k b u hbe q⟩
end
def trk (h:Heap) (H:Hp):List Addr:=(List.range h.objs.size).filter fun a=>(H a).isSome
def hidT (h:Heap) (H:Hp):Heap:=PySem.W.hideAll h (trk h H)
theorem hidT_size (h:Heap) (H:Hp):(hidT h H).objs.size=h.objs.size:=PySem.W.hideAll_size _ _
theorem hidT_get {h:Heap} {H:Hp} {b:Addr} {o:Obj} (e:h.get? b=some o) (n:H b=none):(hidT h H).get? b=some o :=
 PySem.W.hideAll_get _ e fun hm=>by
  have q:(H b).isSome=true:=(List.mem_filter.mp hm).2
  rw [n] at q; simp at q
theorem of_hidT {h:Heap} {H:Hp} {b:Addr} {o:Obj} (e:(hidT h H).get? b=some o):h.get? b=some o∧H b=none:=by
 have e':h.get? b=some o:=PySem.W.of_hideAll (trk h H) e
 refine ⟨e',?_⟩
 cases q:H b with
 | none=>rfl
 | some x =>
  have hm:b∈trk h H:=List.mem_filter.mpr ⟨List.mem_range.mpr (Heap.lt_size e'),by simp [q]⟩
  have z:(hidT h H).get? b=none:=PySem.W.hideAll_none (trk h H) hm
  rw [z] at e; cases e
def allNews (g h:Heap) (L:Addr):List (Addr×Obj):=(List.range h.objs.size).filterMap fun a=>if a=L∨(g.get? a).isSome=true then none else (h.get? a).map fun o=>(a,o)
def rest (g h:Heap) (L d:Addr):List (Addr×Obj):=(allNews g h L).filter fun p=>decide (p.1≠d)
end L2
namespace L2
open PySem PySem.Spec PyProof.Rows
structure Mod (K:PySem.W.Frag) (mg:Str→Option Value) (base:Heap):Prop where
 kin:K.In base
 glob:base.Ns mainGlobals mg
 blt:∃ mb,base.Ns builtinsNs mb∧∀ x:Str,x≠"__name__"→mb x=bootBuiltins x
 nolimit:base.NoLimit
structure Cx where
 prog:Program
 w:World
 K:PySem.W.Frag
 mg:Str→Option Value
 base:Heap
 A:Around
 N:List Str
 s₀:Shared
 H₀:Hp
 env:Env
 outer:List Env
 stack:List Env
 ex:List Addr
 fn:Str→Bool
 calm:Bool
 pn:List (Addr×Obj)
 xe:Value→Shared→Prop
def frs (l:List Env):List Addr:=l.filterMap (·.frame)
abbrev Cx.fs (X:Cx):List Addr:=frs X.outer
def Vis (sc:Scope) (x:Str):Prop:=sc.names.lookup x=some .local∨sc.names.lookup x=some .cell∨sc.names.lookup x=some .free
def Loc (sc:Scope) (x:Str):Prop:=sc.names.lookup x=some .local∨sc.names.lookup x=some .cell
def Look (env:Env) (h:Heap) (m:Str→Option Value) (x:Str) (u:Value):Prop :=
 (env.kindOf x=some .local∧m x=some u)∨((env.kindOf x=some .cell∨env.kindOf x=some .free)∧∃ c,env.cells.lookup x=some c∧h.IsCell c (some u))
structure Cx.Ok (X:Cx):Prop where
 mod:Mod X.K X.mg X.base
 kind:X.env.scope.kind=.function
 glob:X.env.globals=mainGlobals
 blt:X.env.builtins=builtinsNs
 above:X.s₀.heap.objs.size≤X.env.locals
 inj:∀ x y c,X.env.cells.lookup x=some c→X.env.cells.lookup y=some c→x=y
 has:∀ x,(X.env.kindOf x=some .cell∨X.env.kindOf x=some .free)→∃ c,X.env.cells.lookup x=some c
 cab:∀ x c,X.fn x=true→X.env.cells.lookup x=some c→X.s₀.heap.objs.size≤c
 hd:X.calm=true→X.A.handled=none
 frames:X.A.frames=some X.stack
 stk:X.stack=X.outer∨(X.stack=X.env::X.outer∧X.env.frame=some X.env.locals)
 exf:∀ b∈X.ex,b≠X.env.locals∧∀ x c,X.env.cells.lookup x=some c→c≠b
 bs:∀ b o,X.base.get? b=some o→X.s₀.heap.get? b=some o∧X.H₀ b=none
 bsz:X.base.objs.size≤X.s₀.heap.objs.size
 noex:∀ b o,X.base.get? b=some o→b∉X.ex
 exfs:∀ b∈X.ex,b∉X.fs
 funs:X.s₀.heap.FunFrames X.base X.outer
 frf:∀ b∈X.fs,X.H₀ b=none
structure Inv (X:Cx) (pins:List (Addr×Obj)) (σ:List (Option V)) (H:Hp) (s:Shared):Prop where
 ok:X.Ok
 os:s.os=X.s₀.os
 bare:AllBare s.gens
 base:Un X.fs X.ex X.H₀ H X.s₀.heap s.heap
 loc:∃ m,s.heap.Ns X.env.locals m∧∀ (i:Nat) (x:Str) (v:V),X.N[i]?=some x→σ[i]?=some (some v)→Vis X.env.scope x→∃ u,RelV v u∧Look X.env s.heap m x u
 cell:∀ x c,X.env.cells.lookup x=some c→∃ v,s.heap.IsCell c v
 free:H X.env.locals=none
 freeC:∀ x c,X.env.cells.lookup x=some c→H c=none
 pin:∀ p∈X.pn++pins,s.heap.get? p.1=some p.2∧H p.1=none∧p.1≠X.env.locals∧p.1∉X.fs∧∀ v,p.2.data≠.cell v
 hok:HOk X.prog X.w H s.heap
 len:σ.length=X.N.length
section
variable {X:Cx} {pins:List (Addr×Obj)} {σ:List (Option V)} {H H':Hp} {s:Shared} {h':Heap}
theorem Cx.Ok.nofr (ok:X.Ok) {b:Addr} {o:Obj} (e:X.base.get? b=some o):b∉X.fs:=fun hb=>by
 have:=(ok.funs.mem hb).1
 rw [e] at this; cases this
theorem Inv.bs (I:Inv X pins σ H s):∀ b o,X.base.get? b=some o→s.heap.get? b=some o∧H b=none:=fun b o e =>
 ⟨I.base.keep b o (I.ok.bs b o e).1 (I.ok.bs b o e).2 (I.ok.nofr e) (I.ok.noex b o e),I.base.free b o (I.ok.bs b o e).1 (I.ok.bs b o e).2 (I.ok.noex b o e)⟩
theorem Inv.bk (I:Inv X pins σ H s):∀ b o,X.base.get? b=some o→s.heap.get? b=some o:=fun b o e=>(I.bs b o e).1
theorem Inv.mod (I:Inv X pins σ H s):Mod X.K X.mg X.base:=I.ok.mod
theorem Inv.kIn (I:Inv X pins σ H s):X.K.In s.heap:=I.ok.mod.kin.keeps I.bk
theorem Inv.lt (I:Inv X pins σ H s):X.env.locals<s.heap.objs.size:=let ⟨_,hn,_⟩:=I.loc; hn.lt
theorem Inv.sz (I:Inv X pins σ H s):X.s₀.heap.objs.size≤s.heap.objs.size:=Nat.le_trans I.ok.above (Nat.le_of_lt I.lt)
theorem Inv.nofs (I:Inv X pins σ H s) {a:Addr} (h:s.heap.objs.size≤a):a∉X.fs:=fun hb=>by
 obtain ⟨_,o,ho,_⟩:=I.ok.funs.mem hb
 exact absurd (Nat.lt_of_lt_of_le (Heap.lt_size ho) (Nat.le_trans I.sz h)) (Nat.lt_irrefl _)
theorem Inv.cne (I:Inv X pins σ H s):∀ x c,X.env.cells.lookup x=some c→c≠X.env.locals:=fun x c e z=>by
 obtain ⟨v,o,ho,hd⟩:=I.cell x c e
 obtain ⟨m,⟨o',es,ep,ho',hd',_⟩,_⟩:=I.loc
 rw [z,ho'] at ho; cases ho; rw [hd'] at hd; cases hd
theorem Inv.funs (I:Inv X pins σ H s):s.heap.FunFrames X.base X.outer:=by
 have all:∀ (l:List Env),(∀ b∈frs l,b∈X.fs)→X.s₀.heap.FunFrames X.base l→s.heap.FunFrames X.base l:=by
  intro l
  induction l with
  | nil => intro _ _; trivial
  | cons env r ih =>
   intro hs hl
   obtain ⟨hk,⟨L,o,hf,hn,ho,hd⟩,hr⟩:=hl
   have hL:L∈X.fs:=hs L (by unfold frs; rw [List.filterMap_cons,hf]; exact List.mem_cons_self)
   obtain ⟨sl,e⟩:=I.base.slot L o ho (I.ok.frf L hL) hL fun z=>I.ok.exfs L z hL
   exact ⟨hk,⟨L,_,hf,hn,e,hd⟩,ih (fun b hb=>hs b (by unfold frs; rw [List.filterMap_cons,hf]; exact List.mem_cons_of_mem _ hb)) hr⟩
 exact all X.outer (fun _ hb=>hb) I.ok.funs
theorem Inv.stack (I:Inv X pins σ H s):s.heap.FunFrames X.base X.stack:=by
 rcases I.ok.stk with e | ⟨e,hf⟩
 ·rw [e]; exact I.funs
 ·rw [e]
  obtain ⟨m,hn,_⟩:=I.loc
  refine .cons (by rw [I.ok.kind]; decide) hf hn ?_ I.funs
  exact Heap.get?_none_of_le (Nat.le_trans I.ok.bsz I.ok.above)
theorem Inv.stkSub (I:Inv X pins σ H s):∀ b∈frs X.stack,b∈X.env.locals::X.fs:=fun b hb=>by
 rcases I.ok.stk with e | ⟨e,hf⟩
 ·rw [e] at hb; exact List.mem_cons_of_mem _ hb
 ·rw [e] at hb
  unfold frs at hb
  rw [List.filterMap_cons,hf] at hb
  exact hb
theorem Inv.stkFree (I:Inv X pins σ H s):∀ b∈frs X.stack,H b=none:=fun b hb=>by
 rcases List.mem_cons.mp (I.stkSub b hb) with e | hb
 ·rw [e]; exact I.free
 ·obtain ⟨_,o,ho,_⟩:=I.ok.funs.mem hb
  exact I.base.free b o ho (I.ok.frf b hb) fun z=>I.ok.exfs b z hb
theorem Inv.step {g':Array GenState} {t':Nat} {d':Drawn} {ch:List Addr} (I:Inv X pins σ H s)
  (hch:∀ b∈ch,(b∈X.ex∨X.s₀.heap.objs.size≤b)∧b≠X.env.locals∧(∀ x c,X.env.cells.lookup x=some c→c≠b)∧∀ p∈X.pn++pins,p.1≠b)
  (keep:∀ b o,b≠X.env.locals→b∉X.fs→b∉ch→s.heap.get? b=some o→H b=none→h'.get? b=some o)
  (slot:∀ b o,b≠X.env.locals→b∈X.fs→b∉ch→s.heap.get? b=some o→H b=none→∃ sl,h'.get? b=some { o with slots:=sl }) (free:∀ b o,b∉ch→s.heap.get? b=some o→H b=none→H' b=none)
  (there:∀ b o,b∉ch→s.heap.get? b=some o→∃ o',h'.get? b=some o')
  (tups:∀ b xs,H b=some (.tup xs)→H' b=some (.tup xs)) (frzs:∀ b o u,H b=some (.frz o u)→H' b=some (.frz o u)) (tbls:∀ b ps,H b=some (.tbl ps)→∃ more,H' b=some (.tbl (ps++more)))
  (ns:∀ m,s.heap.Ns X.env.locals m→h'.Ns X.env.locals m) (hok:HOk X.prog X.w H' h') (hg:AllBare g') :
  Inv X pins σ H' { s with heap:=h',gens:=g',drawn:=d',toks:=t' }:=by
 have neL:∀ b o,X.s₀.heap.get? b=some o→b≠X.env.locals:=fun b o e=>Nat.ne_of_lt (Nat.lt_of_lt_of_le (Heap.lt_size e) I.ok.above)
 have neC:∀ b o,X.s₀.heap.get? b=some o→b∉X.ex→b∉ch:=fun b o e hx hb=>by
  rcases (hch b hb).1 with z | z
  ·exact hx z
  ·exact absurd (Nat.lt_of_lt_of_le (Heap.lt_size e) z) (Nat.lt_irrefl _)
 have cellK:∀ x c,X.env.cells.lookup x=some c→∀ v,s.heap.IsCell c v→h'.IsCell c v:=fun x c e v ⟨o,ho,hd⟩=>by
  have nch:c∉ch:=fun z=>(hch c z).2.2.1 x c e rfl
  by_cases hc:c∈X.fs
  ·obtain ⟨sl,q⟩:=slot c o (I.cne x c e) hc nch ho (I.freeC x c e)
   exact ⟨_,q,hd⟩
  ·exact ⟨o,keep c o (I.cne x c e) hc nch ho (I.freeC x c e),hd⟩
 refine ⟨I.ok,I.os,hg,⟨fun b o e n hb hx=>?_,fun b o e n hb hx=>?_,fun b o e n hx=>?_,fun b o e hx=>?_,fun b xs e=>tups b xs (I.base.tups b xs e),fun b o xs e=>frzs b o xs (I.base.frzs b o xs e),fun b ps e=>?_⟩,?_,fun x c e=>?_,?_,fun x c e=>?_,fun p hp=>?_,hok,I.len⟩
 ·exact keep b o (neL b o e) hb (neC b o e hx) (I.base.keep b o e n hb hx) (I.base.free b o e n hx)
 ·obtain ⟨sl,e1⟩:=I.base.slot b o e n hb hx
  obtain ⟨sl',e2⟩:=slot b _ (neL b o e) hb (neC b o e hx) e1 (I.base.free b o e n hx)
  exact ⟨sl',e2⟩
 ·obtain ⟨o',e1⟩:=I.base.there b o e hx
  exact free b o' (neC b o e hx) e1 (I.base.free b o e n hx)
 ·obtain ⟨o',e1⟩:=I.base.there b o e hx
  exact there b o' (neC b o e hx) e1
 ·obtain ⟨m1,e1⟩:=I.base.tbls b ps e
  obtain ⟨m2,e2⟩:=tbls b _ e1
  exact ⟨m1++m2,by rw [e2,Array.append_assoc]⟩
 ·obtain ⟨m,hn,hl⟩:=I.loc
  refine ⟨m,ns m hn,fun i x v e1 e2 e3=>?_⟩
  obtain ⟨u,r,l⟩:=hl i x v e1 e2 e3
  refine ⟨u,r,?_⟩
  rcases l with l | ⟨k,c,e,z⟩
  ·exact .inl l
  ·exact .inr ⟨k,c,e,cellK x c e _ z⟩
 ·obtain ⟨v,z⟩:=I.cell x c e
  exact ⟨v,cellK x c e v z⟩
 ·obtain ⟨m,⟨o,_,_,ho,_⟩,_⟩:=I.loc
  exact free _ o (fun z=>(hch _ z).2.1 rfl) ho I.free
 ·obtain ⟨v,o,ho,hd⟩:=I.cell x c e
  exact free c o (fun z=>(hch c z).2.2.1 x c e rfl) ho (I.freeC x c e)
 ·obtain ⟨e,n,ne,nf,d⟩:=I.pin p hp
  have nch:p.1∉ch:=fun z=>(hch p.1 z).2.2.2 p hp rfl
  exact ⟨keep p.1 p.2 ne nf nch e n,free p.1 p.2 nch e n,ne,nf,d⟩
theorem Inv.un {t':Nat} (I:Inv X pins σ H s) (u:Un X.fs [] H H' s.heap h') (hok:HOk X.prog X.w H' h'):Inv X pins σ H' { s with heap:=h',toks:=t' }:=by
 obtain ⟨m,⟨o,es,ep,ho,r⟩,_⟩:=id I.loc
 obtain ⟨sl,hL⟩:=u.any ho I.free (by simp)
 exact I.step (g':=s.gens) (d':=s.drawn) (ch:=[]) (fun _ z=>nomatch z) (fun b o _ hb _ e n=>u.keep b o e n hb (by simp)) (fun b o _ hb _ e n=>u.slot b o e n hb (by simp)) (fun b o _ e n=>u.free b o e n (by simp)) (fun b o _ e=>u.there b o e (by simp)) u.tups u.frzs u.tbls (fun m' hm=>by
  obtain ⟨o',es',ep',ho',r'⟩:=hm
  rw [ho] at ho'; cases ho'
  exact ⟨_,es',ep',hL,r'⟩) hok I.bare
theorem Inv.call {g':Array GenState} {t':Nat} {d':Drawn} {ch:List Addr} (I:Inv X pins σ H s) (u:Un (frs X.stack) ch H H' s.heap h') (hok:HOk X.prog X.w H' h') (hg:AllBare g')
  (hch:∀ b∈ch,(b∈X.ex∨X.s₀.heap.objs.size≤b)∧b≠X.env.locals∧(∀ x c,X.env.cells.lookup x=some c→c≠b)∧∀ p∈X.pn++pins,p.1≠b) :
  Inv X pins σ H' { s with heap:=h',gens:=g',drawn:=d',toks:=t' }:=by
 obtain ⟨m,⟨o,es,ep,ho,r⟩,_⟩:=id I.loc
 obtain ⟨sl,hL⟩:=u.any ho I.free fun z=>(hch _ z).2.1 rfl
 exact I.step (ch:=ch) hch (fun b o hL hb hc e n=>u.keep b o e n (fun z=>(List.mem_cons.mp (I.stkSub b z)).elim hL hb) hc) (fun b o _ _ hc e n=>u.any e n hc) (fun b o hc e n=>u.free b o e n hc) (fun b o hc e=>u.there b o e hc) u.tups u.frzs u.tbls (fun m' hm=>by
  obtain ⟨o',es',ep',ho',r'⟩:=hm
  rw [ho] at ho'; cases ho'
  exact ⟨_,es',ep',hL,r'⟩) hok hg
theorem Inv.turned {t':Nat} {it:Addr} (I:Inv X pins σ H s) (k:∀ b o,b≠it→s.heap.get? b=some o→h'.get? b=some o) (hn:H it=none) (hL:it≠X.env.locals)
  (h1:it∈X.ex∨X.s₀.heap.objs.size≤it) (h2:∀ x c,X.env.cells.lookup x=some c→c≠it) (h3:∀ p∈X.pn++pins,p.1≠it):Inv X pins σ H { s with heap:=h',toks:=t' }:=by
 have nit:∀ b u,H b=some u→b≠it:=fun b u e z=>by rw [z,hn] at e; cases e
 refine I.step (g':=s.gens) (d':=s.drawn) (ch:=[it]) (fun b hb=>?_) (fun b o _ _ hc e _=>k b o (fun z=>hc (by simp [z])) e) (fun b o _ _ hc e _=>⟨o.slots,k b o (fun z=>hc (by simp [z])) e⟩) (fun _ _ _ _ n=>n)
  (fun b o hc e=>⟨o,k b o (fun z=>hc (by simp [z])) e⟩) (fun _ _ e=>e) (fun _ _ _ e=>e) (fun b ps e=>⟨#[],by rw [e]; simp⟩) (fun m hm=>?_) (fun b u e=>?_) I.bare
 ·have e:b=it:=by simpa using hb
  subst e
  exact ⟨h1,hL,h2,h3⟩
 ·obtain ⟨o,es,ep,ho,r⟩:=hm
  exact ⟨o,es,ep,k _ o (Ne.symm hL) ho,r⟩
 ·refine (I.hok b u e).stay (fun c v hc q=>k c v ?_ q) (fun _ q=>q) fun _ _ q=>q
  rcases hc with z | z
  ·rw [z]; exact nit b u e
  ·exact nit c _ z
theorem Inv.tok (I:Inv X pins σ H s) (t:Nat):Inv X pins σ H { s with toks:=t }:=I.un (h':=s.heap) (t':=t) Un.refl I.hok
theorem Inv.kept {t':Nat} (I:Inv X pins σ H s) (k:∀ b u,s.heap.get? b=some u→h'.get? b=some u):Inv X pins σ H { s with heap:=h',toks:=t' }:=I.un (Un.kept k) (I.hok.kept k)
theorem Inv.laid {a:Addr} {o:HO} {t':Nat} (I:Inv X pins σ H s) (k:∀ b u,s.heap.get? b=some u→h'.get? b=some u) (hp:s.heap.objs.size≤a) (new:ObjOk X.prog X.w (upd H a o) h' a o) :
  Inv X pins σ (upd H a o) { s with heap:=h',toks:=t' }:=I.un (Un.laid k hp (I.hok.fresh hp)) (I.hok.laid k hp new)
theorem Inv.write {x e:Addr} {o:HO} {t':Nat} (I:Inv X pins σ H s) (mu:Mut (H x)) (he:e=x∨H e=some (.own x)) (k:∀ b u,b≠e→s.heap.get? b=some u→h'.get? b=some u) (heo:∃ u,h'.get? e=some u)
  (new:ObjOk X.prog X.w (upd H x o) h' x o):Inv X pins σ (upd H x o) { s with heap:=h',toks:=t' }:=I.un (Un.write mu he k heo) (I.hok.write mu he k heo new)
theorem Inv.pins_of {pins':List (Addr×Obj)} (I:Inv X pins σ H s) (h:∀ p∈pins',s.heap.get? p.1=some p.2∧H p.1=none∧p.1≠X.env.locals∧p.1∉X.fs∧∀ v,p.2.data≠.cell v):Inv X pins' σ H s :=
 ⟨I.ok,I.os,I.bare,I.base,I.loc,I.cell,I.free,I.freeC,fun p hp=>(List.mem_append.mp hp).elim (fun z=>I.pin p (List.mem_append_left _ z)) (h p),I.hok,I.len⟩
theorem nodup_ix {N:List Str} (hN:N.Nodup) {i j:Nat} {x:Str} (a:N[i]?=some x) (b:N[j]?=some x):i=j:=by
 obtain ⟨h1,e1⟩:=List.getElem?_eq_some_iff.mp a
 obtain ⟨h2,e2⟩:=List.getElem?_eq_some_iff.mp b
 exact (List.getElem_inj hN).mp (e1.trans e2.symm)
theorem store_ok2 {M:Model} {A:Around} {E:Value→Shared→Prop} {i:Nat} {x:Str} {v:V} {u:Value} {Q:Unit→Shared→Prop} (I:Inv X pins σ H s) (hN:X.N.Nodup) (hi:X.N[i]?=some x) (hx:Loc X.env.scope x) (r:RelV v u)
    (h:∀ s',Inv X pins (σ.set i (some v)) H s'→(∃ a,Heap.SameBut a s.heap s'.heap∧(a=X.env.locals∨X.env.cells.lookup x=some a))→Q () s') (hf:X.fn x=true∨X.env.scope.names.lookup x=some .local:=by first | exact .inl rfl | exact .inr rfl | assumption):wpAny M A (storeName X.env x u) Q E s:=by
  obtain ⟨m,hn,hl⟩:=id I.loc
  have hcls:(X.env.scope.kind==.class||(X.env.scope.kind==.module&&X.env.locals != X.env.globals))=false:=by rw [I.ok.kind]; rfl
  have hiσ:i<σ.length:=by rw [I.len]; exact (List.getElem?_eq_some_iff.mp hi).1
  have cne:=I.cne
  have tracked:∀ {a:Addr} {h':Heap},(∃ o,s.heap.get? a=some o∧H a=none)→Heap.SameBut a s.heap h'→HOk X.prog X.w H h':=fun {a h'} ha hs b ob e=>by
    obtain ⟨_,_,hfree⟩:=ha
    refine (I.hok b ob e).stay (fun c w' hc q=>(hs.2 c ?_).trans q) (fun _ q=>q) fun _ _ q=>q
    rintro rfl
    rcases hc with rfl | hc
    · rw [hfree] at e; cases e
    · rw [hfree] at hc; cases hc
  rcases hx with hk | hk
  · refine wpAny_storeName_local hk hn (fun h' hn' hs=>?_) hcls
    obtain ⟨oL,_,_,hoL,_⟩:=id hn
    refine h _ ⟨I.ok,I.os,I.bare,⟨fun b o e n hb hx=>?_,fun b o e n hb hx=>?_,I.base.free,fun b o e hx=>?_,I.base.tups,I.base.frzs,I.base.tbls⟩,⟨_,hn',fun j y v' e1 e2 e3=>?_⟩,fun y c e=>?_,I.free,I.freeC,fun p hp=>?_,tracked ⟨oL,hoL,I.free⟩ hs,by simpa using I.len⟩ ⟨_,hs,.inl rfl⟩
    · exact (hs.2 b (Nat.ne_of_lt (Nat.lt_of_lt_of_le (Heap.lt_size e) I.ok.above))).trans (I.base.keep b o e n hb hx)
    · obtain ⟨sl,e1⟩:=I.base.slot b o e n hb hx
      exact ⟨sl,(hs.2 b (Nat.ne_of_lt (Nat.lt_of_lt_of_le (Heap.lt_size e) I.ok.above))).trans e1⟩
    · obtain ⟨o',e1⟩:=I.base.there b o e hx
      exact ⟨o',(hs.2 b (Nat.ne_of_lt (Nat.lt_of_lt_of_le (Heap.lt_size e) I.ok.above))).trans e1⟩
    · by_cases hj:j=i
      · subst hj
        rw [hi] at e1; cases e1
        rw [List.getElem?_set_self hiσ] at e2
        cases e2
        exact ⟨u,r,.inl ⟨hk,by simp⟩⟩
      · rw [List.getElem?_set_ne (Ne.symm hj)] at e2
        obtain ⟨u',r',q⟩:=hl j y v' e1 e2 e3
        refine ⟨u',r',?_⟩
        rcases q with ⟨k,e⟩ | ⟨k,c,e,z⟩
        · refine .inl ⟨k,?_⟩
          have:y≠x:=fun e=>hj (nodup_ix hN e1 (e ▸ hi))
          simp [this,e]
        · exact .inr ⟨k,c,e,z.sameBut hs (cne y c e)⟩
    · obtain ⟨w',z⟩:=I.cell y c e
      exact ⟨w',z.sameBut hs (cne y c e)⟩
    · obtain ⟨e,n,ne,nf,d⟩:=I.pin p hp
      exact ⟨(hs.2 p.1 ne).trans e,n,ne,nf,d⟩
  · have hfn:X.fn x=true:=by
      rcases hf with z | z
      · exact z
      · rw [z] at hk; cases hk
    obtain ⟨c,hc⟩:=I.ok.has x (.inl hk)
    obtain ⟨w',z⟩:=I.cell x c hc
    refine wpAny_storeName_cell I.ok.kind hk hc z (fun h' hc' hs=>?_)
    obtain ⟨oc,hoc,hocd⟩:=id z
    refine h { s with heap:=h' } ⟨I.ok,I.os,I.bare,⟨fun b o e n hb hx=>?_,fun b o e n hb hx=>?_,I.base.free,fun b o e hx=>?_,I.base.tups,I.base.frzs,I.base.tbls⟩,⟨m,hn.sameBut hs (Ne.symm (cne x c hc)),fun j y v' e1 e2 e3=>?_⟩,fun y c' e=>?_,I.free,I.freeC,fun p hp=>?_,tracked ⟨oc,hoc,I.freeC x c hc⟩ hs,by simpa using I.len⟩ ⟨c,hs,.inr hc⟩
    · exact (hs.2 b (Nat.ne_of_lt (Nat.lt_of_lt_of_le (Heap.lt_size e) (I.ok.cab x c hfn hc)))).trans (I.base.keep b o e n hb hx)
    · obtain ⟨sl,e1⟩:=I.base.slot b o e n hb hx
      exact ⟨sl,(hs.2 b (Nat.ne_of_lt (Nat.lt_of_lt_of_le (Heap.lt_size e) (I.ok.cab x c hfn hc)))).trans e1⟩
    · obtain ⟨o',e1⟩:=I.base.there b o e hx
      exact ⟨o',(hs.2 b (Nat.ne_of_lt (Nat.lt_of_lt_of_le (Heap.lt_size e) (I.ok.cab x c hfn hc)))).trans e1⟩
    · by_cases hj:j=i
      · subst hj
        rw [hi] at e1; cases e1
        rw [List.getElem?_set_self hiσ] at e2
        cases e2
        exact ⟨u,r,.inr ⟨.inl hk,c,hc,hc'⟩⟩
      · rw [List.getElem?_set_ne (Ne.symm hj)] at e2
        obtain ⟨u',r',q⟩:=hl j y v' e1 e2 e3
        refine ⟨u',r',?_⟩
        rcases q with q | ⟨k,c',e,z'⟩
        · exact .inl q
        · refine .inr ⟨k,c',e,z'.sameBut hs ?_⟩
          rintro rfl
          exact hj (nodup_ix hN e1 (I.ok.inj _ _ _ e hc ▸ hi))
    · by_cases hcc:c'=c
      · subst hcc; exact ⟨_,hc'⟩
      · obtain ⟨w2,z2⟩:=I.cell y c' e
        exact ⟨w2,z2.sameBut hs hcc⟩
    · obtain ⟨e,n,ne,nf,d⟩:=I.pin p hp
      refine ⟨(hs.2 p.1 ?_).trans e,n,ne,nf,d⟩
      intro q
      rw [q,hoc] at e
      have q':oc=p.2:=Option.some.inj e
      exact d w' (by rw [← q']; exact hocd)
theorem store_ok {M:Model} {A:Around} {E:Value→Shared→Prop} {i:Nat} {x:Str} {v:V} {u:Value} {Q:Unit→Shared→Prop} (I:Inv X pins σ H s) (hN:X.N.Nodup) (hi:X.N[i]?=some x) (hx:Loc X.env.scope x) (r:RelV v u)
  (h:∀ s',Inv X pins (σ.set i (some v)) H s'→Q () s') (hf:X.fn x=true∨X.env.scope.names.lookup x=some .local:=by first | exact .inl rfl | exact .inr rfl | assumption):wpAny M A (storeName X.env x u) Q E s :=
 store_ok2 I hN hi hx r (fun s' I' _=>h s' I') hf
theorem Inv.call' {s':Shared} {ch:List Addr} (I:Inv X pins σ H s) (ho:s'.os=s.os) (u:Un (frs X.stack) ch H H' s.heap s'.heap) (hok:HOk X.prog X.w H' s'.heap) (hg:AllBare s'.gens)
  (hch:∀ b∈ch,(b∈X.ex∨X.s₀.heap.objs.size≤b)∧b≠X.env.locals∧(∀ x c,X.env.cells.lookup x=some c→c≠b)∧∀ p∈X.pn++pins,p.1≠b):Inv X pins σ H' s':=by
 obtain ⟨h',g',d',t',o'⟩:=s'
 have e:o'=s.os:=ho
 subst e
 exact I.call (g':=g') (t':=t') (d':=d') u hok hg hch
end
abbrev XK:=Value→Option Addr→Hp→Prop
abbrev St:=List (Option V)
abbrev VK:=V→Hp→Prop
abbrev TE:=St→Hp→VK→Prop
abbrev TT:=St→Hp→(Bool→Hp→Prop)→Prop
abbrev TA:=St→Hp→(List V→Hp→Prop)→Prop
structure Ends where
 nx:St→Hp→Prop
 rt:VK
 bk:St→Hp→Prop:=fun _ _=>False
 ct:St→Hp→Prop:=fun _ _=>False
abbrev TS:=Ends→St→Hp→Prop
def EP (X:Cx) (pins:List (Addr×Obj)) (σ:St) (Q:VK) (u:Value) (s':Shared):Prop:=∃ v H',Inv X pins σ H' s'∧RelV v u∧Q v H'
def TP (X:Cx) (pins:List (Addr×Obj)) (σ:St) (Q:Bool→Hp→Prop) (b:Bool) (s':Shared):Prop:=∃ H',Inv X pins σ H' s'∧Q b H'
def AP (X:Cx) (pins:List (Addr×Obj)) (σ:St) (Q:List V→Hp→Prop) (us:List Value) (s':Shared):Prop:=∃ vs H',Inv X pins σ H' s'∧Vals vs us∧Q vs H'
def SP (X:Cx) (pins:List (Addr×Obj)) (D:Ends) (f:Flow) (s':Shared):Prop :=
 match f with
 | .next=>∃ σ' H',Inv X pins σ' H' s'∧D.nx σ' H'
 | .brk=>∃ σ' H',Inv X pins σ' H' s'∧D.bk σ' H'
 | .cont=>∃ σ' H',Inv X pins σ' H' s'∧D.ct σ' H'
 | .ret u=>∃ v σ' H',Inv X pins σ' H' s'∧RelV v u∧D.rt v H'
def PE (X:Cx) (e:Expr) (t:TE):Prop :=
 ∀ (pins:List (Addr×Obj)) (s:Shared) (σ:St) (H:Hp) (Q:VK),Inv X pins σ H s→t σ H Q→wpAny (model X.prog X.w) X.A (eval e X.env) (EP X pins σ Q) X.xe s
def PT (X:Cx) (e:Expr) (t:TT):Prop :=
 ∀ (pins:List (Addr×Obj)) (s:Shared) (σ:St) (H:Hp) (Q:Bool→Hp→Prop),Inv X pins σ H s→t σ H Q→wpAny (model X.prog X.w) X.A (isTrue e X.env (eval e X.env)) (TP X pins σ Q) X.xe s
def PW (X:Cx) (e:Expr) (t:TT):Prop :=
 ∀ (whole:Sem Value) (pins:List (Addr×Obj)) (s:Shared) (σ:St) (H:Hp) (Q:Bool→Hp→Prop),Inv X pins σ H s→t σ H Q→wpAny (model X.prog X.w) X.A (isTrue e X.env whole) (TP X pins σ Q) X.xe s
theorem PW.pt {X:Cx} {e:Expr} {t:TT} (h:PW X e t):PT X e t:=h _
def PA (X:Cx) (es:List Expr) (t:TA):Prop :=
 ∀ (pos:Pos) (pins:List (Addr×Obj)) (s:Shared) (σ:St) (H:Hp) (Q:List V→Hp→Prop),Inv X pins σ H s→t σ H Q→wpAny (model X.prog X.w) X.A (spliced (backTo pos (starEach es X.env))) (AP X pins σ Q) X.xe s
def PS (X:Cx) (st:Stmt) (t:TS):Prop :=
 ∀ (pins:List (Addr×Obj)) (s:Shared) (σ:St) (H:Hp) (D:Ends),Inv X pins σ H s→t D σ H→wpAny (model X.prog X.w) X.A (exec st X.env) (SP X pins D) X.xe s
def PSs (X:Cx) (st:List Stmt) (t:TS):Prop :=
 ∀ (pins:List (Addr×Obj)) (s:Shared) (σ:St) (H:Hp) (D:Ends),Inv X pins σ H s→t D σ H→wpAny (model X.prog X.w) X.A (execs st X.env) (SP X pins D) X.xe s
theorem thn {α:Type} {t:Sem α} {Q Q':α→Shared→Prop} {M:Model} {A:Around} {E:Value→Shared→Prop} {s:Shared} (h:wpAny M A t Q E s) (hQ:∀ a s,Q a s→Q' a s):wpAny M A t Q' E s:=wpAny_mono h hQ fun _ _ x=>x
end L2
namespace L2
open PySem PySem.Spec PyProof.Rows
section
variable {X:Cx}
def tVar (i:Nat):TE:=fun σ H Q=>∃ v,σ[i]?=some (some v)∧Q v H
def tC (v:V):TE:=fun _ H Q=>Q v H
theorem pe_var {i:Nat} {x:Str} {pos:Pos} (hN:X.N[i]?=some x) (hv:Vis X.env.scope x) (hd:(x==("__debug__":Str))=false:=by decide) (hcd:(x==("__classdict__":Str))=false:=by decide):PE X (.Name x pos) (tVar i):=by
 intro pins s σ H Q I h
 obtain ⟨v,e,h⟩:=h
 obtain ⟨m,hn,hl⟩:=I.loc
 obtain ⟨u,r,l⟩:=hl i x v hN e hv
 have fin:EP X pins σ Q u s:=⟨v,H,I,r,h⟩
 rcases l with ⟨hk,hm⟩ | ⟨hk,c,hc,hcell⟩
 ·exact wpAny_Name (wpAny_loadName_local I.ok.kind hk hn hm fin) hd
 ·rcases hk with hk | hk
  ·exact wpAny_Name (wpAny_loadName_cell I.ok.kind hk hc hcell fin) hd
  ·exact wpAny_Name (wpAny_loadName_free I.ok.kind hk hc hcell fin hcd) hd
theorem pe_int {i j pos}:PE X (.Constant (.int i) j pos) (tC (.int i)):=fun _ _ _ H _ I h=>wpAny_Constant_int ⟨.int i,H,I.tok _,⟨_,rfl⟩,h⟩
theorem pe_bl {b j pos}:PE X (.Constant (.bool b) j pos) (tC (.bl b)):=fun _ _ _ H _ I h=>Constant_bool ⟨.bl b,H,I,rfl,h⟩
theorem pe_non {j pos}:PE X (.Constant .none j pos) (tC .non):=fun _ _ _ H _ I h=>Constant_none ⟨.non,H,I,rfl,h⟩
theorem pe_str {x j pos}:PE X (.Constant (.str x) j pos) (tC (.str x)):=fun _ _ _ H _ I h=>Calls.Constant_str ⟨.str x,H,I.tok _,⟨_,rfl⟩,h⟩
def Gl (X:Cx) (x:Str):Prop:=X.env.kindOf x=some .globalImplicit
theorem ld_glob {E:Value→Shared→Prop} {pins:List (Addr×Obj)} {s:Shared} {σ:St} {H:Hp} {x:Str} {u:Value} {pos:Pos} {Q:Value→Shared→Prop} (I:Inv X pins σ H s) (hg:Gl X x) (hm:X.mg x=some u) (h:Q u s)
  (hd:(x==("__debug__":Str))=false:=by decide):wpAny (model X.prog X.w) X.A (eval (.Name x pos) X.env) Q E s :=
 Calls.Name_function_global I.ok.kind hg (Calls.loadGlobal_global (by rw [I.ok.glob]; exact I.mod.glob.keeps I.bk) hm h) hd
theorem ld_blt {E:Value→Shared→Prop} {pins:List (Addr×Obj)} {s:Shared} {σ:St} {H:Hp} {x:Str} {u:Value} {pos:Pos} {Q:Value→Shared→Prop} (I:Inv X pins σ H s) (hg:Gl X x) (hm:X.mg x=none) (hv:bootBuiltins x=some u) (h:Q u s)
  (hn:x≠"__name__":=by decide) (hd:(x==("__debug__":Str))=false:=by decide):wpAny (model X.prog X.w) X.A (eval (.Name x pos) X.env) Q E s:=by
 obtain ⟨mb,h1,h2⟩:=I.mod.blt
 exact Calls.Name_function_global I.ok.kind hg (Calls.loadGlobal_builtin (by rw [I.ok.glob]; exact I.mod.glob.keeps I.bk) hm (by rw [I.ok.blt]; exact h1.keeps I.bk) ((h2 x hn).trans hv) h) hd
theorem pe_glob {x:Str} {v:V} {u:Value} {pos:Pos} (hg:Gl X x) (hm:X.mg x=some u) (r:RelV v u) (hd:(x==("__debug__":Str))=false:=by decide):PE X (.Name x pos) (tC v) :=
 fun _ _ _ H _ I h=>ld_glob I hg hm ⟨v,H,I,r,h⟩ hd
theorem pe_bltn {x:Str} {v:V} {u:Value} {pos:Pos} (hg:Gl X x) (hm:X.mg x=none) (hv:bootBuiltins x=some u) (r:RelV v u) (hn:x≠"__name__":=by decide) (hd:(x==("__debug__":Str))=false:=by decide):PE X (.Name x pos) (tC v) :=
 fun _ _ _ H _ I h=>ld_blt I hg hm hv ⟨v,H,I,r,h⟩ hn hd
variable {a b:Expr} {ta tb:TE} {pos:Pos}
def PC (X:Cx) (op:CmpOp) (a b:Expr) (t:TE):Prop :=
 ∀ (pins:List (Addr×Obj)) (s:Shared) (σ:St) (H:Hp) (Q:VK),Inv X pins σ H s→t σ H Q →
  wpAny (model X.prog X.w) X.A (eval a X.env) (fun v s₁=>wpAny (model X.prog X.w) X.A (eval b X.env) (fun u s₂=>wpAny (model X.prog X.w) X.A (compareOp op v u) (EP X pins σ Q) X.xe s₂) X.xe s₁) X.xe s
def tB (t:TE):TT:=fun σ H Q=>t σ H fun x H1=>∃ c,x=.bl c∧Q c H1
theorem pe_cmp {op:CmpOp} {t:TE} (h:PC X op a b t) (h1:behindInMarks op b=false:=by first | exact nobehind _ (by decide) (by decide) | rfl):PE X (.Compare a [op] [b] pos) t:=fun pins s σ H Q I hw=>wpAny_Compare1 (h pins s σ H Q I hw) h1
theorem pt_cmp {op:CmpOp} {t:TE} (h:PC X op a b t) (h1:behindInMarks op b=false:=by first | exact nobehind _ (by decide) (by decide) | rfl):PT X (.Compare a [op] [b] pos) (tB t):=by
 intro pins s σ H Q I hw
 refine wpAny_isTrue_Compare1 (thn (h pins s σ H _ I hw) fun v s1 h1=>thn h1 fun u s2 h2=>thn h2 fun c s3 ⟨x,H1,I1,r1,q1⟩=>?_) h1
 obtain ⟨d,rfl,q⟩:=q1
 cases r1
 exact wpAny_truthy_bool ⟨H1,I1,q⟩
theorem pt_val {e:Expr} {t:TE} (h:PE X e t) (he:∀ whole,isTrue e X.env whole=(do let v ← whole; standAt e.pos; holding [v] (truthy v)):=by intro _; rfl):PT X e (tB t):=by
 intro pins s σ H Q I hw
 refine isTrue_plain (thn (h pins s σ H _ I hw) fun v s1 ⟨x,H1,I1,r1,q1⟩=>?_) (he _)
 obtain ⟨d,rfl,q⟩:=q1
 cases r1
 exact wpAny_truthy_bool ⟨H1,I1,q⟩
variable {tA tB':TT} {rest:List Expr}
def tAnd (t u:TT):TT:=fun σ H Q=>t σ H fun c H1=>if c=true then u σ H1 Q else Q false H1
def tOr (t u:TT):TT:=fun σ H Q=>t σ H fun c H1=>if c=true then Q true H1 else u σ H1 Q
def tNot (t:TT):TT:=fun σ H Q=>t σ H fun c H1=>Q (!c) H1
theorem pw_and1 (ha:PT X a tA):PW X (.BoolOp .And [a] pos) tA:=by
 intro wh pins s σ H Q I h
 refine isTrue_and (thn (ha pins s σ H Q I h) fun c s1 e=>?_)
 cases c with
 | true=>exact isTrue_and_nil e
 | false=>exact e
theorem pw_or1 (ha:PT X a tA):PW X (.BoolOp .Or [a] pos) tA:=by
 intro wh pins s σ H Q I h
 refine isTrue_or (thn (ha pins s σ H Q I h) fun c s1 e=>?_)
 cases c with
 | false=>exact isTrue_or_nil e
 | true=>exact e
theorem pw_and (ha:PT X a tA) (hb:PW X (.BoolOp .And (b::rest) pos) tB'):PW X (.BoolOp .And (a::b::rest) pos) (tAnd tA tB'):=by
 intro wh pins s σ H Q I h
 refine isTrue_and (thn (ha pins s σ H _ I h) fun c s1 ⟨H1,I1,q1⟩=>?_)
 cases c with
 | true=>exact hb wh pins s1 σ H1 Q I1 q1
 | false=>exact ⟨H1,I1,q1⟩
theorem pw_or (ha:PT X a tA) (hb:PW X (.BoolOp .Or (b::rest) pos) tB'):PW X (.BoolOp .Or (a::b::rest) pos) (tOr tA tB'):=by
 intro wh pins s σ H Q I h
 refine isTrue_or (thn (ha pins s σ H _ I h) fun c s1 ⟨H1,I1,q1⟩=>?_)
 cases c with
 | true=>exact ⟨H1,I1,q1⟩
 | false=>exact hb wh pins s1 σ H1 Q I1 q1
theorem pt_not (ha:PT X a tA):PT X (.UnaryOp .Not a pos) (tNot tA):=by
 intro pins s σ H Q I h
 exact isTrue_not (ha pins s σ H (fun c H1=>Q (!c) H1) I h)
def tAndV (ta tb:TE):TE:=fun σ H Q=>ta σ H fun x H1=>∃ c,x=.bl c∧if c=true then tb σ H1 Q else Q (.bl false) H1
def tNotV (ta:TE):TE:=fun σ H Q=>ta σ H fun x H1=>∃ c,x=.bl c∧Q (.bl (!c)) H1
theorem pe_one {op} {t:TE} (h:PE X a t):PE X (.BoolOp op [a] pos) t:=fun pins s σ H Q I hw=>BoolOp_one (h pins s σ H Q I hw)
theorem pe_and (ha:PE X a ta) (hb:PE X (.BoolOp .And (b::rest) pos) tb):PE X (.BoolOp .And (a::b::rest) pos) (tAndV ta tb):=by
 intro pins s σ H Q I h
 refine BoolOp_and (thn (ha pins s σ H _ I h) fun v s1 ⟨x,H1,I1,r1,q1⟩=>?_)
 obtain ⟨c,rfl,q1⟩:=q1
 cases r1
 refine wpAny_truthy_bool ?_
 cases c with
 | true=>exact hb pins s1 σ H1 Q I1 q1
 | false=>exact ⟨.bl false,H1,I1,rfl,q1⟩
theorem pe_not (ha:PE X a ta):PE X (.UnaryOp .Not a pos) (tNotV ta):=by
 intro pins s σ H Q I h
 refine UnaryOp_ (thn (ha pins s σ H _ I h) fun v s1 ⟨x,H1,I1,r1,q1⟩=>?_)
 obtain ⟨c,rfl,q1⟩:=q1
 cases r1
 exact not_of (wpAny_truthy_bool ⟨.bl (!c),H1,I1,rfl,q1⟩)
def tIf (t:TT) (ta tb:TE):TE:=fun σ H Q=>t σ H fun c H1=>if c=true then ta σ H1 Q else tb σ H1 Q
theorem pe_ifExp {c:Expr} (hc:PT X c tA) (ha:PE X a ta) (hb:PE X b tb):PE X (.IfExp c a b pos) (tIf tA ta tb):=by
 intro pins s σ H Q I h
 refine wpAny_IfExp (thn (hc pins s σ H _ I h) fun d s1 ⟨H1,I1,q1⟩=>?_)
 cases d with
 | true=>exact ha pins s1 σ H1 Q I1 q1
 | false=>exact hb pins s1 σ H1 Q I1 q1
end
end L2
namespace L2
open PySem PySem.Spec PyProof.Rows
def SqL (K:PySem.W.Frag) (H:Hp) (a:Addr) (xs:List V):Prop :=
 Rd H a (.lst xs) ∨
  ∃ (o:Obj) (its:Array Value) (n:Nat),K.lookup a=some o∧o.cls=.type "list"∧o.dict=none∧o.data=.seq its n∧its.size≤sizeLine∧Vals xs its.toList
def SqT (K:PySem.W.Frag) (H:Hp) (a:Addr) (xs:List V):Prop :=
 Rd H a (.tup xs) ∨
  ∃ (o:Obj) (its:Array Value) (n:Nat),K.lookup a=some o∧o.cls=.type "tuple"∧o.data=.seq its n∧its.size≤sizeLine∧Vals xs its.toList
def absV:Value→Option V
 | .none=>some .non
 | .bool b=>some (.bl b)
 | .int i _=>some (.int i)
 | .str x _=>some (.str x)
 | .bytes b _=>some (.byt b)
 | .float b _=>some (.flt b)
 | .ref a=>some (.ref a)
 | .type n=>some (.ty n)
 | _=>none
theorem RelV.abs {x:V} {u:Value} (r:RelV x u):absV u=some x:=by
 cases x with
 | non=>cases r; rfl
 | bl _=>cases r; rfl
 | int _=>obtain ⟨t,rfl⟩:=r; rfl
 | str _=>obtain ⟨t,rfl⟩:=r; rfl
 | byt _=>obtain ⟨t,rfl⟩:=r; rfl
 | flt _=>obtain ⟨t,rfl⟩:=r; rfl
 | ref _=>cases r; rfl
 | ty _=>cases r; rfl
theorem RelV.inj {x y:V} {u:Value} (r:RelV x u) (q:RelV y u):x=y:=Option.some.inj (r.abs.symm.trans q.abs)
theorem Vals.inj:∀ {xs ys:List V} {us:List Value},Vals xs us→Vals ys us→xs=ys
 | _,_,_,.nil,.nil=>rfl
 | _,_,_,.cons r t,.cons r' t'=>by rw [r.inj r',Vals.inj t t']
section
variable {X:Cx} {pins:List (Addr×Obj)} {σ:St} {H:Hp} {s:Shared} {a:Addr} {xs ys:List V}
theorem SqL.of {K:PySem.W.Frag} (h:H a=some (.lst xs)):SqL K H a xs:=.inl (.inl h)
theorem SqT.of {K:PySem.W.Frag} (h:H a=some (.tup xs)):SqT K H a xs:=.inl (.inl h)
theorem Inv.list (I:Inv X pins σ H s) (h:SqL X.K H a xs):∃ its:List Value,Vals xs its∧PlainL s.heap a its.toArray∧xs.length≤sizeLine:=by
 rcases h with h | ⟨o,its,n,hk,hc,hd,hs,hz,r⟩
 ·obtain ⟨z,its,n,r,e⟩:=h.ok I.hok
  exact ⟨its,r,⟨_,n,e,rfl,rfl,rfl⟩,z⟩
 ·refine ⟨its.toList,r,⟨o,n,I.kIn a o hk,hc,hd,by simpa using hs⟩,?_⟩
  have e:=r.length
  simp only [Array.length_toList] at e
  omega
theorem Inv.tuple (I:Inv X pins σ H s) (h:SqT X.K H a xs):∃ its:List Value,Vals xs its∧IsTup s.heap a its.toArray∧xs.length≤sizeLine:=by
 rcases h with h | ⟨o,its,n,hk,hc,hs,hz,r⟩
 ·obtain ⟨z,its,r,p⟩:=h.ok I.hok
  exact ⟨its,r,p,z⟩
 ·refine ⟨its.toList,r,⟨o,I.kIn a o hk,hc,n,by simpa using hs⟩,?_⟩
  have e:=r.length
  simp only [Array.length_toList] at e
  omega
theorem Inv.list_inj (I:Inv X pins σ H s) (h:SqL X.K H a xs) (h':SqL X.K H a ys):xs=ys:=by
 obtain ⟨its,r,⟨o,n,e,_,_,d⟩,_⟩:=I.list h
 obtain ⟨its',r',⟨o',n',e',_,_,d'⟩,_⟩:=I.list h'
 rw [e] at e'; cases e'
 rw [d] at d'
 injection d' with d1 _
 have:its=its':=by simpa using congrArg Array.toList d1
 subst this
 exact r.inj r'
end
abbrev Cx.wish (X:Cx) (E:Value→Shared→Prop):Cx:={ X with xe:=E }
abbrev Cx.nox (X:Cx):Cx:=X.wish fun _ _=>False
theorem Cx.Ok.wish {X:Cx} (ok:X.Ok) (E:Value→Shared→Prop):(X.wish E).Ok :=
 ⟨ok.mod,ok.kind,ok.glob,ok.blt,ok.above,ok.inj,ok.has,ok.cab,ok.hd,ok.frames,ok.stk,ok.exf,ok.bs,ok.bsz,ok.noex,ok.exfs,ok.funs,ok.frf⟩
theorem Cx.Ok.unwish {X:Cx} {E:Value→Shared→Prop} (ok:(X.wish E).Ok):X.Ok :=
 ⟨ok.mod,ok.kind,ok.glob,ok.blt,ok.above,ok.inj,ok.has,ok.cab,ok.hd,ok.frames,ok.stk,ok.exf,ok.bs,ok.bsz,ok.noex,ok.exfs,ok.funs,ok.frf⟩
section
variable {X:Cx} {pins:List (Addr×Obj)} {σ:St} {H:Hp} {s:Shared} {E:Value→Shared→Prop}
theorem Inv.wish (I:Inv X pins σ H s) (E:Value→Shared→Prop):Inv (X.wish E) pins σ H s:=⟨I.ok.wish E,I.os,I.bare,I.base,I.loc,I.cell,I.free,I.freeC,I.pin,I.hok,I.len⟩
theorem Inv.unwish (I:Inv (X.wish E) pins σ H s):Inv X pins σ H s:=⟨I.ok.unwish,I.os,I.bare,I.base,I.loc,I.cell,I.free,I.freeC,I.pin,I.hok,I.len⟩
theorem SP.unwish {D:Ends} {f:Flow} {s':Shared} (h:SP (X.wish E) pins D f s'):SP X pins D f s':=by
 cases f with
 | next=>obtain ⟨σ',H',I,q⟩:=h; exact ⟨σ',H',I.unwish,q⟩
 | brk=>obtain ⟨σ',H',I,q⟩:=h; exact ⟨σ',H',I.unwish,q⟩
 | cont=>obtain ⟨σ',H',I,q⟩:=h; exact ⟨σ',H',I.unwish,q⟩
 | ret u=>obtain ⟨v,σ',H',I,r,q⟩:=h; exact ⟨v,σ',H',I.unwish,r,q⟩
theorem PSs.nox {st:List Stmt} {t:TS} (h:PSs X.nox st t):PSs X st t:=fun pins s σ H D I hw =>
 wpAny_mono (h pins s σ H D (I.wish _) hw) (fun _ _ q=>q.unwish) fun _ _ z=>False.elim z
end
section
variable {X:Cx} {st:Stmt} {rest:List Stmt} {t u:TS} {e:Expr} {te:TE} {pos:Pos}
def tNext:TS:=fun D σ H=>D.nx σ H
def tSeq (t u:TS):TS:=fun D σ H=>t { D with nx:=u D } σ H
theorem pss_nil:PSs X [] tNext:=fun _ _ σ H _ I h=>wpAny_execs_nil ⟨σ,H,I,h⟩
theorem pss_cons (h1:PS X st t) (h2:PSs X rest u):PSs X (st::rest) (tSeq t u):=by
 intro pins s σ H D I h
 refine wpAny_execs_cons (thn (h1 pins s σ H { D with nx:=u D } I h) fun f s1 q=>?_)
 cases f with
 | next =>
  obtain ⟨σ',H',I',q⟩:=q
  exact h2 pins s1 σ' H' D I' q
 | ret v=>exact q
 | brk=>exact q
 | cont=>exact q
theorem pss_one (h1:PS X st t):PSs X [st] t:=by
 intro pins s σ H D I h
 refine wpAny_execs_cons (thn (h1 pins s σ H D I h) fun f s1 q=>?_)
 cases f with
 | next=>exact wpAny_execs_nil q
 | ret v=>exact q
 | brk=>exact q
 | cont=>exact q
theorem Inv.quiet {pins:List (Addr×Obj)} {σ:St} {H:Hp} {s:Shared} (I:Inv X pins σ H s):interactive X.env=false:=by simp [interactive,I.ok.kind]
def tDrop (te:TE):TS:=fun D σ H=>te σ H fun _ H1=>D.nx σ H1
theorem ps_expr (he:PE X e te) (hs:swapsWith e none pos.line X.env=pure false:=by rfl):PS X (.Expr e pos) (tDrop te):=by
 intro pins s σ H D I h
 exact wpAny_Expr_any (thn (he pins s σ H _ I h) fun v s1 ⟨x,H1,I1,r1,q1⟩=>⟨σ,H1,I1,q1⟩) I.quiet hs
def tRet (te:TE):TS:=fun D σ H=>te σ H D.rt
theorem ps_ret (he:PE X e te):PS X (.Return (some e) pos) (tRet te):=by
 intro pins s σ H D I h
 exact wpAny_Return_some (thn (he pins s σ H _ I h) fun v s1 ⟨x,H1,I1,r1,q1⟩=>⟨x,σ,H1,I1,r1,q1⟩)
def tIfS (c:TT) (t u:TS):TS:=fun D σ H=>c σ H fun b H1=>if b=true then t D σ H1 else u D σ H1
theorem ps_if {c:Expr} {a b:List Stmt} {tc:TT} (hc:PT X c tc) (ha:PSs X a t) (hb:PSs X b u):PS X (.If c a b pos) (tIfS tc t u):=by
 intro pins s σ H D I h
 refine wpAny_If (thn (hc pins s σ H _ I h) fun d s1 ⟨H1,I1,q1⟩=>?_)
 cases d with
 | true=>exact ha pins s1 σ H1 D I1 q1
 | false=>exact hb pins s1 σ H1 D I1 q1
end
abbrev TG:=V→St→Hp→(St→Hp→Prop)→Prop
abbrev TGs:=List V→St→Hp→(St→Hp→Prop)→Prop
def PG (X:Cx) (target:Expr) (t:TG):Prop :=
 ∀ (pins:List (Addr×Obj)) (s:Shared) (σ:St) (H:Hp) (v:V) (u:Value) (Q:St→Hp→Prop),Inv X pins σ H s→RelV v u→t v σ H Q →
  wpAny (model X.prog X.w) X.A (assign target X.env u) (fun _ s'=>∃ σ' H',Inv X pins σ' H' s'∧Q σ' H') X.xe s
def PGs (X:Cx) (ts:List Expr) (t:TGs):Prop :=
 ∀ (pins:List (Addr×Obj)) (s:Shared) (σ:St) (H:Hp) (vs:List V) (us:List Value) (Q:St→Hp→Prop),Inv X pins σ H s→Vals vs us→t vs σ H Q →
  wpAny (model X.prog X.w) X.A (assignInOrder ((assignEach ts X.env).map (·.2)) us) (fun _ s'=>∃ σ' H',Inv X pins σ' H' s'∧Q σ' H') X.xe s
section
variable {X:Cx} {pos:Pos}
def gName (i:Nat):TG:=fun v σ H Q=>Q (σ.set i (some v)) H
theorem pg_name {i:Nat} {x:Str} (hN:X.N.Nodup) (hi:X.N[i]?=some x) (hx:Loc X.env.scope x) (hf:X.fn x=true∨X.env.scope.names.lookup x=some .local:=by first | exact .inl rfl | exact .inr rfl | assumption):PG X (.Name x pos) (gName i):=by
 intro pins s σ H v u Q I r h
 exact wpAny_assign_Name (store_ok I hN hi hx r (fun s' I'=>⟨_,H,I',h⟩) hf)
def gNil:TGs:=fun vs σ H Q=>vs=[]∧Q σ H
def gCons (t:TG) (u:TGs):TGs:=fun vs σ H Q=>∃ v r,vs=v::r∧t v σ H fun σ' H'=>u r σ' H' Q
theorem pgs_nil:PGs X [] gNil:=by
 intro pins s σ H vs us Q I r h
 obtain ⟨e,h⟩:=h
 subst e
 cases r
 exact assignInOrder_nil ⟨σ,H,I,h⟩
theorem pgs_cons {e:Expr} {es:List Expr} {t:TG} {u:TGs} (h1:PG X e t) (h2:PGs X es u)
  (hs:(assignEach (e::es) X.env).map (·.2)=assign e X.env::(assignEach es X.env).map (·.2):=by rfl):PGs X (e::es) (gCons t u):=by
 intro pins s σ H vs us Q I r h
 obtain ⟨v,vr,e1,h⟩:=h
 subst e1
 cases r with
 | cons r rr =>
  rw [hs]
  refine assignInOrder_cons (thn (h1 pins s σ H _ _ _ I r h) fun _ s1 ⟨σ1,H1,I1,q1⟩=>?_)
  exact h2 pins s1 σ1 H1 _ _ Q I1 rr q1
def gTup (K:PySem.W.Frag) (n:Nat) (t:TGs):TG:=fun v σ H Q=>∃ a xs,v=.ref a∧SqT K H a xs∧xs.length=n∧t xs σ H Q
theorem pg_tup {es:List Expr} {k:Nat} {t:TGs} {n:Nat} (hc:X.calm=true) (h:PGs X es t)
  (hn:(assignEach es X.env).length=n:=by rfl) (hst:(assignEach es X.env).findIdx? (·.1)=none:=by rfl):PG X (.Tuple es k pos) (gTup X.K n t):=by
 intro pins s σ H v u Q I r hw
 obtain ⟨a,xs,e1,hq,hl,hw⟩:=hw
 subst e1
 cases r
 obtain ⟨its,rv,ht,hz⟩:=I.tuple hq
 refine assign_Tuple_tuple (I.ok.hd hc) ht (by simp [hn,← hl,rv.length]) hst fun h' hx=>?_
 have I1:Inv X pins σ H { s with heap:=h' }:=I.kept (t':=s.toks) fun b o e=>hx b o (Nat.ne_of_lt (Heap.lt_size e)) e
 exact h pins _ σ H xs _ Q I1 (by simpa using rv) hw
def tAsg (te:TE) (g:TG):TS:=fun D σ H=>te σ H fun x H1=>g x σ H1 D.nx
theorem ps_asg {tg e:Expr} {te:TE} {g:TG} (he:PE X e te) (hg:PG X tg g) (hs:swapsWithSole [tg] e pos.line X.env=pure false:=by rfl) (hw:swappedStores [tg] e X.env=pure none:=by rfl)
  (h1:(assignEach [tg] X.env).map (·.2)=[assign tg X.env]:=by rfl):PS X (.Assign [tg] e pos) (tAsg te g):=by
 intro pins s σ H D I h
 refine wpAny_Assign_stores (thn (he pins s σ H _ I h) fun v s1 ⟨x,H1,I1,r1,q1⟩=>?_) hs hw
 rw [h1]
 exact thn (hg pins s1 σ H1 x v _ I1 r1 q1) fun _ s2 q=>q
theorem ps_set {i:Nat} {x:Str} {e:Expr} {te:TE} {pos':Pos} (hN:X.N.Nodup) (hi:X.N[i]?=some x) (hx:Loc X.env.scope x) (he:PE X e te) (hs:swapsWith e (some (.Name x pos')) pos.line X.env=pure false:=by rfl) (hf:X.fn x=true∨X.env.scope.names.lookup x=some .local:=by first | exact .inl rfl | exact .inr rfl | assumption) :
  PS X (.Assign [.Name x pos'] e pos) (tAsg te (gName i)):=by
 intro pins s σ H D I h
 refine wpAny_Assign_Name (thn (he pins s σ H _ I h) fun v s1 ⟨y,H1,I1,r1,q1⟩=>?_) hs
 exact store_ok I1 hN hi hx r1 (fun s2 I2=>⟨_,H1,I2,q1⟩) hf
end
section
variable {X:Cx} {pos:Pos}
def tWhile (c:TT) (tb:TS):TS:=fun D σ H=>∃ W:Nat→St→Hp→Prop,(∃ m,W m σ H)∧∀ m σ H,W m σ H →
 c σ H fun b H1=>if b=true then ∃ N:St→Hp→Prop,(∀ σ' H',N σ' H'→∃ m',m'<m∧W m' σ' H')∧tb { D with nx:=N,ct:=N,bk:=D.nx } σ H1 else D.nx σ H1
theorem ps_while {c:Expr} {body:List Stmt} {tc:TT} {tb:TS} (hp:PassesOwn (model X.prog X.w) X.A X.env X.xe) (hc:PT X c tc) (hb:PSs X body tb):PS X (.While c body [] pos) (tWhile tc tb):=by
 intro pins s σ H D I h
 obtain ⟨W,⟨m0,w0⟩,turn⟩:=h
 refine wpAny_While (codeAny_whileLoop (fun n s'=>∃ σ' H',Inv X pins σ' H' s'∧W n σ' H') ?_ m0 ⟨σ,H,I,w0⟩)
 rintro n s1 ⟨σ1,H1,I1,w1⟩
 refine wpAny_passesOwn hp (thn (hc pins s1 σ1 H1 _ I1 (turn n σ1 H1 w1)) fun b s2 ⟨H2,I2,q2⟩=>?_)
 cases b with
 | true =>
  obtain ⟨N,hN,q2⟩:=q2
  rw [if_pos rfl]
  refine wpAny_passesOwn hp (thn (hb pins s2 σ1 H2 _ I2 q2) fun f s3 q3=>?_)
  cases f with
  | next =>
   obtain ⟨σ3,H3,I3,n3⟩:=q3
   obtain ⟨m',hm,w3⟩:=hN σ3 H3 n3
   exact ⟨m',hm,σ3,H3,I3,w3⟩
  | cont =>
   obtain ⟨σ3,H3,I3,n3⟩:=q3
   obtain ⟨m',hm,w3⟩:=hN σ3 H3 n3
   exact ⟨m',hm,σ3,H3,I3,w3⟩
  | brk => exact q3
  | ret v => exact q3
 | false =>
  rw [if_neg Bool.false_ne_true]
  exact wpAny_execs_nil ⟨σ1,H2,I2,q2⟩
end
structure It where
 go:Nat→Hp→Prop
 yld:Nat→Hp→V→Hp→Prop
 stop:Nat→Hp→Prop
def FpOk (X:Cx) (pins:List (Addr×Obj)) (H:Hp) (b:Addr):Prop :=
 H b=none∧b≠X.env.locals∧b∉X.fs∧(b∈X.ex∨X.s₀.heap.objs.size≤b)∧(∀ x c,X.env.cells.lookup x=some c→c≠b)∧∀ p∈X.pn++pins,p.1≠b
theorem Inv.fpOk {X:Cx} {pins:List (Addr×Obj)} {σ:St} {H H':Hp} {s:Shared} {b:Addr} (I:Inv X pins σ H s) (hb:s.heap.objs.size≤b) (hn:H' b=none):FpOk X pins H' b:=by
 refine ⟨hn,Nat.ne_of_gt (Nat.lt_of_lt_of_le I.lt hb),I.nofs hb,.inr (Nat.le_trans I.sz hb),fun x c e z=>?_,fun p hp z=>?_⟩
 ·obtain ⟨v,q⟩:=I.cell x c e
  exact absurd (Nat.lt_of_lt_of_le q.lt (by rw [z]; exact hb)) (Nat.lt_irrefl _)
 ·exact absurd (Nat.lt_of_lt_of_le (Heap.lt_size (I.pin p hp).1) (by rw [z]; exact hb)) (Nat.lt_irrefl _)
structure Turn (P:Program) (w:World) (K:PySem.W.Frag) (tg:Expr) (J:It) (fp:List Addr) (it:Addr) (tn:Nat→Heap→Prop):Prop where
 mem:it∈fp
 obj:∀ i h,tn i h→∀ b∈fp,∃ o,h.get? b=some o∧∀ v,o.data≠.cell v
 keep:∀ i h h',tn i h→(∀ b∈fp,∀ o,h.get? b=some o→h'.get? b=some o)→tn i h'
 item:∀ (X:Cx),X.prog=P→X.w=w→X.K=K→X.calm=true→∀ (i:Nat) (pins:List (Addr×Obj)) (s:Shared) (σ:St) (H:Hp) (E:Value→Shared→Prop),Inv X pins σ H s→(∀ b∈fp,FpOk X pins H b)→tn i s.heap→J.go i H →
  wpAny (model P w) X.A (pyNext (.ref it)) (fun r s1=>∃ u,r=some u ∧
   wpAny (model P w) X.A (letOwnedTupleGo tg (.ref it) u) (fun _ s2=>∃ x H',Inv X pins σ H' s2∧RelV x u∧J.yld i H x H'∧tn (i+1) s2.heap∧∀ b∈fp,H' b=none) E s1) E s
 done:∀ (X:Cx),X.prog=P→X.w=w→X.K=K→X.calm=true→∀ (i:Nat) (pins:List (Addr×Obj)) (s:Shared) (σ:St) (H:Hp) (E:Value→Shared→Prop),Inv X pins σ H s→(∀ b∈fp,FpOk X pins H b)→tn i s.heap→J.stop i H →
  wpAny (model P w) X.A (pyNext (.ref it)) (fun r s1=>r=none∧Inv X pins σ H s1) E s
 self:∀ (A:Around) (i:Nat) (s:Shared) (Q:Value→Shared→Prop) (E:Value→Shared→Prop),tn i s.heap→Q (.ref it) s→wpAny (model P w) A (pyIter (.ref it)) Q E s
abbrev TI:=St→Hp→(It→Hp→Prop)→Prop
def PIE (X:Cx) (pins:List (Addr×Obj)) (σ:St) (tg:Expr) (R:It→Hp→Prop) (itv:Value) (s2:Shared):Prop :=
 ∃ (it:Addr) (fp:List Addr) (tn:Nat→Heap→Prop) (J:It) (H':Hp),itv=.ref it∧Inv X pins σ H' s2∧Turn X.prog X.w X.K tg J fp it tn∧tn 0 s2.heap∧(∀ b∈fp,FpOk X pins H' b)∧R J H'
def PI (X:Cx) (tg iter:Expr) (wi:TI):Prop :=
 ∀ (pins:List (Addr×Obj)) (s:Shared) (σ:St) (H:Hp) (R:It→Hp→Prop),Inv X pins σ H s→wi σ H R →
  wpAny (model X.prog X.w) X.A (eval iter X.env) (fun v s1=>wpAny (model X.prog X.w) X.A (pyIter v) (PIE X pins σ tg R) X.xe s1) X.xe s
theorem go_of {M:Model} {A:Around} {E:Value→Shared→Prop} {s:Shared} {tg:Expr} {it:Addr} {u:Value} {o:Obj} {n:String} {vs:Array Value} {Q:Unit→Shared→Prop} (ho:s.heap.get? it=some o) (hc:o.cls=.type n) (hd:o.data=.fields vs)
    (hn:["enumerate","zip","dict_itemiterator","dict_reverseitemiterator","odict_iterator","itertools.zip_longest","itertools.pairwise"].contains n=false) (hQ:Q () s):wpAny M A (letOwnedTupleGo tg (.ref it) u) Q E s:=by
  unfold letOwnedTupleGo
  cases tg<;>first
    | exact wpAny_pure hQ
    | (cases u<;>first
        | exact wpAny_pure hQ
        | (refine wpAny_bind (wpAny_load ho ?_)
           rw [hc,hd]
           show wpAny M A (if (["enumerate","zip","dict_itemiterator","dict_reverseitemiterator","odict_iterator","itertools.zip_longest","itertools.pairwise"].contains n&&vs[0]?==some (rawInt _))=true then _ else _) Q E s
           rw [if_neg (by intro h; rw [hn,Bool.false_and] at h; cases h)]
           exact wpAny_pure hQ))
def Itl (K:PySem.W.Frag) (a:Addr):It :=
 ⟨fun i H=>∃ xs x,SqL K H a xs∧xs[i]?=some x,fun i H x H'=>H'=H∧∀ xs,SqL K H a xs→xs[i]?=some x,fun i H=>∃ xs,SqL K H a xs∧xs.length≤i⟩
def Itr (lo:Int) (n:Nat):It:=⟨fun i _=>i<n,fun i H x H'=>H'=H∧x=.int (lo+i),fun i _=>n≤i⟩
theorem turn_list {P:Program} {w:World} {K:PySem.W.Frag} {tg:Expr} (a it:Addr):Turn P w K tg (Itl K a) [it] it (fun i h=>h.IsListIter it a i) where
 mem:=by simp
 obj:=fun i h st b hb=>by
  have e:b=it:=by simpa using hb
  subst e
  obtain ⟨o,e,c,d⟩:=st
  exact ⟨o,e,fun v z=>by rw [d] at z; cases z⟩
 keep:=fun i h h' st k=>st.at fun o e=>k it (by simp) o e
 item:=by
  intro X hP hw hK hc i pins s σ H E I hf st hg
  subst hP hw hK
  obtain ⟨xs,x,hq,hx⟩:=hg
  obtain ⟨its,rv,p,hz⟩:=I.list hq
  obtain ⟨u,hu,ru⟩:=rv.get hx
  obtain ⟨f0,f1,f2,f3,f4,f5⟩:=hf it (by simp)
  refine wpAny_pyNext_list_item st p.isList (x:=u) (by simpa using hu) fun h' st' sb=>?_
  have I1:Inv X pins σ H { s with heap:=h' }:=I.turned (t':=s.toks) (fun b o hb e=>(sb.2 b hb).trans e) f0 f1 f3 f4 f5
  obtain ⟨o,e,c,d⟩:=id st'
  exact ⟨u,rfl,go_of (s:={ s with heap:=h' }) e c d (by decide) ⟨x,H,I1,ru,⟨rfl,fun ys hy=>by rw [I.list_inj hy hq]; exact hx⟩,st',fun b hb=>(hf b hb).1⟩⟩
 done:=by
  intro X hP hw hK hc i pins s σ H E I hf st hg
  subst hP hw hK
  obtain ⟨xs,hq,hx⟩:=hg
  obtain ⟨its,rv,p,hz⟩:=I.list hq
  obtain ⟨f0,f1,f2,f3,f4,f5⟩:=hf it (by simp)
  have hl:=rv.length
  exact wpAny_pyNext_list_end (I.ok.hd hc) st p.isList (by simp; omega) fun h' eb=>⟨rfl,I.turned (t':=s.toks) (fun b o hb e=>eb b o hb e) f0 f1 f3 f4 f5⟩
 self:=fun _ _ _ _ _ st h=>wpAny_pyIter_listiter st h
theorem turn_range {P:Program} {w:World} {K:PySem.W.Frag} {tg:Expr} (it:Addr) (lo:Int) (n:Nat):Turn P w K tg (Itr lo n) [it] it (fun i h=>IsRangeIter h it (lo+(i:Nat)*1) ((n:Int) - (i:Nat)) 1) where
 mem:=by simp
 obj:=fun i h st b hb=>by
  have e:b=it:=by simpa using hb
  subst e
  exact ⟨_,st,fun v z=>by
   have z':Data.fields _=Data.cell v:=z
   cases z'⟩
 keep:=fun i h h' st k=>k it (by simp) _ st
 item:=by
  intro X hP hw hK hc i pins s σ H E I hf st hg
  subst hP hw hK
  obtain ⟨f0,f1,f2,f3,f4,f5⟩:=hf it (by simp)
  have W:=Walks.range (prog:=X.prog) (w:=X.w) (I.ok.hd hc) it lo 1 n
  refine W.item i s _ _ hg st fun v h' tk hv st' kk=>?_
  obtain ⟨t,rfl⟩:=hv
  have I1:Inv X pins σ H { s with heap:=h',toks:=tk }:=I.turned (fun b o hb e=>kk b o (by simpa using hb) e) f0 f1 f3 f4 f5
  refine ⟨_,rfl,go_of (s:={ s with heap:=h',toks:=tk }) (n:="range_iterator") st' rfl rfl (by decide) ⟨.int (lo+i),H,I1,⟨t,?_⟩,⟨rfl,rfl⟩,st',fun b hb=>(hf b hb).1⟩⟩
  rw [Int.mul_one]
 done:=by
  intro X hP hw hK hc i pins s σ H E I hf st hg
  subst hP hw hK
  obtain ⟨f0,f1,f2,f3,f4,f5⟩:=hf it (by simp)
  exact wpAny_pyNext_range_end (I.ok.hd hc) st (by have:n≤i:=hg; omega) fun h' eb=>⟨rfl,I.turned (t':=s.toks) (fun b o hb e=>eb b o hb e) f0 f1 f3 f4 f5⟩
 self:=fun _ _ _ _ _ st h=>wpAny_pyIter_rangeiter st h
end L2
namespace L2
open PySem PySem.Spec PyProof.Rows
section
variable {X:Cx} {tg:Expr}
def iList (K:PySem.W.Frag) (tl:TE):TI:=fun σ H R=>tl σ H fun x H1=>∃ a,x=.ref a∧(∃ xs,SqL K H1 a xs)∧R (Itl K a) H1
theorem pi_list {l:Expr} {tl:TE} (hl:PE X l tl):PI X tg l (iList X.K tl):=by
 intro pins s σ H R I h
 refine thn (hl pins s σ H _ I h) fun v s1 ⟨x,H1,I1,r1,q1⟩=>?_
 obtain ⟨a,e,⟨xs,hq⟩,q⟩:=q1
 subst e
 cases r1
 obtain ⟨its,rv,p,hz⟩:=I1.list hq
 refine wpAny_pyIter_list p.isList ?_
 refine ⟨s1.heap.objs.size,[s1.heap.objs.size],_,_,H1,rfl,I1.kept (t':=s1.toks) fun b o e=>Heap.get?_push_of_some _ e,turn_list a _,⟨_,Heap.get?_push_size _ rfl,rfl,rfl⟩,fun b hb=>?_,q⟩
 have e:b=s1.heap.objs.size:=by simpa using hb
 subst e
 exact I1.fpOk (Nat.le_refl _) (I1.hok.fresh (Nat.le_refl _))
theorem range_it {pins:List (Addr×Obj)} {σ:St} {H:Hp} {s:Shared} {R:It→Hp→Prop} {E:Value→Shared→Prop} {lo hi:Int} {t u v:Tok} {tk:Nat} (I:Inv X pins σ H s) (h1:-(2 ^ 62)≤lo) (h2:lo<2 ^ 62) (h3:-(2 ^ 62)≤hi) (h4:hi<2 ^ 62)
  (q:R (Itr lo (hi - lo).toNat) H):wpAny (model X.prog X.w) X.A (pyIter (.ref s.heap.objs.size)) (PIE X pins σ tg R) E { s with heap:=s.heap.push { cls:=.type "range",data:=.fields #[.int lo t,.int hi u,.int 1 v] },toks:=tk }:=by
 refine wpAny_pyIter_range (IsRange.new ..) (small_one h1 h2 h3 h4) ?_
 have I1:Inv X pins σ H { s with heap:=s.heap.push { cls:=.type "range",data:=.fields #[.int lo t,.int hi u,.int 1 v] },toks:=tk }:=I.kept fun b o e=>Heap.get?_push_of_some _ e
 refine ⟨(s.heap.push { cls:=.type "range",data:=.fields #[.int lo t,.int hi u,.int 1 v] }).objs.size,[(s.heap.push { cls:=.type "range",data:=.fields #[.int lo t,.int hi u,.int 1 v] }).objs.size],_,_,H,rfl,
  I1.kept (t':=tk) fun b o e=>Heap.get?_push_of_some _ e,turn_range _ lo (hi - lo).toNat,?_,fun b hb=>?_,q⟩
 ·have e1:lo+((0:Nat):Int)*1=lo:=by simp
  have e2:(((hi - lo).toNat:Nat):Int) - ((0:Nat):Int)=Builtin.Range.rangeSize lo hi 1:=by rw [rangeSize_one]; split<;>omega
  show IsRangeIter _ _ (lo+((0:Nat):Int)*1) ((((hi - lo).toNat:Nat):Int) - ((0:Nat):Int)) 1
  rw [e1,e2]
  exact Heap.get?_push_size _ rfl
 ·have e:b=(s.heap.push { cls:=.type "range",data:=.fields #[.int lo t,.int hi u,.int 1 v] }).objs.size:=by simpa using hb
  subst e
  exact I1.fpOk (Nat.le_refl _) (I1.hok.fresh (Nat.le_refl _))
def iRng1 (ta:TA):TI:=fun σ H R=>ta σ H fun vs H1=>∃ j:Int,vs=[.int j]∧-(2 ^ 62)≤j∧j<2 ^ 62∧R (Itr 0 j.toNat) H1
def iRng2 (ta:TA):TI:=fun σ H R=>ta σ H fun vs H1=>∃ i j:Int,vs=[.int i,.int j]∧(-(2 ^ 62)≤i∧i<2 ^ 62∧-(2 ^ 62)≤j∧j<2 ^ 62)∧R (Itr i (j - i).toNat) H1
theorem pi_range1 {a:Expr} {ta:TA} {p pos:Pos} (hg:Gl X "range") (hm:X.mg "range"=none) (ha:PA X [a] ta) (hs:starEach [a] X.env=[(false,eval a X.env)]:=by rfl):PI X tg (.Call (.Name "range" p) [a] [] pos) (iRng1 ta):=by
 intro pins s σ H R I h
 refine Call_ (ld_blt I hg hm boot_range (PyProof.Rows.callWith_type1 (thn (ha pos pins s σ H _ I h) fun us s1 ⟨vs,H1,I1,r1,q1⟩=>?_) hs rfl))
 obtain ⟨j,e,q1,q2,q⟩:=q1
 subst e
 cases r1 with
 | cons r rr =>
  cases rr
  obtain ⟨t,rfl⟩:=r
  exact call_range_1 (range_it I1 (by omega) (by omega) q1 q2 (by simpa using q))
theorem pi_range2 {a b:Expr} {ta:TA} {p pos:Pos} (hg:Gl X "range") (hm:X.mg "range"=none) (ha:PA X [a,b] ta) (hs:starEach [a,b] X.env=[(false,eval a X.env),(false,eval b X.env)]:=by rfl) (hs2:starEach [b] X.env=[(false,eval b X.env)]:=by rfl) :
  PI X tg (.Call (.Name "range" p) [a,b] [] pos) (iRng2 ta):=by
 intro pins s σ H R I h
 refine Call_ (ld_blt I hg hm boot_range (PyProof.Rows.callWith_type1 (thn (ha pos pins s σ H _ I h) fun us s1 ⟨vs,H1,I1,r1,q1⟩=>?_) (by rw [hs,hs2]) (by rw [hs2]; rfl)))
 obtain ⟨i,j,e,⟨q1,q2,q3,q4⟩,q⟩:=q1
 subst e
 cases r1 with
 | cons r rr =>
  cases rr with
  | cons r' rr =>
   cases rr
   obtain ⟨t,rfl⟩:=r
   obtain ⟨t',rfl⟩:=r'
   exact call_range_2 (range_it I1 q1 q2 q3 q4 q)
def tFor (wi:TI) (g:TG) (tb:TS):TS:=fun D σ H=>wi σ H fun J H1=>∃ W:Nat→Nat→St→Hp→Prop,(∃ m,W 0 m σ H1)∧∀ i m σ H,W i m σ H →
 (J.stop i H∧D.nx σ H)∨(J.go i H∧∃ N:St→Hp→Prop,(∀ σ' H',N σ' H'→∃ m',m'<m∧W (i+1) m' σ' H')∧∀ x H',J.yld i H x H'→g x σ H' fun σ2 H2=>tb { D with nx:=N,ct:=N,bk:=D.nx } σ2 H2)
def pinsAt (fp:List Addr) (h:Heap):List (Addr×Obj):=fp.filterMap fun b=>(h.get? b).map fun o=>(b,o)
theorem mem_pinsAt {fp:List Addr} {h:Heap} {b:Addr} {o:Obj} (hb:b∈fp) (e:h.get? b=some o):(b,o)∈pinsAt fp h:=List.mem_filterMap.mpr ⟨b,hb,by rw [e]; rfl⟩
theorem of_pinsAt {fp:List Addr} {h:Heap} {p:Addr×Obj} (hp:p∈pinsAt fp h):p.1∈fp∧h.get? p.1=some p.2:=by
 obtain ⟨b,hb,e⟩:=List.mem_filterMap.mp hp
 cases q:h.get? b with
 | none=>rw [q] at e; cases e
 | some o =>
  rw [q] at e
  have e':(b,o)=p:=Option.some.inj e
  subst e'
  exact ⟨hb,q⟩
theorem Inv.pinned {pins:List (Addr×Obj)} {σ:St} {H:Hp} {s:Shared} {fp:List Addr} (I:Inv X pins σ H s) (hf:∀ b∈fp,FpOk X pins H b) (ho:∀ b∈fp,∃ o,s.heap.get? b=some o∧∀ v,o.data≠.cell v):Inv X (pins++pinsAt fp s.heap) σ H s :=
 I.pins_of fun p hp=>(List.mem_append.mp hp).elim (fun z=>I.pin p (List.mem_append_right _ z)) fun z=>by
  obtain ⟨hb,e⟩:=of_pinsAt z
  obtain ⟨f0,f1,f2,_⟩:=hf p.1 hb
  obtain ⟨o,e',d⟩:=ho p.1 hb
  rw [e] at e'; cases e'
  exact ⟨e,f0,f1,f2,d⟩
theorem Inv.unpinned {pins pl:List (Addr×Obj)} {σ:St} {H:Hp} {s:Shared} (I:Inv X (pins++pl) σ H s):Inv X pins σ H s:=I.pins_of fun p hp=>I.pin p (List.mem_append_right _ (List.mem_append_left _ hp))
theorem ps_for {iter:Expr} {body:List Stmt} {wi:TI} {g:TG} {tb:TS} {pos:Pos} (hp:PassesOwn (model X.prog X.w) X.A X.env X.xe) (hc:X.calm=true) (hi:PI X tg iter wi) (hg:PG X tg g) (hb:PSs X body tb)
  (hs:∀ x,foldedSetIterable iter X.env x=pure x:=by intro _; rfl):PS X (.For tg iter body [] pos) (tFor wi g tb):=by
 intro pins s σ H D I h
 refine wpAny_For (thn (hi pins s σ H _ I h) fun v s1 h1=>thn h1 fun itv s2 h2=>?_) hs
 obtain ⟨it,fp,tn,J,H2,e,I2,T,st2,f2,W,⟨m0,w0⟩,turn⟩:=h2
 subst e
 -- what stays true of the iterator's objects through the loop
 have stat:∀ {H':Hp},(∀ b∈fp,H' b=none)→∀ b∈fp,FpOk X pins H' b:=fun hn b hb=>⟨hn b hb,(f2 b hb).2⟩
 refine codeAny_forLoop_any (fun n s'=>∃ i σ' H',Inv X pins σ' H' s'∧tn i s'.heap∧(∀ b∈fp,H' b=none)∧W i n σ' H') ?_ m0 ⟨0,σ,H2,I2,st2,fun b hb=>(f2 b hb).1,w0⟩
 rintro n s3 ⟨i,σ3,H3,I3,st3,fr3,w3⟩
 rcases turn i n σ3 H3 w3 with ⟨stop,qn⟩ | ⟨go,N,hN,step⟩
 ·refine wpAny_passesOwn hp (thn (T.done X rfl rfl rfl hc i pins s3 σ3 H3 X.xe I3 (stat fr3) st3 stop) fun r s4 ⟨hr,I4⟩=>?_)
  subst hr
  exact wpAny_execs_nil ⟨σ3,H3,I4,qn⟩
 ·refine wpAny_passesOwn hp (thn (T.item X rfl rfl rfl hc i pins s3 σ3 H3 X.xe I3 (stat fr3) st3 go) fun r s4 ⟨u,hr,h4⟩=>?_)
  subst hr
  refine wpAny_passesOwn hp (thn h4 fun _ s5 ⟨x,H5,I5,r5,y5,st5,fr5⟩=>?_)
  have I5':=I5.pinned (stat fr5) (T.obj _ _ st5)
  refine wpAny_passesOwn hp (thn (hg _ s5 σ3 H5 x u _ I5' r5 (step x H5 y5)) fun _ s6 ⟨σ6,H6,I6,q6⟩=>?_)
  refine wpAny_passesOwn hp (thn (hb _ s6 σ6 H6 _ I6 q6) fun f s7 q7=>?_)
  have again:∀ {σ7:St} {H7:Hp},Inv X (pins++pinsAt fp s5.heap) σ7 H7 s7→N σ7 H7→∃ m,m<n∧∃ i σ' H',Inv X pins σ' H' s7∧tn i s7.heap∧(∀ b∈fp,H' b=none)∧W i m σ' H':=fun {σ7 H7} I7 n7=>by
   obtain ⟨m',hm,w7⟩:=hN σ7 H7 n7
   refine ⟨m',hm,i+1,σ7,H7,I7.unpinned,T.keep _ _ _ st5 fun b hb o e=>(I7.pin (b,o) (List.mem_append_right _ (List.mem_append_right _ (mem_pinsAt hb e)))).1,fun b hb=>?_,w7⟩
   obtain ⟨o,e,d⟩:=T.obj _ _ st5 b hb
   exact (I7.pin (b,o) (List.mem_append_right _ (List.mem_append_right _ (mem_pinsAt hb e)))).2.1
  cases f with
  | next => obtain ⟨σ7, H7, I7, n7⟩ := q7; exact again I7 n7
  | cont => obtain ⟨σ7, H7, I7, n7⟩ := q7; exact again I7 n7
  | brk => obtain ⟨σ7, H7, I7, q7⟩ := q7; exact ⟨σ7, H7, I7.unpinned, q7⟩
  | ret v => obtain ⟨x7, σ7, H7, I7, r7, q7⟩ := q7; exact ⟨x7, σ7, H7, I7.unpinned, r7, q7⟩
end
theorem for_list {K:PySem.W.Frag} {a:Addr} {xs:List V} {g:TG} {tb:TS} {D:Ends} {σ:St} {H:Hp} (Pv:Nat→St→Hp→Prop) (h0:Pv 0 σ H) (hl:∀ i σ H,i≤xs.length→Pv i σ H→SqL K H a xs)
  (hs:∀ i x σ H,xs[i]?=some x→Pv i σ H→g x σ H fun σ2 H2=>tb { D with nx:=Pv (i+1),ct:=Pv (i+1),bk:=D.nx } σ2 H2) (hd:∀ σ H,Pv xs.length σ H→D.nx σ H) :
  ∃ W:Nat→Nat→St→Hp→Prop,(∃ m,W 0 m σ H)∧∀ i m σ H,W i m σ H →
   ((Itl K a).stop i H∧D.nx σ H)∨((Itl K a).go i H∧∃ N:St→Hp→Prop,(∀ σ' H',N σ' H'→∃ m',m'<m∧W (i+1) m' σ' H')∧∀ x H',(Itl K a).yld i H x H'→g x σ H' fun σ2 H2=>tb { D with nx:=N,ct:=N,bk:=D.nx } σ2 H2):=by
 refine ⟨fun i m σ H=>m=xs.length - i∧i≤xs.length∧Pv i σ H,⟨xs.length,by simp,Nat.zero_le _,h0⟩,?_⟩
 rintro i m σ H ⟨rfl,hi,p⟩
 have q:=hl i σ H hi p
 by_cases hlt:i<xs.length
 ·refine .inr ⟨⟨xs,xs[i],q,by simp [hlt]⟩,Pv (i+1),fun σ' H' p'=>⟨xs.length - (i+1),by omega,rfl,hlt,p'⟩,fun x H' y=>?_⟩
  obtain ⟨e,y⟩:=y
  subst e
  exact hs i x σ _ (y xs q) p
 ·have e:i=xs.length:=by omega
  subst e
  exact .inl ⟨⟨xs,q,Nat.le_refl _⟩,hd σ H p⟩
theorem for_range {lo:Int} {n:Nat} {g:TG} {tb:TS} {D:Ends} {σ:St} {H:Hp} (Pv:Nat→St→Hp→Prop) (h0:Pv 0 σ H)
  (hs:∀ i σ H,i<n→Pv i σ H→g (.int (lo+i)) σ H fun σ2 H2=>tb { D with nx:=Pv (i+1),ct:=Pv (i+1),bk:=D.nx } σ2 H2) (hd:∀ σ H,Pv n σ H→D.nx σ H) :
  ∃ W:Nat→Nat→St→Hp→Prop,(∃ m,W 0 m σ H)∧∀ i m σ H,W i m σ H →
   ((Itr lo n).stop i H∧D.nx σ H)∨((Itr lo n).go i H∧∃ N:St→Hp→Prop,(∀ σ' H',N σ' H'→∃ m',m'<m∧W (i+1) m' σ' H')∧∀ x H',(Itr lo n).yld i H x H'→g x σ H' fun σ2 H2=>tb { D with nx:=N,ct:=N,bk:=D.nx } σ2 H2):=by
 refine ⟨fun i m σ H=>m=n - i∧i≤n∧Pv i σ H,⟨n,by simp,Nat.zero_le _,h0⟩,?_⟩
 rintro i m σ H ⟨rfl,hi,p⟩
 by_cases hlt:i<n
 ·refine .inr ⟨hlt,Pv (i+1),fun σ' H' p'=>⟨n - (i+1),by omega,rfl,hlt,p'⟩,fun x H' y=>?_⟩
  obtain ⟨e,y⟩:=y
  subst e y
  exact hs i σ _ hlt p
 ·have e:i=n:=by omega
  subst e
  exact .inl ⟨Nat.le_refl _,hd σ H p⟩
end L2
namespace L2
open PySem PySem.Spec PyProof.Rows
abbrev R2:=V→V→Hp→VK→Prop
def OpR (X:Cx) (f:Value→Value→Sem Value) (r:R2):Prop :=
 ∀ (pins:List (Addr×Obj)) (s:Shared) (σ:St) (H:Hp) (x y:V) (v u:Value) (Q:VK),Inv X pins σ H s→RelV x v→RelV y u→r x y H Q →
  wpAny (model X.prog X.w) X.A (f v u) (EP X pins σ Q) X.xe s
def UnR (X:Cx) (f:Value→Sem Value) (r:V→Hp→VK→Prop):Prop :=
 ∀ (pins:List (Addr×Obj)) (s:Shared) (σ:St) (H:Hp) (x:V) (v:Value) (Q:VK),Inv X pins σ H s→RelV x v→r x H Q →
  wpAny (model X.prog X.w) X.A (f v) (EP X pins σ Q) X.xe s
def CallR (X:Cx) (f:Value) (r:List V→Hp→VK→Prop):Prop :=
 ∀ (pins:List (Addr×Obj)) (s:Shared) (σ:St) (H:Hp) (xs:List V) (us:List Value) (Q:VK),Inv X pins σ H s→Vals xs us→r xs H Q →
  wpAny (model X.prog X.w) X.A (call f us) (EP X pins σ Q) X.xe s
def tOp (r:R2) (ta tb:TE):TE:=fun σ H Q=>ta σ H fun x H1=>tb σ H1 fun y H2=>r x y H2 Q
def tUn (r:V→Hp→VK→Prop) (ta:TE):TE:=fun σ H Q=>ta σ H fun x H1=>r x H1 Q
def rI (C:Int→Int→Prop) (g:Int→Int→V):R2:=fun x y H Q=>∃ i j,x=.int i∧y=.int j∧C i j∧Q (g i j) H
def rI0 (g:Int→Int→V):R2:=fun x y H Q=>∃ i j,x=.int i∧y=.int j∧Q (g i j) H
def rU (g:Int→V):V→Hp→VK→Prop:=fun x H Q=>∃ i,x=.int i∧Q (g i) H
section
variable {X:Cx} {a b c:Expr} {ta tb tc:TE} {pos:Pos}
theorem binT (ha:PE X a ta) (hb:PE X b tb) {pins:List (Addr×Obj)} {s:Shared} {σ:St} {H:Hp} {R:V→V→Hp→Prop} (I:Inv X pins σ H s)
  (h:ta σ H fun x H1=>tb σ H1 fun y H2=>R x y H2) {Q:Value→Shared→Prop} {f:Value→Value→Sem Value}
  (hf:∀ v u s2 x y H2,Inv X pins σ H2 s2→RelV x v→RelV y u→R x y H2→wpAny (model X.prog X.w) X.A (f v u) Q X.xe s2) :
  wpAny (model X.prog X.w) X.A (eval a X.env) (fun v s₁=>wpAny (model X.prog X.w) X.A (eval b X.env) (fun u s₂=>wpAny (model X.prog X.w) X.A (f v u) Q X.xe s₂) X.xe s₁) X.xe s:=by
 refine thn (ha pins s σ H _ I h) fun v s1 ⟨x,H1,I1,r1,q1⟩=>?_
 refine thn (hb pins s1 σ H1 _ I1 q1) fun u s2 ⟨y,H2,I2,r2,q2⟩=>?_
 exact hf v u s2 x y H2 I2 r1 r2 q2
theorem pe_op {op:Operator} {r:R2} (ho:OpR X (binaryOp op) r) (ha:PE X a ta) (hb:PE X b tb):PE X (.BinOp a op b pos) (tOp r ta tb):=by
 intro pins s σ H Q I h
 exact wpAny_BinOp (binT ha hb I h fun v u s2 x y H2 I2 rx ry q=>ho pins s2 σ H2 x y v u Q I2 rx ry q)
theorem pe_un {op:UnaryOp} {r:V→Hp→VK→Prop} (ho:UnR X (unaryOp op) r) (ha:PE X a ta):PE X (.UnaryOp op a pos) (tUn r ta):=by
 intro pins s σ H Q I h
 exact UnaryOp_ (thn (ha pins s σ H _ I h) fun v s1 ⟨x,H1,I1,r1,q1⟩=>ho pins s1 σ H1 x v Q I1 r1 q1)
theorem opI {f:Value→Value→Sem Value} {C:Int→Int→Prop} {g:Int→Int→Int}
  (rule:∀ (i j:Int) (t u:Tok) (s:Shared) (Q:Value→Shared→Prop) (E:Value→Shared→Prop),C i j→Q (.int (g i j) s.toks) { s with toks:=s.toks+1 }→wpAny (model X.prog X.w) X.A (f (.int i t) (.int j u)) Q E s) :
  OpR X f (rI C fun i j=>.int (g i j)):=by
 intro pins s σ H x y v u Q I rx ry h
 obtain ⟨i,j,rfl,rfl,hc,q⟩:=h
 obtain ⟨t,rfl⟩:=rx
 obtain ⟨t',rfl⟩:=ry
 exact rule i j t t' s _ _ hc ⟨.int (g i j),H,I.tok _,⟨_,rfl⟩,q⟩
theorem opI0 {f:Value→Value→Sem Value} {g:Int→Int→Int}
  (rule:∀ (i j:Int) (t u:Tok) (s:Shared) (Q:Value→Shared→Prop) (E:Value→Shared→Prop),Q (.int (g i j) s.toks) { s with toks:=s.toks+1 }→wpAny (model X.prog X.w) X.A (f (.int i t) (.int j u)) Q E s) :
  OpR X f (rI0 fun i j=>.int (g i j)):=by
 intro pins s σ H x y v u Q I rx ry h
 obtain ⟨i,j,rfl,rfl,q⟩:=h
 obtain ⟨t,rfl⟩:=rx
 obtain ⟨t',rfl⟩:=ry
 exact rule i j t t' s _ _ ⟨.int (g i j),H,I.tok _,⟨_,rfl⟩,q⟩
theorem opB0 {f:Value→Value→Sem Value} {g:Int→Int→Bool}
  (rule:∀ (i j:Int) (t u:Tok) (s:Shared) (Q:Value→Shared→Prop) (E:Value→Shared→Prop),Q (.bool (g i j)) s→wpAny (model X.prog X.w) X.A (f (.int i t) (.int j u)) Q E s) :
  OpR X f (rI0 fun i j=>.bl (g i j)):=by
 intro pins s σ H x y v u Q I rx ry h
 obtain ⟨i,j,rfl,rfl,q⟩:=h
 obtain ⟨t,rfl⟩:=rx
 obtain ⟨t',rfl⟩:=ry
 exact rule i j t t' s _ _ ⟨.bl (g i j),H,I,rfl,q⟩
def CDiv (i j:Int):Prop:=0<j∧j<1073741824
def CPow (i j:Int):Prop:=0≤j∧j≤1000000∧i.natAbs<2 ^ 64
def CMul (i j:Int):Prop:=(-(2 ^ 64)<i∧i<2 ^ 64)∨(-(2 ^ 64)<j∧j<2 ^ 64)
theorem CMul.ok {i j:Int} (h:CMul i j):IntMulOk i j:=by
 rcases h with ⟨h1,h2⟩ | ⟨h1,h2⟩
 ·exact .of_left (intBits_le_64 h1 h2)
 ·exact .of_right (intBits_le_64 h1 h2)
theorem op_add:OpR X (binaryOp .Add) (rI0 fun i j=>.int (i+j)):=opI0 fun _ _ _ _ _ _ _ q=>add_int q
theorem op_sub:OpR X (binaryOp .Sub) (rI0 fun i j=>.int (i - j)):=opI0 fun _ _ _ _ _ _ _ q=>sub_int q
theorem op_mul:OpR X (binaryOp .Mult) (rI CMul fun i j=>.int (i*j)):=opI fun _ _ _ _ _ _ _ hc q=>mul_int q hc.ok
theorem op_fdiv:OpR X (binaryOp .FloorDiv) (rI CDiv fun i j=>.int (i / j)):=opI fun i j _ _ _ _ _ hc q=>by
 have h1:(0:Int)<j:=hc.1
 have h2:j<1073741824:=hc.2
 exact floordiv_int (by omega) (by rw [Int.fdiv_eq_ediv_of_nonneg i (by omega)]; exact q) (.inl (PyProof.noPylong_small (by omega)))
theorem op_mod:OpR X (binaryOp .Mod) (rI (fun _ j=>0<j) fun i j=>.int (i%j)):=opI fun i j _ _ _ _ _ hc q=>by
 have h1:(0:Int)<j:=hc
 exact mod_int' (by omega) (by rw [Int.fmod_eq_emod_of_nonneg i (by omega)]; exact q)
theorem op_pow:OpR X (binaryOp .Pow) (rI CPow fun i j=>.int (i ^ j.toNat)):=opI fun _ _ _ _ _ _ _ hc q=>pow_int_small hc.1 hc.2.1 hc.2.2 q
theorem unI {f:Value→Sem Value} {g:Int→Int}
  (rule:∀ (i:Int) (t:Tok) (s:Shared) (Q:Value→Shared→Prop) (E:Value→Shared→Prop),Q (.int (g i) s.toks) { s with toks:=s.toks+1 }→wpAny (model X.prog X.w) X.A (f (.int i t)) Q E s) :
  UnR X f (rU fun i=>.int (g i)):=by
 intro pins s σ H x v Q I rx h
 obtain ⟨i,rfl,q⟩:=h
 obtain ⟨t,rfl⟩:=rx
 exact rule i t s _ _ ⟨.int (g i),H,I.tok _,⟨_,rfl⟩,q⟩
theorem un_neg:UnR X (unaryOp .USub) (rU fun i=>.int (-i)):=unI fun _ _ _ _ _ q=>neg_int q
end
def scal:V→V→Bool
 | .non,.non=>true | .non,.int _=>true | .int _,.non=>true | .non,.bl _=>true | .bl _,.non=>true | .non,.str _=>true | .str _,.non=>true
 | .int _,.int _=>true | .bl _,.bl _=>true | .str _,.str _=>true | .byt _,.byt _=>true
 | .int _,.str _=>true | .str _,.int _=>true | .bl _,.str _=>true | .str _,.bl _=>true
 | _,_=>false
def rEq:R2:=fun x y H Q=>scal x y=true∧Q (.bl (decide (x=y))) H
def rNe:R2:=fun x y H Q=>scal x y=true∧Q (.bl (!decide (x=y))) H
theorem dec_int {i j:Int}:decide (V.int i=V.int j)=(i==j):=by
 rw [Bool.eq_iff_iff]
 simp
theorem dec_bl {i j:Bool}:decide (V.bl i=V.bl j)=(i==j):=by
 rw [Bool.eq_iff_iff]
 simp
theorem dec_str {i j:Str}:decide (V.str i=V.str j)=(i==j):=by
 rw [Bool.eq_iff_iff]
 simp
theorem dec_byt {i j:Array UInt8}:decide (V.byt i=V.byt j)=(i.toList==j.toList):=by
 rw [Bool.eq_iff_iff]
 cases i
 cases j
 simp
section
variable {X:Cx} {a b c:Expr} {ta tb tc:TE} {pos:Pos}
theorem fin_bl {pins:List (Addr×Obj)} {σ:St} {H:Hp} {s:Shared} {Q:VK} {k k':Bool} (I:Inv X pins σ H s) (q:Q (.bl k) H) (e:k=k'):EP X pins σ Q (.bool k') s:=by
 subst e
 exact ⟨.bl k,H,I,rfl,q⟩
theorem op_eq:OpR X (compareOp .Eq) rEq:=by
 intro pins s σ H x y v u Q I rx ry h
 obtain ⟨hs,q⟩:=h
 cases x with
 | non =>
  cases rx
  cases y with
  | non => cases ry; exact PySem.EqNone.eq_none_none (fin_bl I q (by simp))
  | bl j => cases ry; exact PySem.EqNone.eq_none_bool (fin_bl I q (by simp))
  | int j => obtain ⟨t', rfl⟩ := ry; exact PySem.EqNone.eq_none_int (fin_bl I q (by simp))
  | str j => obtain ⟨t', rfl⟩ := ry; exact PySem.EqNone.eq_none_str (fin_bl I q (by simp))
  | _ => exact absurd (show false = true from hs) Bool.false_ne_true
 | bl i =>
  cases rx
  cases y with
  | non => cases ry; exact PySem.EqNone.eq_bool_none (fin_bl I q (by simp))
  | bl j => cases ry; exact eq_bool (fin_bl I q dec_bl)
  | str j => obtain ⟨t', rfl⟩ := ry; exact PySem.EqMixed.eq_bool_str (fin_bl I q (by simp))
  | _ => exact absurd (show false = true from hs) Bool.false_ne_true
 | int i =>
  obtain ⟨t,rfl⟩:=rx
  cases y with
  | non => cases ry; exact PySem.EqNone.eq_int_none (fin_bl I q (by simp))
  | int j => obtain ⟨t', rfl⟩ := ry; exact eq_int (fin_bl I q dec_int)
  | str j => obtain ⟨t', rfl⟩ := ry; exact PySem.EqMixed.eq_int_str (fin_bl I q (by simp))
  | _ => exact absurd (show false = true from hs) Bool.false_ne_true
 | str i =>
  obtain ⟨t,rfl⟩:=rx
  cases y with
  | non => cases ry; exact PySem.EqNone.eq_str_none (fin_bl I q (by simp))
  | bl j => cases ry; exact PySem.EqMixed.eq_str_bool (fin_bl I q (by simp))
  | int j => obtain ⟨t', rfl⟩ := ry; exact PySem.EqMixed.eq_str_int (fin_bl I q (by simp))
  | str j => obtain ⟨t', rfl⟩ := ry; exact eq_str (fin_bl I q dec_str)
  | _ => exact absurd (show false = true from hs) Bool.false_ne_true
 | byt i =>
  obtain ⟨t,rfl⟩:=rx
  cases y with
  | byt j => obtain ⟨t', rfl⟩ := ry; exact PySem.W.eq_bytes (fin_bl I q dec_byt)
  | _ => exact absurd (show false = true from hs) Bool.false_ne_true
 | _=>cases y<;>exact absurd (show false=true from hs) Bool.false_ne_true
theorem op_ne:OpR X (compareOp .NotEq) rNe:=by
 intro pins s σ H x y v u Q I rx ry h
 obtain ⟨hs,q⟩:=h
 cases x with
 | non =>
  cases rx
  cases y with
  | non => cases ry; exact PySem.EqNone.ne_none_none (fin_bl I q (by simp))
  | bl j => cases ry; exact PySem.EqNone.ne_none_bool (fin_bl I q (by simp))
  | int j => obtain ⟨t', rfl⟩ := ry; exact PySem.EqNone.ne_none_int (fin_bl I q (by simp))
  | str j => obtain ⟨t', rfl⟩ := ry; exact PySem.EqNone.ne_none_str (fin_bl I q (by simp))
  | _ => exact absurd (show false = true from hs) Bool.false_ne_true
 | bl i =>
  cases rx
  cases y with
  | non => cases ry; exact PySem.EqNone.ne_bool_none (fin_bl I q (by simp))
  | bl j => cases ry; exact ne_bool (fin_bl I q (congrArg not dec_bl))
  | str j => obtain ⟨t', rfl⟩ := ry; exact PySem.EqMixed.ne_bool_str (fin_bl I q (by simp))
  | _ => exact absurd (show false = true from hs) Bool.false_ne_true
 | int i =>
  obtain ⟨t,rfl⟩:=rx
  cases y with
  | non => cases ry; exact PySem.EqNone.ne_int_none (fin_bl I q (by simp))
  | int j => obtain ⟨t', rfl⟩ := ry; exact ne_int (fin_bl I q (congrArg not dec_int))
  | str j => obtain ⟨t', rfl⟩ := ry; exact PySem.EqMixed.ne_int_str (fin_bl I q (by simp))
  | _ => exact absurd (show false = true from hs) Bool.false_ne_true
 | str i =>
  obtain ⟨t,rfl⟩:=rx
  cases y with
  | non => cases ry; exact PySem.EqNone.ne_str_none (fin_bl I q (by simp))
  | bl j => cases ry; exact PySem.EqMixed.ne_str_bool (fin_bl I q (by simp))
  | int j => obtain ⟨t', rfl⟩ := ry; exact PySem.EqMixed.ne_str_int (fin_bl I q (by simp))
  | str j => obtain ⟨t', rfl⟩ := ry; exact ne_str (fin_bl I q (congrArg not dec_str))
  | _ => exact absurd (show false = true from hs) Bool.false_ne_true
 | byt i =>
  obtain ⟨t,rfl⟩:=rx
  cases y with
  | byt j => obtain ⟨t', rfl⟩ := ry; exact PySem.W.ne_bytes (fin_bl I q (congrArg not dec_byt))
  | _ => exact absurd (show false = true from hs) Bool.false_ne_true
 | _=>cases y<;>exact absurd (show false=true from hs) Bool.false_ne_true
theorem op_lt:OpR X (compareOp .Lt) (rI0 fun i j=>.bl (decide (i<j))):=opB0 fun _ _ _ _ _ _ _ q=>lt_int q
theorem op_le:OpR X (compareOp .LtE) (rI0 fun i j=>.bl (decide (i≤j))):=opB0 fun _ _ _ _ _ _ _ q=>le_int q
theorem op_gt:OpR X (compareOp .Gt) (rI0 fun i j=>.bl (decide (j<i))):=opB0 fun _ _ _ _ _ _ _ q=>gt_int q
theorem op_notN:OpR X (compareOp .IsNot) (fun x y H Q=>y=.non∧Q (.bl (!decide (x=.non))) H):=by
 intro pins s σ H x y v u Q I rx ry h
 obtain ⟨rfl,q⟩:=h
 cases ry
 refine isnot_none_gen (fin_bl I q ?_)
 cases x<;>first
  | (cases rx; rfl)
  | (obtain ⟨t, rfl⟩ := rx; rfl)
theorem nomark (b:Expr) {op:CmpOp} (h:op≠.In:=by decide) (h2:op≠.NotIn:=by decide):behindInMarks op b=false:=by
 have e1:(op==CmpOp.In)=false:=by cases op<;>first | rfl | exact absurd rfl h
 have e2:(op==CmpOp.NotIn)=false:=by cases op<;>first | rfl | exact absurd rfl h2
 cases b<;>simp [behindInMarks,e1,e2]
theorem pe_cmpR {op:CmpOp} {r:R2} (ho:OpR X (compareOp op) r) (ha:PE X a ta) (hb:PE X b tb) (hm:behindInMarks op b=false):PE X (.Compare a [op] [b] pos) (tOp r ta tb):=by
 intro pins s σ H Q I h
 exact wpAny_Compare1 (binT ha hb I h fun v u s2 x y H2 I2 rx ry q=>ho pins s2 σ H2 x y v u Q I2 rx ry q) hm
def tTest (t:TE):TT:=fun σ H Q=>t σ H fun x H'=>∃ k,x=.bl k∧Q k H'
theorem pt_cmpR {op:CmpOp} {r:R2} (ho:OpR X (compareOp op) r) (ha:PE X a ta) (hb:PE X b tb) (hm:behindInMarks op b=false):PT X (.Compare a [op] [b] pos) (tTest (tOp r ta tb)):=by
 intro pins s σ H Q I h
 refine wpAny_isTrue_Compare1 (thn (ha pins s σ H _ I h) fun v s1 ⟨x,H1,I1,r1,q1⟩=>thn (hb pins s1 σ H1 _ I1 q1) fun u s2 ⟨y,H2,I2,r2,q2⟩ =>
  thn (ho pins s2 σ H2 x y v u _ I2 r1 r2 q2) fun c s3 ⟨z,H3,I3,r3,k,e,q3⟩=>?_) hm
 subst e
 cases r3
 exact wpAny_truthy_bool ⟨H3,I3,q3⟩
def tChain (r r':R2) (ta tb tc:TE):TE:=fun σ H Q=>ta σ H fun x H1=>tb σ H1 fun y H2=>r x y H2 fun z H3=>∃ k,z=.bl k ∧
 (if k=true then tc σ H3 fun w' H4=>r' y w' H4 Q else Q (.bl false) H3)
theorem pe_chain {op op':CmpOp} {r r':R2} (ho:OpR X (compareOp op) r) (ho':OpR X (compareOp op') r') (ha:PE X a ta) (hb:PE X b tb) (hc:PE X c tc)
  (hm:lastMarks [op,op'] [b,c]=false:=by with_unfolding_all rfl):PE X (.Compare a [op,op'] [b,c] pos) (tChain r r' ta tb tc):=by
 intro pins s σ H Q I h
 refine Compare_chain (thn (ha pins s σ H _ I h) fun v s1 ⟨x,H1,I1,r1,q1⟩=>chain_link (thn (hb pins s1 σ H1 _ I1 q1) fun u s2 ⟨y,H2,I2,r2,q2⟩ =>
  thn (ho pins s2 σ H2 x y v u _ I2 r1 r2 q2) fun d s3 ⟨z,H3,I3,r3,k,e,q3⟩=>?_)) hm
 subst e
 cases r3
 refine wpAny_truthy_bool ?_
 cases k with
 | false=>exact ite_ff ⟨.bl false,H3,I3,rfl,q3⟩
 | true=>exact ite_tt (chain_last (thn (hc pins s3 σ H3 _ I3 q3) fun w' s4 ⟨z',H4,I4,r4,q4⟩=>ho' pins s4 σ H4 y z' u w' Q I4 r2 r4 q4))
theorem pt_chain {op op':CmpOp} {r r':R2} (ho:OpR X (compareOp op) r) (ho':OpR X (compareOp op') r') (ha:PE X a ta) (hb:PE X b tb) (hc:PE X c tc)
  (hm:lastMarks [op,op'] [b,c]=false:=by with_unfolding_all rfl):PT X (.Compare a [op,op'] [b,c] pos) (tTest (tChain r r' ta tb tc)):=by
 intro pins s σ H Q I h
 refine isTrue_chain (thn (ha pins s σ H _ I h) fun v s1 ⟨x,H1,I1,r1,q1⟩=>test_link (thn (hb pins s1 σ H1 _ I1 q1) fun u s2 ⟨y,H2,I2,r2,q2⟩ =>
  thn (ho pins s2 σ H2 x y v u _ I2 r1 r2 q2) fun d s3 ⟨z,H3,I3,r3,k,e,q3⟩=>?_)) hm
 subst e
 cases r3
 refine wpAny_truthy_bool ?_
 cases k with
 | false =>
  obtain ⟨k',e',q'⟩:=q3
  cases e'
  exact ite_ff ⟨H3,I3,q'⟩
 | true =>
  refine ite_tt (test_last (thn (hc pins s3 σ H3 _ I3 q3) fun w' s4 ⟨z',H4,I4,r4,q4⟩=>thn (ho' pins s4 σ H4 y z' u w' _ I4 r2 r4 q4) fun d' s5 ⟨z2,H5,I5,r5,k2,e2,q5⟩=>?_))
  subst e2
  cases r5
  exact wpAny_truthy_bool ⟨H5,I5,q5⟩
theorem line63:(sizeLine:Nat)<2 ^ 63:=by rw [sizeLine_eq]; decide
theorem vals1 {x:V} {us:List Value} (r:Vals [x] us):∃ u,us=[u]∧RelV x u:=by
 cases r with
 | cons r1 r2=>cases r2; exact ⟨_,rfl,r1⟩
theorem vals2 {x y:V} {us:List Value} (r:Vals [x,y] us):∃ u w',us=[u,w']∧RelV x u∧RelV y w':=by
 cases r with
 | cons r1 r2 =>
  cases r2 with
  | cons r3 r4 => cases r4; exact ⟨_, _, rfl, r1, r3⟩
theorem call_abs:CallR X (.builtin "abs") (fun xs H Q=>∃ i,xs=[.int i]∧Q (.int (if i<0 then -i else i)) H):=by
 intro pins s σ H xs us Q I r h
 obtain ⟨i,rfl,q⟩:=h
 obtain ⟨u,rfl,t,rfl⟩:=vals1 r
 exact call_abs_int fun u tk=>⟨.int (if i<0 then -i else i),H,I.tok _,⟨_,rfl⟩,q⟩
theorem call_min2 (hc:X.calm=true):CallR X (.builtin "min") (fun xs H Q=>∃ i j,xs=[.int i,.int j]∧Q (.int (if j<i then j else i)) H):=by
 intro pins s σ H xs us Q I r h
 obtain ⟨i,j,rfl,q⟩:=h
 obtain ⟨u,w',rfl,⟨t,rfl⟩,⟨t',rfl⟩⟩:=vals2 r
 refine min_two_ints (I.ok.hd hc) fun h' tk k=>⟨_,H,I.kept k,?_,q⟩
 by_cases hj:j<i
 ·rw [if_pos hj,if_pos hj]; exact ⟨_,rfl⟩
 ·rw [if_neg hj,if_neg hj]; exact ⟨_,rfl⟩
end
end L2
namespace L2
open PySem PySem.Spec PyProof.Rows
structure ObjM (h:Heap) (x dx C:Addr) (mA:Str→Option Value):Prop where
 obj:h.get? x=some (PySem.W.instObj C dx)
 ns:h.Ns1 dx mA
 ne:dx≠x
theorem lookIn_ns {h:Heap} {dx:Addr} {mA:Str→Option Value} (n:h.Ns1 dx mA):∃ od,h.get? dx=some od∧∀ name,PySem.W.lookIn name od=some (mA name):=by
 obtain ⟨o,es,ep,ho,hd,hk,_,hm⟩:=n
 refine ⟨o,ho,fun name=>?_⟩
 have e:=hm name
 unfold nsFind findBy at e
 rw [← Array.find?_toList] at e
 unfold PySem.W.lookIn
 rw [hd]
 dsimp only
 split
 ·rename_i y q
  rw [q] at e
  exact congrArg some e
 ·rename_i q
  rw [q] at e
  have a:es.toList.any (·.refKey)=false:=by
   rw [List.any_eq_false]
   intro y hy
   obtain ⟨z,t,hkey⟩:=hk y (Array.mem_toList_iff.mp hy)
   simp [DictEntry.refKey,hkey]
  have a':¬ es.toList.any (·.refKey)=true:=by rw [a]; exact Bool.false_ne_true
  rw [if_neg a']
  exact congrArg some e
theorem ObjM.look {h:Heap} {x dx C:Addr} {mA:Str→Option Value} (I:ObjM h x dx C mA):∃ od,PySem.W.InstAt h x (PySem.W.instObj C dx) C (some od)∧∀ name,PySem.W.lookIn name od=some (mA name) :=
 let ⟨od,ho,hl⟩:=lookIn_ns I.ns
 ⟨od,⟨I.obj,rfl,rfl,ho⟩,hl⟩
section
variable {prog:Program} {w:World} {A:Around} {E:Value→Shared→Prop} {s:Shared} {K:PySem.W.Frag} {x dx C f:Addr} {mA:Str→Option Value} {name:Str} {v:Value}
theorem get_map {expr:Bool} {Q:Value→Shared→Prop} (X:K.In s.heap) (I:ObjM s.heap x dx C mA) (hg:PySem.W.plainGet K C name=true) (hh:PySem.W.hasDictIn K C=true)
  (ha:PySem.W.findIn K (.ref C) name=some none) (hv:mA name=some v) (hv':PySem.W.handedIn v=true) (h:Q v { s with toks:=s.toks+1 }) :
  wpAny (model prog w) A (getAttr (.ref x) name expr) Q E s:=by
 obtain ⟨od,J,hl⟩:=I.look
 exact PySem.W.get_value X J (PySem.W.plainGet_of hg).1 (PySem.W.findObj_own hh ha rfl (by rw [hl,hv])) hv' h
theorem get_meth {pl:Sem Bool} {Q:Value×List Value→Shared→Prop} (X:K.In s.heap) (I:ObjM s.heap x dx C mA) (hg:PySem.W.plainGet K C name=true)
  (hf:PySem.W.findIn K (.ref C) name=some (some (.ref f))) (ht:PySem.W.isFn K (.ref f)=true) (hv:mA name=none) (h:Q (.ref f,[.ref x]) s) :
  wpAny (model prog w) A (getMethod (.ref x) name pl) Q E s:=by
 obtain ⟨od,J,hl⟩:=I.look
 exact PySem.W.method_fn X J (PySem.W.plainGet_of hg).1 (PySem.W.plainGet_of hg).2 hf (beq_iff_eq.mp ht) (by show (PySem.W.lookIn name od).map (·.isSome)=some false; rw [hl,hv]; rfl) h
theorem set_map {ns:List Str} {Q:Unit→Shared→Prop} (X:K.In s.heap) (I:ObjM s.heap x dx C mA)
  (hs:PySem.W.findIn K (.ref C) "__setattr__"=some (some (.builtin "object.__setattr__"))) (hp:PySem.W.plainOver K C=true) (ht:PySem.W.takerIn K C name=some none) (hh:PySem.W.hasDictIn K C=true)
  (hw:PySem.Within mA ns) (hsz:ns.length≤sizeLine)
  (h:∀ h',ObjM h' x dx C (fun y=>if y=name then some v else mA y)→Heap.SameBut dx s.heap h'→Q () { s with heap:=h',toks:=s.toks+2 }) :
  wpAny (model prog w) A (setAttr (.ref x) name v) Q E s:=by
 obtain ⟨od,J,hl⟩:=I.look
 refine PySem.W.set_plain X J hs (PySem.W.osa_open (s:={ s with toks:=s.toks+1 }) (r:=none) X J hp ht fun b=>?_)
 obtain ⟨cd,hc,hd'⟩:=PySem.W.any_some hh
 have hx:s.heap.get? x=some ⟨.ref C,some dx,.plain,#[]⟩:=I.obj
 refine wpAny_bind (wpAny_pure (wpAny_bind (wpAny_bind (wpAny_loadPart hx (wpAny_bind (PySem.W.Looks.here (s:={ s with toks:=s.toks+1 }) (PySem.W.looks_clsIn X hc) ?_))))))
 rw [hd']
 refine wpAny_pure (a:=some dx) (wpAny_bind (wpAny_pure (wpAny_bind ?_)))
 refine wpAny_nsSet1 (s:={ s with toks:=s.toks+1 }) I.ns fun h' hn2 hs2=>?_
 obtain ⟨oD,esD,epD,hoD,hdD,hcD⟩:=hn2.count (PySem.Within.cons name v hw)
 refine wpAny_bind (wpAny_lookBehind hoD (by rw [hdD]; exact pastItsLine_dict (Nat.le_trans hcD (by rw [List.length_cons]; omega))) ?_)
 exact wpAny_pure (h _ ⟨(hs2.2 _ (Ne.symm I.ne)).trans I.obj,hn2,I.ne⟩ hs2)
theorem make_map {R:Result→Shared→Prop} {vs:List Value} {kw:List (Str×Value)} (X:K.In s.heap) (hm:PySem.W.makesIn K C=true)
  (hi:PySem.W.findIn K (.ref C) "__init__"=some (some (.ref f))) (hf:PySem.W.typeIn K (.ref f)=some (.type "function"))
  (h:codeAny (model prog w) (A.under (.builtin "type.__call__" ⟨.ref C::vs,kw⟩)) (.call (.ref f) ⟨.ref (s.heap.objs.size+1)::vs,kw⟩) (PySem.W.InitBack (s.heap.objs.size+1) R)
   { s with heap:=(s.heap.push PySem.W.emptyDict).push (PySem.W.instObj C s.heap.objs.size) }) :
  codeAny (model prog w) A (.call (.ref C) ⟨vs,kw⟩) R s:=by
 obtain ⟨hh,g,d,t,os⟩:=s
 exact PySem.W.make_core (PySem.W.makes_of X hm) (PySem.W.looks_findIn X hi) (fun self=>PySem.W.bind_fn X self hf) (.inl rfl) h
end
def putF (f:Str) (v:V):List (Str×V)→List (Str×V)
 | []=>[(f,v)]
 | (g,x)::r=>if g=f then (g,v)::r else (g,x)::putF f v r
theorem lookup_putF (f g:Str) (v:V):∀ fs:List (Str×V),(putF f v fs).lookup g=if g=f then some v else fs.lookup g
 | []=>by
  show List.lookup g [(f,v)]=_
  by_cases h:g=f
  ·have hb:(g==f)=true:=beq_iff_eq.mpr h
   simp only [List.lookup,hb,if_pos h]
  ·have hb:(g==f)=false:=beq_eq_false_iff_ne.mpr h
   simp only [List.lookup,hb,if_neg h]
 | (k,x)::r=>by
  have ih:=lookup_putF f g v r
  rw [show putF f v ((k,x)::r)=(if k=f then (k,v)::r else (k,x)::putF f v r) from rfl]
  by_cases hk:k=f
  ·rw [if_pos hk]
   by_cases h:g=k
   ·have hb:(g==k)=true:=beq_iff_eq.mpr h
    simp only [List.lookup,hb,if_pos (h.trans hk)]
   ·have hb:(g==k)=false:=beq_eq_false_iff_ne.mpr h
    simp only [List.lookup,hb,if_neg (fun e:g=f=>h (e.trans hk.symm))]
  ·rw [if_neg hk]
   by_cases h:g=k
   ·have hb:(g==k)=true:=beq_iff_eq.mpr h
    simp only [List.lookup,hb,if_neg (fun e:g=f=>hk (h.symm.trans e))]
   ·have hb:(g==k)=false:=beq_eq_false_iff_ne.mpr h
    simp only [List.lookup,hb]
    exact ih
theorem keys_putF (f:Str) (v:V):∀ fs:List (Str×V),f∈(putF f v fs).map (·.1)∧∀ g,g∈fs.map (·.1)→g∈(putF f v fs).map (·.1)
 | []=>⟨by simp [putF],fun g h=>by simp at h⟩
 | (k,x)::r=>by
  obtain ⟨i1,i2⟩:=keys_putF f v r
  rw [show putF f v ((k,x)::r)=(if k=f then (k,v)::r else (k,x)::putF f v r) from rfl]
  by_cases hk:k=f
  ·rw [if_pos hk]
   subst hk
   exact ⟨by simp,fun g h=>by simpa using h⟩
  ·rw [if_neg hk]
   refine ⟨?_,fun g h=>?_⟩
   ·rw [List.map_cons]
    exact List.mem_cons_of_mem _ i1
   ·rw [List.map_cons] at h ⊢
    rcases List.mem_cons.mp h with e | e
    ·exact List.mem_cons.mpr (.inl e)
    ·exact List.mem_cons_of_mem _ (i2 g e)
theorem length_putF (f:Str) (v:V):∀ fs:List (Str×V),(putF f v fs).length≤fs.length+1
 | []=>by simp [putF]
 | (k,x)::r=>by
  have ih:=length_putF f v r
  rw [show putF f v ((k,x)::r)=(if k=f then (k,v)::r else (k,x)::putF f v r) from rfl]
  by_cases hk:k=f
  ·rw [if_pos hk,List.length_cons,List.length_cons]; omega
  ·rw [if_neg hk,List.length_cons,List.length_cons]; omega
theorem RelO.some_of {v:V} {o:Option Value} (r:RelO (some v) o):∃ u,o=some u∧RelV v u:=by
 cases o with
 | none=>exact (show False from r).elim
 | some u=>exact ⟨u,rfl,r⟩
theorem RelO.none_of {o:Option Value} (r:RelO none o):o=none:=by
 cases o with
 | none=>rfl
 | some u=>exact (show False from r).elim
theorem handed_of {v:V} {u:Value} (r:RelV v u):PySem.W.handedIn u=true:=by
 cases v with
 | non=>cases (show u=Value.none from r); rfl
 | bl b=>cases (show u=Value.bool b from r); rfl
 | int i=>obtain ⟨t,e⟩:=(show ∃ t,u=Value.int i t from r); cases e; rfl
 | str x=>obtain ⟨t,e⟩:=(show ∃ t,u=Value.str x t from r); cases e; rfl
 | byt b=>obtain ⟨t,e⟩:=(show ∃ t,u=Value.bytes b t from r); cases e; rfl
 | flt b=>obtain ⟨t,e⟩:=(show ∃ t,u=Value.float b t from r); cases e; rfl
 | ref a=>cases (show u=Value.ref a from r); rfl
 | ty n=>cases (show u=Value.type n from r); rfl
section
variable {P:Program} {w:World} {H H':Hp} {h h':Heap} {a C dx:Addr} {fs fs':List (Str×V)}
theorem ins_get (hok:HOk P w H h) (e:H a=some (.ins C dx fs)):∃ mA,ObjM h a dx C mA∧(∀ f,RelO (fs.lookup f) (mA f))∧PySem.Within mA (fs.map (·.1))∧fs.length≤1000∧H dx=some (.own a):=by
 obtain ⟨d,z,ne,ob,mA,n,r,q⟩:=(show ObjOk P w H h a (.ins C dx fs) from hok a _ e)
 exact ⟨mA,⟨ob,n,ne⟩,r,q,z,d⟩
end
structure Cls (K:PySem.W.Frag) (C:Addr):Prop where
 pg:PySem.W.plainGet K C Str.empty=true
 hd:PySem.W.hasDictIn K C=true
 po:PySem.W.plainOver K C=true
 sa:PySem.W.findIn K (.ref C) "__setattr__"=some (some (.builtin "object.__setattr__"))
theorem Cls.get {K:PySem.W.Frag} {C:Addr} (c:Cls K C) (f:Str):PySem.W.plainGet K C f=true:=c.pg
def NoAttr (K:PySem.W.Frag) (C:Addr) (f:Str):Prop:=PySem.W.findIn K (.ref C) f=some none
theorem NoAttr.taker {K:PySem.W.Frag} {C:Addr} {f:Str} (n:NoAttr K C f):PySem.W.takerIn K C f=some none:=by
 unfold PySem.W.takerIn
 rw [show PySem.W.findIn K (.ref C) f=some none from n]
 rfl
structure Con (K:PySem.W.Frag) (C:Addr) (f:Str) (v:V) (u:Value):Prop where
 at_:PySem.W.findIn K (.ref C) f=some (some u)
 rel:RelV v u
 get:PySem.W.specialIn K u "__get__"=some none
 cp:PySem.W.copiedNames.contains f=false
structure Meth (K:PySem.W.Frag) (C:Addr) (m:Str) (f:Addr):Prop where
 at_:PySem.W.findIn K (.ref C) m=some (some (.ref f))
 fn:PySem.W.isFn K (.ref f)=true
 kp:PySem.W.keepIn K (.ref f)=true
section
variable {X:Cx} {pins:List (Addr×Obj)} {σ:St} {H:Hp} {s:Shared} {a C dx:Addr} {fs:List (Str×V)} {f:Str} {v:V} {A:Around} {E:Value→Shared→Prop}
theorem getattr_ok {b:Bool} {Q:Value→Shared→Prop} (I:Inv X pins σ H s) (e:H a=some (.ins C dx fs)) (c:Cls X.K C) (n:NoAttr X.K C f) (l:fs.lookup f=some v)
  (h:∀ u s',Inv X pins σ H s'→RelV v u→Q u s'):wpAny (model X.prog X.w) A (getAttr (.ref a) f b) Q E s:=by
 obtain ⟨mA,O,r,_,_,_⟩:=ins_get I.hok e
 obtain ⟨u,hu,ru⟩:=RelO.some_of (v:=v) (o:=mA f) (by rw [← l]; exact r f)
 exact get_map I.kIn O (c.get f) c.hd n hu (handed_of ru) (h u _ (I.tok _) ru)
theorem getmeth_ok {m:Str} {g:Addr} {pl:Sem Bool} {Q:Value×List Value→Shared→Prop} (I:Inv X pins σ H s) (e:H a=some (.ins C dx fs)) (c:Cls X.K C) (k:Meth X.K C m g) (l:fs.lookup m=none)
  (h:Q (.ref g,[.ref a]) s):wpAny (model X.prog X.w) A (getMethod (.ref a) m pl) Q E s:=by
 obtain ⟨mA,O,r,_,_,_⟩:=ins_get I.hok e
 have hn:mA m=none:=RelO.none_of (by rw [← l]; exact r m)
 exact get_meth I.kIn O (c.get m) k.at_ k.fn hn h
theorem setattr_ok {y:V} {u:Value} {Q:Unit→Shared→Prop} (I:Inv X pins σ H s) (e:H a=some (.ins C dx fs)) (c:Cls X.K C) (n:NoAttr X.K C f) (hl:fs.length<1000) (ry:RelV y u)
  (h:∀ s',Inv X pins σ (upd H a (.ins C dx (putF f y fs))) s'→Q () s'):wpAny (model X.prog X.w) A (setAttr (.ref a) f u) Q E s:=by
 obtain ⟨mA,O,r,wi,_,ho⟩:=ins_get I.hok e
 have hz:(fs.map (·.1)).length≤sizeLine:=by rw [List.length_map,sizeLine_eq]; omega
 refine set_map I.kIn O c.sa c.po n.taker c.hd wi hz fun h' O' sb=>h _ ?_
 have hd:∃ o,h'.get? dx=some o:=let ⟨o,_,_,e',_⟩:=O'.ns; ⟨o,e'⟩
 refine I.write (x:=a) (e:=dx) (by rw [e]; exact True.intro) (.inr ho) (fun b q hb z=>(sb.2 b hb).trans z) hd ?_
 refine ⟨by rw [upd_ne O.ne]; exact ho,?_,O.ne,O'.obj,_,O'.ns,fun g=>?_,fun g hg=>?_⟩
 ·have:=length_putF f y fs; omega
 ·show RelO ((putF f y fs).lookup g) (if g=f then some u else mA g)
  rw [lookup_putF]
  by_cases q:g=f
  ·rw [if_pos q,if_pos q]; exact ry
  ·rw [if_neg q,if_neg q]; exact r g
 ·by_cases q:g=f
  ·rw [q]; exact (keys_putF f y fs).1
  ·refine (keys_putF f y fs).2 g (wi g fun z=>hg ?_)
   show (if g=f then some u else mA g)=none
   rw [if_neg q]; exact z
theorem Inv.made (I:Inv X pins σ H s):Inv X pins σ (upd (upd H s.heap.objs.size (.own (s.heap.objs.size+1))) (s.heap.objs.size+1) (.ins C s.heap.objs.size []))
  { s with heap:=(s.heap.push PySem.W.emptyDict).push (PySem.W.instObj C s.heap.objs.size) }:=by
 have e1:(s.heap.push PySem.W.emptyDict).get? s.heap.objs.size=some PySem.W.emptyDict:=Heap.get?_push_size s.heap rfl
 have e2:((s.heap.push PySem.W.emptyDict).push (PySem.W.instObj C s.heap.objs.size)).get? (s.heap.objs.size+1)=some (PySem.W.instObj C s.heap.objs.size):=by
  have:=Heap.get?_push_size (s.heap.push PySem.W.emptyDict) (o:=PySem.W.instObj C s.heap.objs.size) rfl
  rwa [Heap.size_push] at this
 have e3:(s.heap.push PySem.W.emptyDict).Ns s.heap.objs.size (fun _=>none):=⟨PySem.W.emptyDict,#[],_,e1,rfl,(fun e he=>absurd he (by simp)),fun _=>rfl⟩
 have I1:=I.laid (a:=s.heap.objs.size) (o:=.own (s.heap.objs.size+1)) (h':=s.heap.push PySem.W.emptyDict) (t':=s.toks) (fun b u q=>Heap.get?_push_of_some _ q) (Nat.le_refl _) ⟨_,e1⟩
 refine I1.laid (a:=s.heap.objs.size+1) (o:=.ins C s.heap.objs.size []) (t':=s.toks) (fun b u q=>Heap.get?_push_of_some _ q) (Nat.le_of_eq (Heap.size_push _ _)) ?_
 have ne:s.heap.objs.size≠s.heap.objs.size+1:=Nat.ne_of_lt (Nat.lt_succ_self _)
 refine ⟨by rw [upd_ne ne,upd_same],Nat.zero_le _,ne,e2,fun _=>none,(Heap.Ns1.of_empty e3).at fun o q=>Heap.get?_push_of_some _ q,fun _=>True.intro,fun y hy=>absurd rfl hy⟩
theorem attr_of {prog:Program} {w:World} {env:Env} {e:Expr} {f:Str} {pos:Pos} {s:Shared} {Q:Value→Shared→Prop} (hb:attributeBase e f env (eval e env)=eval e env)
  (h:wpAny (model prog w) A (eval e env) (fun o s₁=>wpAny (model prog w) A (getAttr o f true) Q E s₁) E s):wpAny (model prog w) A (eval (.Attribute e f pos) env) Q E s :=
 Attribute_any_ h (by rw [arm_eval_Attribute,hb])
end
def tFld (K:PySem.W.Frag) (ta:TE) (f:Str):TE:=fun σ H Q=>ta σ H fun x H1=>∃ a C dx fs v,x=.ref a∧H1 a=some (.ins C dx fs)∧Cls K C∧NoAttr K C f∧fs.lookup f=some v∧Q v H1
def sFld (K:PySem.W.Frag) (ta tv:TE) (f:Str):TS:=fun D σ H=>tv σ H fun y H1=>ta σ H1 fun x H2=>∃ a C dx fs,x=.ref a∧H2 a=some (.ins C dx fs)∧Cls K C∧NoAttr K C f∧fs.length<1000 ∧
 D.nx σ (upd H2 a (.ins C dx (putF f y fs)))
section
variable {X:Cx} {o e value:Expr} {f:Str} {pos pos' tpos:Pos} {ta tv:TE}
theorem pe_fld (he:PE X e ta) (hb:attributeBase e f X.env (eval e X.env)=eval e X.env):PE X (.Attribute e f pos) (tFld X.K ta f):=by
 intro pins s σ H Q I h
 refine attr_of hb (thn (he pins s σ H _ I h) fun u s1 ⟨x,H1,I1,rx,a,C,dx,fs,v,ex,ea,c,n,l,q⟩=>?_)
 subst ex
 obtain rfl:u=Value.ref a:=rx
 exact getattr_ok I1 ea c n l fun u' s2 I2 ru=>⟨v,H1,I2,ru,q⟩
theorem ps_fld (ha:PE X o ta) (hv:PE X value tv) (hs:swapsWith value (some (.Attribute o f pos')) pos.line X.env=pure false):PS X (.Assign [.Attribute o f pos'] value pos) (sFld X.K ta tv f):=by
 intro pins s σ H D I h
 refine plainObj_wpAny_Assign_Attribute (thn (hv pins s σ H _ I h) fun u s1 ⟨y,H1,I1,ry,q⟩=>thn (ha pins s1 σ H1 _ I1 q) fun ov s2 ⟨x,H2,I2,rx,a,C,dx,fs,ex,ea,c,n,l,q2⟩=>?_) hs
 subst ex
 obtain rfl:ov=Value.ref a:=rx
 exact setattr_ok I2 ea c n l ry fun s3 I3=>⟨σ,_,I3,q2⟩
end
section
variable {X:Cx} {pins:List (Addr×Obj)} {σ:St} {H:Hp} {s:Shared} {A:Around} {E:Value→Shared→Prop} {Q:Value→Shared→Prop} {c:Value} {b:Bool}
inductive TyOf (K:PySem.W.Frag) (H:Hp):V→Value→Prop where
  | non : TyOf K H .non (.type "NoneType")
  | bl (x : Bool) : TyOf K H (.bl x) (.type "bool")
  | int (i : Int) : TyOf K H (.int i) (.type "int")
  | str (x : Str) : TyOf K H (.str x) (.type "str")
  | flt (x : UInt64) : TyOf K H (.flt x) (.type "float")
  | lst {a : Addr} {xs : List V} (e : H a = some (.lst xs)) : TyOf K H (.ref a) (.type "list")
  | frz {a : Addr} {o : Obj} {xs : List V} (e : H a = some (.frz o (.lst xs))) : TyOf K H (.ref a) (.type "list")
  | tup {a : Addr} {xs : List V} (e : H a = some (.tup xs)) : TyOf K H (.ref a) (.type "tuple")
  | dK {a : Addr} {kvs : List (Key × V)} (e : H a = some (.dK kvs)) : TyOf K H (.ref a) (.type "dict")
  | dT {a : Addr} {kvs : List (List Key × V)} (e : H a = some (.dT kvs)) : TyOf K H (.ref a) (.type "dict")
  | ins {a C dx : Addr} {fs : List (Str × V)} (e : H a = some (.ins C dx fs)) (cl : Cls K C) (ha : PySem.W.findIn K (.ref C) "__class__" = some (some (.builtin "object.__class__")))
      (hn:PySem.W.specialIn K (.builtin "object.__class__") "__get__"=some (some (.builtin "getset_descriptor.__get__"))) (htk:PySem.W.takesIn K (.builtin "object.__class__")=some true)
      (hm:PySem.W.mroIn K C (.type "object")=some true):TyOf K H (.ref a) (.ref C)
theorem isinst_ok {x:V} {u t:Value} (I:Inv X pins σ H s) (rx:RelV x u) (ty:TyOf X.K H x t) (e:PySem.W.kitOne X.K t c=some b) (h:∀ tk,Q (.bool b) { s with toks:=tk }) :
  wpAny (model X.prog X.w) A (call (.builtin "isinstance") [u,c]) Q E s:=by
 cases ty with
 | non=>cases (show u=Value.none from rx); exact PySem.W.kia_one PySem.W.kitx_none I.kIn True.intro e (fun z=>nomatch z) h
 | bl y=>cases (show u=Value.bool y from rx); exact PySem.W.kia_one PySem.W.kitx_bool I.kIn True.intro e (fun z=>nomatch z) h
 | int i=>obtain ⟨t,q⟩:=(show ∃ t,u=Value.int i t from rx); cases q; exact PySem.W.kia_one PySem.W.kitx_int I.kIn True.intro e (fun z=>nomatch z) h
 | str y=>obtain ⟨t,q⟩:=(show ∃ t,u=Value.str y t from rx); cases q; exact PySem.W.kia_one PySem.W.kitx_str I.kIn True.intro e (fun z=>nomatch z) h
 | flt y=>obtain ⟨t,q⟩:=(show ∃ t,u=Value.float y t from rx); cases q; exact PySem.W.kia_one PySem.W.kitx_float I.kIn True.intro e (fun z=>nomatch z) h
 | @lst a xs ea =>
  cases (show u=Value.ref a from rx)
  obtain ⟨_,_,n,_,h1⟩:=(show ObjOk X.prog X.w H s.heap a (.lst xs) from I.hok a _ ea)
  exact PySem.W.kia_one PySem.W.kitx_list I.kIn ⟨_,h1,rfl⟩ e (fun z=>nomatch z) h
 | @frz a ob xs ea =>
  cases (show u=Value.ref a from rx)
  obtain ⟨_,_,_,n,_,h1⟩:=(show ObjOk X.prog X.w H s.heap a (.frz ob (.lst xs)) from I.hok a _ ea)
  exact PySem.W.kia_one PySem.W.kitx_list I.kIn ⟨_,h1,rfl⟩ e (fun z=>nomatch z) h
 | @tup a xs ea =>
  cases (show u=Value.ref a from rx)
  obtain ⟨_,_,_,p⟩:=(show ObjOk X.prog X.w H s.heap a (.tup xs) from I.hok a _ ea)
  obtain ⟨o,h1,h2,_⟩:=p
  exact PySem.W.kia_one PySem.W.kitx_tuple I.kIn ⟨o,h1,h2⟩ e (fun z=>nomatch z) h
 | @dK a kvs ea =>
  cases (show u=Value.ref a from rx)
  obtain ⟨_,_,vs,_,p⟩:=(show ObjOk X.prog X.w H s.heap a (.dK kvs) from I.hok a _ ea)
  obtain ⟨o,es,ep,h1,h2,_⟩:=p
  exact PySem.W.kia_one PySem.W.kitx_dict I.kIn ⟨o,h1,h2.1⟩ e (fun z=>nomatch z) h
 | @dT a kvs ea =>
  cases (show u=Value.ref a from rx)
  obtain ⟨_,_,xs,_,o,es,ep,h1,h2,_⟩:=(show ObjOk X.prog X.w H s.heap a (.dT kvs) from I.hok a _ ea)
  exact PySem.W.kia_one PySem.W.kitx_dict I.kIn ⟨o,h1,h2.1⟩ e (fun z=>nomatch z) h
 | @ins a C dx fs ea cl ha hn htk hm =>
  cases (show u=Value.ref a from rx)
  obtain ⟨mA,O,_⟩:=ins_get I.hok ea
  obtain ⟨od,J,_⟩:=O.look
  exact PySem.W.kia_one (PySem.W.kitx_own (cl.get _) cl.hd ha hn htk hm) I.kIn J e (fun z=>nomatch z) h
end
end L2
namespace L2
open PySem PySem.Spec PyProof.Rows
structure Room (k:Nat) (A:Around):Prop where
 hd:A.handled=none
 dp:A.depth+3*k+5<recursionLimit
 un:A.units+16*k+200<cLine
theorem Room.mono {j k:Nat} {A:Around} (r:Room k A) (h:j≤k):Room j A:=⟨r.hd,by have:=r.dp; omega,by have:=r.un; omega⟩
theorem Room.deeper {k:Nat} {A:Around} (r:Room (k+1) A) (env:Env):Room k (A.deeper env) :=
 ⟨r.hd,by have:=r.dp; show A.depth+1+3*k+5<_; omega,by have:=r.un; show A.units+3+16*k+200<_; omega⟩
theorem Room.in1 {k:Nat} {A:Around} (r:Room (k+1) A):Room k A.in1 :=
 ⟨r.hd,by have:=r.dp; show A.depth+3*k+5<_; omega,by have:=r.un; show A.units+1+16*k+200<_; omega⟩
theorem make_depth {A:Around} {C:Addr} {us:List Value} {kw:List (Str×Value)}:(A.under (.builtin "type.__call__" ⟨.ref C::us,kw⟩)).depth=A.depth+1:=by
 first | rfl | simp [Around.under,Code.weight,Code.isCreation,Code.isGuard,Code.isCaller,Code.frames,Code.isFrame,guardIds]
theorem make_units {A:Around} {C:Addr} {us:List Value} {kw:List (Str×Value)}:(A.under (.builtin "type.__call__" ⟨.ref C::us,kw⟩)).units=A.units+1:=by
 first | rfl | simp [Around.under,Code.cUnits,Code.frames,Code.isFrame]
theorem Room.make {k:Nat} {A:Around} (r:Room (k+1) A) (C:Addr) (us:List Value) (kw:List (Str×Value)):Room k (A.under (.builtin "type.__call__" ⟨.ref C::us,kw⟩)) :=
 ⟨r.hd,by have:=r.dp; rw [make_depth]; omega,by have:=r.un; rw [make_units]; omega⟩
theorem Room.depth {k:Nat} {A:Around} (r:Room k A):A.depth<recursionLimit:=by have:=r.dp; omega
theorem Room.units {k:Nat} {A:Around} (r:Room k A):A.units+64<cLine:=by have:=r.un; omega
def tNil:TA:=fun _ H Q=>Q [] H
def tCons (ta:TE) (tr:TA):TA:=fun σ H Q=>ta σ H fun x H1=>tr σ H1 fun xs H2=>Q (x::xs) H2
section
variable {X:Cx} {e:Expr} {es:List Expr} {te:TE} {t:TA} {pos:Pos}
theorem pa_nil:PA X [] tNil:=fun _ _ _ _ H Q I h=>Calls.spliced_nil ⟨[],H,I,.nil,h⟩
theorem pa_cons (ha:PE X e te) (hr:PA X es t) (hs:starEach (e::es) X.env=(false,eval e X.env)::starEach es X.env:=by rfl):PA X (e::es) (tCons te t):=by
 intro pos pins s σ H Q I h
 rw [hs]
 show wpAny _ _ (spliced ((false,eval e X.env)::backTo pos (starEach es X.env))) _ _ s
 refine Calls.spliced_cons (thn (ha pins s σ H _ I h) fun u s1 ⟨x,H1,I1,r1,q1⟩=>?_)
 exact thn (hr pos pins s1 σ H1 _ I1 q1) fun us s2 ⟨xs,H2,I2,r2,q2⟩=>⟨x::xs,H2,I2,.cons r1 r2,q2⟩
def tTup (t:TA):TE:=fun σ H Q=>t σ H fun xs H1=>xs.length≤sizeLine∧∀ p,H1 p=none→Q (.ref p) (upd H1 p (.tup xs))
def tLst (t:TA):TE:=fun σ H Q=>t σ H fun xs H1=>xs.length≤sizeLine∧∀ p,H1 p=none→Q (.ref p) (upd H1 p (.lst xs))
theorem pe_tup {x1} (h:PA X es t):PE X (.Tuple es x1 pos) (tTup t):=by
 intro pins s σ H Q I hq
 refine wpAny_Tuple_spliced (thn (h pos pins s σ H _ I hq) fun us s1 ⟨xs,H1,I1,r,z,q⟩=>⟨by rw [← r.length]; exact z,?_⟩)
 have hf:H1 s1.heap.objs.size=none:=I1.hok.fresh (Nat.le_refl _)
 refine ⟨.ref s1.heap.objs.size,upd H1 s1.heap.objs.size (.tup xs),I1.laid (t':=s1.toks) (fun b u e=>Heap.get?_push_of_some _ e) (Nat.le_refl _) ?_,rfl,q _ hf⟩
 exact ⟨z,us,r,⟨_,Heap.get?_push_size _ rfl,rfl,_,rfl⟩⟩
theorem pe_lst (h:PA X es t):PE X (.List es pos) (tLst t):=by
 intro pins s σ H Q I hq
 refine wpAny_List_spliced (thn (h pos pins s σ H _ I hq) fun us s1 ⟨xs,H1,I1,r,z,q⟩=>⟨by rw [← r.length]; exact z,?_⟩)
 have hf:H1 s1.heap.objs.size=none:=I1.hok.fresh (Nat.le_refl _)
 refine ⟨.ref s1.heap.objs.size,upd H1 s1.heap.objs.size (.lst xs),I1.laid (t':=s1.toks) (fun b u e=>Heap.get?_push_of_some _ e) (Nat.le_refl _) ?_,rfl,q _ hf⟩
 exact ⟨z,us,0,r,Heap.get?_push_size _ rfl⟩
end
abbrev Sp:=List V→Hp→VK→XK→Prop
abbrev CXT:=List Env→Hp→Shared→XK→Value→Shared→Prop
structure Env0 (P:Program) (w:World) (K:PySem.W.Frag) (mg:Str→Option Value) (base:Heap) (A:Around) (outer:List Env) (s:Shared) (H:Hp):Prop where
 frames:A.frames=some outer
 mod:Mod K mg base
 bs:∀ b o,base.get? b=some o→s.heap.get? b=some o∧H b=none
 bsz:base.objs.size≤s.heap.objs.size
 funs:s.heap.FunFrames base outer
 frf:∀ b∈frs outer,H b=none
 hok:HOk P w H s.heap
 bare:AllBare s.gens
def CE (outer:List Env) (P:Program) (w:World) (H:Hp) (s:Shared) (Q:VK) (u:Value) (s':Shared):Prop :=
 ∃ v H',s'.os=s.os∧AllBare s'.gens∧Un (frs outer) [] H H' s.heap s'.heap∧HOk P w H' s'.heap∧RelV v u∧Q v H'
def CR (CX:CXT) (outer:List Env) (P:Program) (w:World) (H:Hp) (s:Shared) (Q:VK) (E:XK) (r:Result) (s':Shared):Prop :=
 match r with
 | .ok (.ret u)=>CE outer P w H s Q u s'
 | .ok _=>False
 | .error e=>CX outer H s E e s'
structure FnOk (P:Program) (w:World) (K:PySem.W.Frag) (mg:Str→Option Value) (base:Heap) (CX:CXT) (k:Nat) (f:Addr) (fd:FuncData) (ps:List Str) (sp:Sp):Prop where
 len:∀ vs H Q E,sp vs H Q E→vs.length=ps.length
 run:∀ (A:Around) (outer:List Env) (s:Shared) (H:Hp) (args:Args) (us:List Value) (vs:List V) (Q:VK) (E:XK),Room k A→Env0 P w K mg base A outer s H→BindsTo s fd args (ps.zip us)→Vals vs us→sp vs H Q E →
  codeAny (model P w) A (.call (.ref f) args) (CR CX outer P w H s Q E) s
theorem Env0.make {P:Program} {w:World} {K:PySem.W.Frag} {mg:Str→Option Value} {base:Heap} {A:Around} {outer:List Env} {s:Shared} {H:Hp} (e:Env0 P w K mg base A outer s H) (C:Addr) (us:List Value) (kw:List (Str×Value)) :
  Env0 P w K mg base (A.under (.builtin "type.__call__" ⟨.ref C::us,kw⟩)) outer s H:=⟨by first | exact e.frames | (simpa [Around.under,Code.envs,Code.isFrame,pushEnvs] using e.frames),e.mod,e.bs,e.bsz,e.funs,e.frf,e.hok,e.bare⟩
section
variable {X:Cx} {pins:List (Addr×Obj)} {σ:St} {H:Hp} {s s':Shared}
theorem Inv.env0 (I:Inv X pins σ H s):Env0 X.prog X.w X.K X.mg X.base X.A X.stack s H :=
 ⟨I.ok.frames,I.ok.mod,I.bs,Nat.le_trans I.ok.bsz I.sz,I.stack,I.stkFree,I.hok,I.bare⟩
theorem Inv.after {Q:VK} {u:Value} (I:Inv X pins σ H s) (h:CE X.stack X.prog X.w H s Q u s'):EP X pins σ Q u s':=by
 obtain ⟨v,H',os,bare,un,hok,r,q⟩:=h
 obtain ⟨hh,g,d,t,os'⟩:=s'
 obtain rfl:os'=s.os:=os
 exact ⟨v,H',I.call (h':=hh) (g':=g) (d':=d) (t':=t) (ch:=[]) un hok bare (fun b z=>absurd z (by simp)),r,q⟩
end
def tCall (sp:Sp) (dvs:List V) (E:XK) (t:TA):TE:=fun σ H Q=>t σ H fun vs H1=>sp (vs++dvs) H1 Q E
def tMeth (C:Addr) (m:Str) (sp:Sp) (dvs:List V) (E:XK) (ta:TE) (t:TA):TE:=fun σ H Q=>ta σ H fun x H1=>∃ a dx fs,x=.ref a∧H1 a=some (.ins C dx fs)∧fs.lookup m=none ∧
 t σ H1 fun vs H2=>sp (x::(vs++dvs)) H2 Q E
def tMake (C:Addr) (sp:Sp) (dvs:List V) (E:XK) (t:TA):TE:=fun σ H Q=>t σ H fun vs H1=>∀ x dx,H1 x=none→H1 dx=none→dx≠x →
 sp (.ref x::(vs++dvs)) (upd (upd H1 dx (.own x)) x (.ins C dx [])) (fun v H2=>v=.non∧Q (.ref x) H2) E
def Binds (K:PySem.W.Frag) (fd:FuncData) (ps:List Str) (ds:List Value):Prop :=
 ∀ (s:Shared) (us:List Value),K.In s.heap→(us++ds).length=ps.length→BindsTo s fd ⟨us,[]⟩ (ps.zip (us++ds))
theorem Binds.all {K:PySem.W.Frag} {fd:FuncData} {ps:List Str} (h:∀ us:List Value,us.length=ps.length→bindArgs fd ⟨us,[]⟩=pure (ps.zip us)):Binds K fd ps []:=fun s us _ hl=>by
 rw [List.append_nil] at hl ⊢
 exact .of_eq (h us hl)
def Passes (CX:CXT) (X:Cx) (E:XK):Prop:=∀ (pins:List (Addr×Obj)) (σ:St) (H:Hp) (s:Shared) (e:Value) (s':Shared),Inv X pins σ H s→CX X.stack H s E e s'→X.xe e s'
section
variable {X:Cx} {CX:CXT} {k:Nat} {f C:Addr} {fd:FuncData} {ps:List Str} {sp:Sp} {dvs:List V} {ds:List Value} {E:XK} {x m:Str} {p pos apos:Pos} {e o:Expr} {es:List Expr} {ta:TE} {t:TA}
theorem run_fn {pins:List (Addr×Obj)} {σ:St} {H:Hp} {s:Shared} {Q:VK} {us:List Value} {vs:List V} (F:FnOk X.prog X.w X.K X.mg X.base CX k f fd ps sp) (hr:Room k X.A) (hb:Binds X.K fd ps ds) (hd:Vals dvs ds) (hx:Passes CX X E)
  (I:Inv X pins σ H s) (r:Vals vs us) (h:sp (vs++dvs) H Q E):wpAny (model X.prog X.w) X.A (call (.ref f) us) (EP X pins σ Q) X.xe s:=by
 have r2:Vals (vs++dvs) (us++ds):=r.append hd
 have hl:(us++ds).length=ps.length:=by rw [← r2.length]; exact F.len _ _ _ _ h
 refine wpAny_call (codeAny_mono (F.run X.A X.stack s H ⟨us,[]⟩ (us++ds) (vs++dvs) Q E hr I.env0 (hb s us I.kIn hl) r2 h) fun r s' hq=>?_)
 cases r with
 | error e=>exact hx pins σ H s e s' I hq
 | ok fl =>
  cases fl with
  | ret u => exact I.after hq
  | next => exact False.elim hq
  | brk => exact False.elim hq
  | cont => exact False.elim hq
theorem pe_call (F:FnOk X.prog X.w X.K X.mg X.base CX k f fd ps sp) (hr:Room k X.A) (hg:Gl X x) (hm:X.mg x=some (.ref f)) (hk:PySem.W.keepIn X.K (.ref f)=true) (hb:Binds X.K fd ps ds) (hd:Vals dvs ds) (hx:Passes CX X E)
  (ha:PA X (e::es) t) (hdb:(x==("__debug__":Str))=false:=by decide) (he:starEach (e::es) X.env=(false,eval e X.env)::starEach es X.env:=by rfl) (hpl:(backTo pos (starEach es X.env)).any (·.1)=false:=by rfl) :
  PE X (.Call (.Name x p) (e::es) [] pos) (tCall sp dvs E t):=by
 intro pins s σ H Q I h
 refine wpAny_Call_Name_kw (ld_glob I hg hm ?_ hdb)
 refine PySem.W.callWith_K (h₀:=X.base) I.ok.mod.kin hk (thn (ha pos pins s σ H _ I h) fun us s1 ⟨vs,H1,I1,r,q⟩=>⟨I1.kIn,?_⟩) he hpl
 exact run_fn F hr hb hd hx I1 r q
theorem pe_meth {pl:Sem Bool} (he:PE X o ta) (c:Cls X.K C) (hm:Meth X.K C m f) (F:FnOk X.prog X.w X.K X.mg X.base CX k f fd ps sp) (hr:Room k X.A) (hb:Binds X.K fd ps ds) (hd:Vals dvs ds) (hx:Passes CX X E) (ha:PA X (e::es) t)
  (hst:starEach (e::es) X.env=(false,eval e X.env)::starEach es X.env:=by rfl) (hpl:(backTo pos (starEach es X.env)).any (·.1)=false:=by rfl)
  (ht:eval (.Call (.Attribute o m apos) (e::es) [] pos) X.env=(do
   let ov ← eval o X.env
   standAt apos.atName
   let (f,first) ← holding [ov] (getMethod ov m pl)
   callWith pos f first (backTo pos (starEach (e::es) X.env)) (backToKw pos (keywordEach [] X.env))):=by rfl) :
  PE X (.Call (.Attribute o m apos) (e::es) [] pos) (tMeth C m sp dvs E ta t):=by
 intro pins s σ H Q I h
 refine PySem.W.methodCall_KW (pl:=pl) (thn (he pins s σ H _ I h) fun u s1 ⟨x,H1,I1,rx,a,dx,fs,ex,ea,l,q⟩=>?_) ht
 subst ex
 obtain rfl:u=Value.ref a:=rx
 refine getmeth_ok I1 ea c hm l ?_
 refine PySem.W.callWith_K (first:=[.ref a]) (h₀:=X.base) I.ok.mod.kin hm.kp (thn (ha pos pins s1 σ H1 _ I1 q) fun us s2 ⟨vs,H2,I2,r,q2⟩=>⟨I2.kIn,?_⟩) hst hpl
 exact run_fn (us:=.ref a::us) (vs:=.ref a::vs) F hr hb hd hx I2 (.cons rfl r) q2
theorem pe_meth0 {pl:Sem Bool} (he:PE X o ta) (c:Cls X.K C) (hm:Meth X.K C m f) (F:FnOk X.prog X.w X.K X.mg X.base CX k f fd ps sp) (hr:Room k X.A) (hb:Binds X.K fd ps ds) (hd:Vals dvs ds) (hx:Passes CX X E)
  (ht:eval (.Call (.Attribute o m apos) [] [] pos) X.env=(do
   let ov ← eval o X.env
   standAt apos.atName
   let (f,first) ← holding [ov] (getMethod ov m pl)
   callWith pos f first (backTo pos (starEach [] X.env)) (backToKw pos (keywordEach [] X.env))):=by rfl) :
  PE X (.Call (.Attribute o m apos) [] [] pos) (tMeth C m sp dvs E ta tNil):=by
 intro pins s σ H Q I h
 refine PySem.W.methodCall_KW (pl:=pl) (thn (he pins s σ H _ I h) fun u s1 ⟨x,H1,I1,rx,a,dx,fs,ex,ea,l,q⟩=>?_) ht
 subst ex
 obtain rfl:u=Value.ref a:=rx
 refine getmeth_ok I1 ea c hm l ?_
 exact PySem.W.callWith_K0 (first:=[.ref a]) I1.kIn hm.kp (run_fn (us:=[.ref a]) (vs:=[.ref a]) F hr hb hd hx I1 (.cons rfl .nil) q)
structure Mk (K:PySem.W.Frag) (C f:Addr):Prop where
 makes:PySem.W.makesIn K C=true
 init:PySem.W.findIn K (.ref C) "__init__"=some (some (.ref f))
 fn:PySem.W.isFn K (.ref f)=true
 kp:PySem.W.keepIn K (.ref C)=true
theorem run_make {pins:List (Addr×Obj)} {σ:St} {H:Hp} {s:Shared} {Q:VK} {us:List Value} {vs:List V} (M:Mk X.K C f) (F:FnOk X.prog X.w X.K X.mg X.base CX k f fd ps sp) (hr:Room (k+1) X.A) (hb:Binds X.K fd ps ds) (hd:Vals dvs ds)
  (hx:Passes CX X E) (I:Inv X pins σ H s) (r:Vals vs us)
  (h:∀ x dx,H x=none→H dx=none→dx≠x→sp (.ref x::(vs++dvs)) (upd (upd H dx (.own x)) x (.ins C dx [])) (fun v H2=>v=.non∧Q (.ref x) H2) E) :
  wpAny (model X.prog X.w) X.A (call (.ref C) us) (EP X pins σ Q) X.xe s:=by
 have hq:=h (s.heap.objs.size+1) s.heap.objs.size (I.hok.fresh (Nat.le_succ _)) (I.hok.fresh (Nat.le_refl _)) (Nat.ne_of_lt (Nat.lt_succ_self _))
 have I2:=Inv.made (C:=C) I
 have r2:Vals (V.ref (s.heap.objs.size+1)::(vs++dvs)) (Value.ref (s.heap.objs.size+1)::(us++ds)):=.cons rfl (r.append hd)
 have hl:(Value.ref (s.heap.objs.size+1)::us++ds).length=ps.length:=by
  have e:=r2.length
  rw [F.len _ _ _ _ hq] at e
  exact e.symm
 refine wpAny_call (make_map (f:=f) I.kIn M.makes M.init (beq_iff_eq.mp M.fn) (codeAny_mono (F.run _ X.stack _ _ ⟨Value.ref (s.heap.objs.size+1)::us,[]⟩ (Value.ref (s.heap.objs.size+1)::(us++ds)) _ _ E (hr.make C us [])
  (I2.env0.make C us []) (hb _ (Value.ref (s.heap.objs.size+1)::us) I2.kIn hl) r2 hq) fun r s' hq'=>?_))
 cases r with
 | error e=>exact hx pins σ _ _ e s' I2 hq'
 | ok fl =>
  cases fl with
  | ret u =>
   obtain ⟨v,H',I3,rv,ev,q3⟩:=I2.after hq'
   subst ev
   exact ⟨rv,⟨V.ref (s.heap.objs.size+1),H',I3,rfl,q3⟩⟩
  | next => exact False.elim hq'
  | brk => exact False.elim hq'
  | cont => exact False.elim hq'
theorem pe_make (M:Mk X.K C f) (F:FnOk X.prog X.w X.K X.mg X.base CX k f fd ps sp) (hr:Room (k+1) X.A) (hg:Gl X x) (hm:X.mg x=some (.ref C)) (hb:Binds X.K fd ps ds) (hd:Vals dvs ds) (hx:Passes CX X E)
  (ha:PA X (e::es) t) (hdb:(x==("__debug__":Str))=false:=by decide) (he:starEach (e::es) X.env=(false,eval e X.env)::starEach es X.env:=by rfl) (hpl:(backTo pos (starEach es X.env)).any (·.1)=false:=by rfl) :
  PE X (.Call (.Name x p) (e::es) [] pos) (tMake C sp dvs E t):=by
 intro pins s σ H Q I h
 refine wpAny_Call_Name_kw (ld_glob I hg hm ?_ hdb)
 refine PySem.W.callWith_K (h₀:=X.base) I.ok.mod.kin M.kp (thn (ha pos pins s σ H _ I h) fun us s1 ⟨vs,H1,I1,r,q⟩=>⟨I1.kIn,?_⟩) he hpl
 exact run_make M F hr hb hd hx I1 r q
end
section
variable {X:Cx} {CX:CXT} {k:Nat} {f C:Addr} {fd:FuncData} {ps ks:List Str} {sp:Sp} {E:XK} {x m:Str} {p pos apos kpos:Pos} {e o:Expr} {es:List Expr} {kws:List Keyword} {te ta:TE} {t tk:TA} {nm:Option Str}
variable {g:List Value→List Value→List Value} {gV:List V→List V→List V}
end
structure FnScope (N P:List Str) (sc:Scope):Prop where
 kind:sc.kind=.function
 co:sc.isCoroutine=false
 gen:sc.isGenerator=false
 nd:N.Nodup
 pre:N.take P.length=P
 par:∀ x∈P,sc.names.lookup x=some .local∨sc.names.lookup x=some .cell
 nofree:∀ y∈sc.names,y.2≠.free
theorem bindL_out {kindOf:Str→Option NameKind} {x:Str}:∀ {binds:List (Str×Value)} {m:Str→Option Value},(∀ v,(x,v)∉binds)→bindL kindOf binds m x=m x
 | [],_,_=>rfl
 | (n,v)::r,m,h=>by
  unfold bindL
  rw [bindL_out fun w hw=>h w (List.mem_cons_of_mem _ hw)]
  split
  ·have:x≠n:=by rintro rfl; exact h v List.mem_cons_self
   simp [this]
  ·rfl
theorem bindC_out {kindOf:Str→Option NameKind} {x:Str}:∀ {binds:List (Str×Value)} {m:Str→Option Value},(∀ v,(x,v)∉binds)→bindC kindOf binds m x=m x
 | [],_,_=>rfl
 | (n,v)::r,m,h=>by
  unfold bindC
  rw [bindC_out fun w hw=>h w (List.mem_cons_of_mem _ hw)]
  split
  ·rfl
  ·have:x≠n:=by rintro rfl; exact h v List.mem_cons_self
   simp [this]
theorem bindL_get {kindOf:Str→Option NameKind} {x:Str} {v:Value}:∀ {P:List Str} {vs:List Value} {i:Nat} {m:Str→Option Value},P.Nodup→P[i]?=some x→vs[i]?=some v→kindOf x=some .local →
  bindL kindOf (P.zip vs) m x=some v
 | [],_,_,_,_,h,_,_=>by simp at h
 | _::_,[],_,_,_,_,h,_=>by simp at h
 | p::P,w::vs,0,m,nd,h1,h2,hk=>by
  simp at h1 h2; subst h1; subst h2
  show bindL kindOf ((p,w)::P.zip vs) m p=_
  unfold bindL
  rw [bindL_out fun v hv=>(List.nodup_cons.mp nd).1 (List.of_mem_zip hv).1,if_pos hk]
  simp
 | p::P,w::vs,i+1,m,nd,h1,h2,hk=>by
  show bindL kindOf ((p,w)::P.zip vs) m x=_
  unfold bindL
  exact bindL_get (i:=i) (List.nodup_cons.mp nd).2 (by simpa using h1) (by simpa using h2) hk
theorem bindC_get {kindOf:Str→Option NameKind} {x:Str} {v:Value}:∀ {P:List Str} {vs:List Value} {i:Nat} {m:Str→Option Value},P.Nodup→P[i]?=some x→vs[i]?=some v→kindOf x≠some .local →
  bindC kindOf (P.zip vs) m x=some v
 | [],_,_,_,_,h,_,_=>by simp at h
 | _::_,[],_,_,_,_,h,_=>by simp at h
 | p::P,w::vs,0,m,nd,h1,h2,hk=>by
  simp at h1 h2; subst h1; subst h2
  show bindC kindOf ((p,w)::P.zip vs) m p=_
  unfold bindC
  rw [bindC_out fun v hv=>(List.nodup_cons.mp nd).1 (List.of_mem_zip hv).1,if_neg hk]
  simp
 | p::P,w::vs,i+1,m,nd,h1,h2,hk=>by
  show bindC kindOf ((p,w)::P.zip vs) m x=_
  unfold bindC
  exact bindC_get (i:=i) (List.nodup_cons.mp nd).2 (by simpa using h1) (by simpa using h2) hk
def start (N:List Str) (vs:List V):St:=vs.map some++List.replicate (N.length - vs.length) none
def cxOf (CX:CXT) (P:Program) (w:World) (K:PySem.W.Frag) (mg:Str→Option Value) (base:Heap) (N:List Str) (qual:Str) (scope:Scope) (f:Addr) (cd:Value) (A:Around) (outer:List Env) (s:Shared) (H:Hp) (E:XK):Cx where
 prog:=P
 w:=w
 K:=K
 mg:=mg
 base:=base
 A:=A.deeper (envOfC qual scope s.heap.objs.size f cd)
 N:=N
 s₀:=s
 H₀:=H
 env:=envOfC qual scope s.heap.objs.size f cd
 outer:=outer
 stack:=envOfC qual scope s.heap.objs.size f cd::outer
 ex:=[]
 calm:=true
 fn:=fun _=>true
 pn:=[]
 xe:=fun e s'=>wpAny (model P w) (A.deeper (envOfC qual scope s.heap.objs.size f cd)) (leaving (envOfC qual scope s.heap.objs.size f cd) e) (fun _ s''=>CX outer H s E e s'') (fun e' s''=>CX outer H s E e' s'') s'
theorem cell_has {sc:Scope} {n:Nat} {x:Str} (h:sc.names.lookup x=some .cell):∃ c,(cellsFrom n sc.names []).lookup x=some c:=by
 have q:=PySem.W.cellsFrom_some sc.names n [] (.inl h)
 exact Option.isSome_iff_exists.mp q
theorem inv_start {CX:CXT} {P:Program} {w:World} {K:PySem.W.Frag} {mg:Str→Option Value} {base:Heap} {N ps:List Str} {qual:Str} {scope:Scope} {f:Addr} {cd:Value} {A:Around} {outer:List Env} {s s1:Shared} {H:Hp} {E:XK} {us:List Value} {vs:List V}
    (S:FnScope N ps scope) (hd:A.handled=none) (e0:Env0 P w K mg base A outer s H) (hl:vs.length=ps.length) (r:Vals vs us)
    (x:InCallC s s.heap.objs.size (bindL (envOfC qual scope s.heap.objs.size f cd).kindOf (ps.zip us) fun _=>none) (cellsFrom (s.heap.objs.size+1) scope.names []) (bindC (envOfC qual scope s.heap.objs.size f cd).kindOf (ps.zip us) fun _=>none) s1) :
    Inv (cxOf CX P w K mg base N qual scope f cd A outer s H E) [] (start N vs) H s1:=by
  have hpl:ps.length≤N.length:=by have:=congrArg List.length S.pre; rw [List.length_take] at this; omega
  obtain ⟨h1,tk,rfl,hk⟩:=x.done
  have noA:∀ b:Addr,b∉(cxOf CX P w K mg base N qual scope f cd A outer s H E).ex:=fun b z=>absurd (show b∈([]:List Addr) from z) (by simp)
  refine ⟨⟨e0.mod,S.kind,rfl,rfl,Nat.le_refl _,fun y z c h1 h2=>?_,fun y hy=>?_,fun y c _ h=>?_,fun _=>hd,Around.frames_deeper e0.frames,.inr ⟨rfl,rfl⟩,fun b z=>absurd z (noA b),e0.bs,e0.bsz,fun b _ _=>noA b,fun b z=>absurd z (noA b),e0.funs,e0.frf⟩,
    rfl,e0.bare,Un.kept hk,⟨_,x.toInCall.ns,fun i y v h1 h2 h3=>?_⟩,fun y c h=>⟨_,x.cell y c h⟩,e0.hok.fresh (Nat.le_refl _),fun y c h=>?_,fun p hp=>absurd (show p∈([]:List (Addr×Obj)) from hp) (by simp),e0.hok.kept hk,?_⟩
  · exact name_of_addr x.apart (PySem.mem_of_lookup h1) (PySem.mem_of_lookup h2)
  · have hy:scope.names.lookup y=some .cell∨scope.names.lookup y=some .free:=hy
    rcases hy with hy | hy
    · exact cell_has hy
    · exact absurd rfl (S.nofree _ (PySem.mem_of_lookup hy))
  · exact Nat.le_of_lt (x.above y c (PySem.mem_of_lookup h))
  · have hi:i<vs.length:=by
      unfold start at h2
      by_cases hi:i<vs.length
      · exact hi
      · rw [List.getElem?_append_right (by simpa using hi)] at h2
        rw [List.getElem?_replicate] at h2
        split at h2<;>cases h2
    have ha:vs[i]?=some v:=by
      unfold start at h2
      rw [List.getElem?_append_left (by simpa using hi),List.getElem?_map] at h2
      cases e:vs[i]? with
      | none=>rw [e] at h2; cases h2
      | some a=>rw [e] at h2; cases h2; rfl
    obtain ⟨u,hu,rv⟩:=r.get ha
    have hp:ps[i]?=some y:=by
      rw [← S.pre,List.getElem?_take_of_lt (by omega)]; exact h1
    have ndP:ps.Nodup:=by rw [← S.pre]; exact S.nd.sublist (List.take_sublist _ _)
    refine ⟨u,rv,?_⟩
    rcases S.par y (List.mem_of_getElem? hp) with k | k
    · exact .inl ⟨k,bindL_get ndP hp hu k⟩
    · obtain ⟨c,e⟩:=cell_has (n:=s.heap.objs.size+1) k
      refine .inr ⟨.inl k,c,e,?_⟩
      have q:=x.cell y c e
      rw [bindC_get ndP hp hu (by show scope.names.lookup y≠_; rw [k]; decide)] at q
      exact q
  · exact e0.hok.fresh (Nat.le_of_lt (x.above y c (PySem.mem_of_lookup h)))
  · unfold start
    show _=N.length
    rw [List.length_append,List.length_map,List.length_replicate]
    omega
theorem fn_of {CX:CXT} {P:Program} {w:World} {K:PySem.W.Frag} {mg:Str→Option Value} {base:Heap} {k:Nat} {f:Addr} {name qual:Str} {params:Arguments} {body:List Stmt} {scope:Scope} {dV kV doc pm cdv ct oc:Value} {an od:Option Addr}
  {osl:Array (Option Value)} {N ps:List Str} {sp:Sp} (lk:K.lookup f=some ⟨oc,od,.func (PySem.W.fnOf name qual params body scope dV kV doc pm an cdv ct),osl⟩) (hcd:PySem.W.codeIn K cdv qual=true) (S:FnScope N ps scope)
  (len:∀ vs H Q E,sp vs H Q E→vs.length=ps.length)
  (hbody:∀ (A:Around) (outer:List Env) (s:Shared) (H:Hp) (vs:List V) (Q:VK) (E:XK),Room k (A.deeper (envOfC qual scope s.heap.objs.size f cdv))→sp vs H Q E →
   ∃ t,PSs (cxOf CX P w K mg base N qual scope f cdv A outer s H E) body t∧t { nx:=fun _ H'=>Q .non H',rt:=Q } (start N vs) H) :
  FnOk P w K mg base CX (k+1) f (PySem.W.fnOf name qual params body scope dV kV doc pm an cdv ct) ps sp:=by
 refine ⟨len,fun A outer s H args us vs Q E hr e0 hb r hsp=>?_⟩
 have hl:=len _ _ _ _ hsp
 have KX:K.In s.heap:=e0.mod.kin.keeps fun b o e=>(e0.bs b o e).1
 have lim:s.heap.NoLimit:=e0.mod.nolimit.keeps fun b o e=>(e0.bs b o e).1
 have hkind:∀ y∈ps.zip us,scope.names.lookup y.1=some .local∨(scope.names.lookup y.1=some .cell∧((cellsFrom (s.heap.objs.size+1) scope.names []).lookup y.1).isSome=true):=fun ⟨n,v⟩ hy=>by
  rcases S.par n (List.of_mem_zip hy).1 with q | q
  ·exact .inl q
  ·exact .inr ⟨q,PySem.W.cellsFrom_some _ _ _ (.inl q)⟩
 refine codeAny_call_function hr.depth (KX _ _ lk) rfl S.co S.gen rfl (PySem.W.codeRec_of KX hcd) (hb _ _ _ _ ?_)
 refine wpAny_newFunctionEnv_cells S.kind hkind fun env he s1 x=>?_
 subst he
 refine ⟨lim.keeps x.toInCall.keep,codeAny_func ?_⟩
 obtain ⟨t,ht,hq⟩:=hbody A outer s H vs Q E (hr.deeper _) hsp
 have I:Inv (cxOf CX P w K mg base N qual scope f cdv A outer s H E) [] (start N vs) H s1:=inv_start S hr.hd e0 hl r x
 refine wpAny_mono (ht [] s1 (start N vs) H _ I hq) (fun fl s' hs=>?_) fun e s' hs=>hs
 have fin:∀ {σ':St} {H':Hp} {v:V} {u:Value},Inv (cxOf CX P w K mg base N qual scope f cdv A outer s H E) [] σ' H' s'→RelV v u→Q v H'→CE outer P w H s Q u s' :=
  fun {σ' H' v u} J rv q=>⟨v,H',J.os,J.bare,J.base,J.hok,rv,q⟩
 cases fl with
 | ret u =>
  obtain ⟨v,σ',H',J,rv,q⟩:=hs
  exact fin J rv q
 | next =>
  obtain ⟨σ',H',J,q⟩:=hs
  exact fin (v:=V.non) (u:=Value.none) J rfl q
 | brk =>
  obtain ⟨_,_,_,q⟩:=hs
  exact False.elim q
 | cont =>
  obtain ⟨_,_,_,q⟩:=hs
  exact False.elim q
end L2
namespace L2
open PySem PySem.Spec PyProof.Rows
section
variable {X:Cx} {x:Str} {p pos:Pos} {e:Expr} {es:List Expr} {t:TA} {id T:String} {r:List V→Hp→VK→Prop}
def tCB (r:List V→Hp→VK→Prop) (t:TA):TE:=fun σ H Q=>t σ H fun vs H1=>r vs H1 Q
theorem pe_callB (hc:CallR X (.builtin id) r) (hg:Gl X x) (hm:X.mg x=none) (hv:bootBuiltins x=some (.builtin id)) (ha:PA X (e::es) t) (hn:x≠"__name__":=by decide) (hdb:(x==("__debug__":Str))=false:=by decide)
  (he:starEach (e::es) X.env=(false,eval e X.env)::starEach es X.env:=by rfl) (hpl:(backTo pos (starEach es X.env)).any (·.1)=false:=by rfl):PE X (.Call (.Name x p) (e::es) [] pos) (tCB r t):=by
 intro pins s σ H Q I h
 refine wpAny_Call_Name_kw (ld_blt I hg hm hv ?_ hn hdb)
 exact PyProof.Rows.callWith_builtin1 (thn (ha pos pins s σ H _ I h) fun us s1 ⟨vs,H1,I1,r1,q1⟩=>hc pins s1 σ H1 vs us Q I1 r1 q1) he hpl
theorem pe_callTy (hc:CallR X (.type T) r) (hg:Gl X x) (hm:X.mg x=none) (hv:bootBuiltins x=some (.type T)) (ha:PA X (e::es) t) (hn:x≠"__name__":=by decide) (hdb:(x==("__debug__":Str))=false:=by decide)
  (he:starEach (e::es) X.env=(false,eval e X.env)::starEach es X.env:=by rfl) (hpl:(backTo pos (starEach es X.env)).any (·.1)=false:=by rfl):PE X (.Call (.Name x p) (e::es) [] pos) (tCB r t):=by
 intro pins s σ H Q I h
 refine wpAny_Call_Name_kw (ld_blt I hg hm hv ?_ hn hdb)
 exact PyProof.Rows.callWith_type1 (thn (ha pos pins s σ H _ I h) fun us s1 ⟨vs,H1,I1,r1,q1⟩=>hc pins s1 σ H1 vs us Q I1 r1 q1) he hpl
end
end L2
namespace HT
open PySem PyProof.Rows
section
open PySem.SeqAt
open PySem.AutoSeq1 (wpAny_loadPart')
open PySem.MeetsSeq PySem.MeetsSeq2 PySem.MeetsSeq3
end
section
variable {prog:Program} {w:World} {A:Around} {E:Value→Shared→Prop} {s:Shared}
def sIx (n d:Nat):Option Int→Nat
 | none=>d
 | some v=>if v<0 then (v+(n:Int)).toNat else min v.toNat n
theorem sIx_none (n d:Nat):sIx n d none=d:=rfl
theorem sIx_nat (n d k:Nat):sIx n d (some (k:Int))=min k n:=by
 show (if (k:Int)<0 then ((k:Int)+(n:Int)).toNat else min (k:Int).toNat n)=min k n
 rw [if_neg (by omega),Int.toNat_natCast]
end
end HT
namespace L2
open PySem PySem.Spec PyProof.Rows
abbrev TO:=St→Hp→(Option Int→Hp→Prop)→Prop
def PO (X:Cx) (e:Option Expr) (t:TO):Prop :=
 ∀ (pins:List (Addr×Obj)) (s:Shared) (σ:St) (H:Hp) (Q:Option Int→Hp→Prop),Inv X pins σ H s→t σ H Q →
  wpAny (model X.prog X.w) X.A (evalPart e X.env) (fun u s'=>∃ o H',Inv X pins σ H' s'∧IsPart u o∧Q o H') X.xe s
def tNoPart:TO:=fun _ H Q=>Q none H
def tPart (t:TE):TO:=fun σ H Q=>t σ H fun x H1=>∃ i,x=.int i∧Q (some i) H1
section
variable {X:Cx} {e:Expr} {te:TE} {lo hi:Option Expr} {tl th:TO} {pos p2:Pos}
theorem po_none:PO X none tNoPart:=by
 intro pins s σ H Q I h
 rw [evalPart_none]
 exact wpAny_pure ⟨none,H,I,.none,h⟩
theorem po_some (h:PE X e te):PO X (some e) (tPart te):=by
 intro pins s σ H Q I hw
 rw [evalPart_some]
 refine thn (h pins s σ H _ I hw) fun u s1 ⟨x,H1,I1,r1,q1⟩=>?_
 obtain ⟨i,rfl,q⟩:=q1
 obtain ⟨t,rfl⟩:=r1
 exact ⟨some i,H1,I1,.int i t,q⟩
def SlR (X:Cx) (r:V→Option Int→Option Int→Hp→VK→Prop):Prop :=
 ∀ (pins:List (Addr×Obj)) (s:Shared) (σ:St) (H:Hp) (x:V) (v vl vu:Value) (lo hi:Option Int) (sl:Addr) (Q:VK),Inv X pins σ H s→RelV x v→s.heap.IsSliceOf sl vl vu .none→IsPart vl lo→IsPart vu hi→r x lo hi H Q →
  ∃ T id,typeLookup (.type T) "__getitem__"=pure (some (.builtin id))∧s.TypeIs v T∧wpAny (model X.prog X.w) X.A (getItem v (.ref sl)) (EP X pins σ Q) X.xe s
def tSl (r:V→Option Int→Option Int→Hp→VK→Prop) (te:TE) (tl th:TO):TE:=fun σ H Q=>te σ H fun x H1=>tl σ H1 fun l H2=>th σ H2 fun u H3=>r x l u H3 Q
theorem pe_slice {r:V→Option Int→Option Int→Hp→VK→Prop} (hr:SlR X r) (he:PE X e te) (hl:PO X lo tl) (hu:PO X hi th):PE X (.Subscript e (.Slice lo hi none p2) pos) (tSl r te tl th):=by
 intro pins s σ H Q I h
 refine Subscript_ (thn (he pins s σ H _ I h) fun v s1 ⟨x,H1,I1,r1,q1⟩=>?_)
 refine wpAny_Slice (thn (hl pins s1 σ H1 _ I1 q1) fun vl s2 ⟨l,H2,I2,pl,q2⟩=>thn (hu pins s2 σ H2 _ I2 q2) fun vu s3 ⟨u,H3,I3,pu,q3⟩=>?_)
 rw [evalPart_none]
 refine wpAny_pure ?_
 have I4:Inv X pins σ H3 { s3 with heap:=s3.heap.push { cls:=.type "slice",data:=.fields #[vl,vu,.none] } }:=I3.kept (t':=s3.toks) fun b ob q=>Heap.get?_push_of_some _ q
 obtain ⟨T,id,hT,ht,hg⟩:=hr pins { s3 with heap:=s3.heap.push { cls:=.type "slice",data:=.fields #[vl,vu,.none] } } σ H3 x v vl vu l u s3.heap.objs.size Q I4 r1 (Heap.IsSliceOf.new ..) pl pu q3
 show wpAny (model X.prog X.w) X.A (subscriptTail e (.Slice lo hi none p2) v (.ref s3.heap.objs.size)) (EP X pins σ Q) X.xe { s3 with heap:=s3.heap.push { cls:=.type "slice",data:=.fields #[vl,vu,.none] } }
 exact tail_any (ops:=[.ref s3.heap.objs.size,v]) ht hT hg (by with_unfolding_all rfl)
def cutV (xs:List V) (lo hi:Option Int):List V:=(xs.drop (HT.sIx xs.length 0 lo)).take (HT.sIx xs.length xs.length hi - HT.sIx xs.length 0 lo)
theorem cutV_length (xs:List V) (lo hi:Option Int):(cutV xs lo hi).length≤xs.length:=by
 unfold cutV
 rw [List.length_take,List.length_drop]
 omega
end
end L2
namespace L2
open PySem PySem.Spec PyProof.Rows
def ixN (n:Nat) (i:Int):Option Nat:=if 0≤i then (if i<n then some i.toNat else none) else if -(n:Int)≤i then some (i+n).toNat else none
def atI {α:Type} (xs:List α) (i:Int):Option α:=(ixN xs.length i).bind fun j=>xs[j]?
theorem ixN_seq {n:Nat} {i:Int} {j:Nat} (h:ixN n i=some j):seqIndex? i n=some j∧j<n∧-(n:Int)≤i∧i<n:=by
 unfold ixN at h
 by_cases h0:0≤i
 ·rw [if_pos h0] at h
  by_cases h1:i<n
  ·rw [if_pos h1] at h
   have e:i.toNat=j:=Option.some.inj h
   exact ⟨by rw [seqIndex_of h0 h1,e],by omega,by omega,h1⟩
  ·rw [if_neg h1] at h; cases h
 ·rw [if_neg h0] at h
  by_cases h1:-(n:Int)≤i
  ·rw [if_pos h1] at h
   have e:(i+n).toNat=j:=Option.some.inj h
   exact ⟨by rw [seqIndex_neg (by omega) h1,e],by omega,h1,by omega⟩
  ·rw [if_neg h1] at h; cases h
theorem atI_get {α:Type} {xs:List α} {i:Int} {v:α} (h:atI xs i=some v):∃ j,seqIndex? i xs.length=some j∧xs[j]?=some v∧j<xs.length∧-(xs.length:Int)≤i∧i<xs.length:=by
 unfold atI at h
 cases e:ixN xs.length i with
 | none=>rw [e] at h; cases h
 | some j =>
  rw [e] at h
  obtain ⟨h1,h2,h3,h4⟩:=ixN_seq e
  exact ⟨j,h1,h,h2,h3,h4⟩
theorem atI_nat {α:Type} {xs:List α} {j:Nat} {v:α} (h:xs[j]?=some v):atI xs (j:Int)=some v:=by
 have hj:j<xs.length:=(List.getElem?_eq_some_iff.mp h).1
 have e:ixN xs.length (j:Int)=some j:=by
  unfold ixN
  rw [if_pos (by omega),if_pos (by omega)]; simp
 unfold atI; rw [e]; exact h
theorem atI_last {α:Type} (xs:List α) (v:α):atI (xs++[v]) (-1)=some v:=by
 have hl:(xs++[v]).length=xs.length+1:=by simp
 have e:ixN (xs++[v]).length (-1)=some xs.length:=by
  unfold ixN
  rw [hl,if_neg (by decide),if_pos (by omega)]
  congr 1
  omega
 unfold atI
 rw [e]
 show (xs++[v])[xs.length]?=some v
 simp
def PlainIx (b:Expr):Prop:=∀ o i,subscripted b false o i=operate [o,i] (getItem o i)
def IxR (X:Cx) (r:R2):Prop :=
 ∀ (value slice:Expr) (pins:List (Addr×Obj)) (s:Shared) (σ:St) (H:Hp) (x y:V) (v u:Value) (Q:VK),Inv X pins σ H s→RelV x v→RelV y u→r x y H Q →
  subscripted slice false v u=operate [v,u] (getItem v u)→wpAny (model X.prog X.w) X.A (subscriptTail value slice v u) (EP X pins σ Q) X.xe s
def MtR (X:Cx) (id:String) (r:V→List V→Hp→VK→Prop):Prop :=
 ∀ (pins:List (Addr×Obj)) (s:Shared) (σ:St) (H:Hp) (x:V) (xs:List V) (v:Value) (us:List Value) (Q:VK),Inv X pins σ H s→RelV x v→Vals xs us→r x xs H Q →
  wpAny (model X.prog X.w) X.A (call (.builtin id) (v::us)) (EP X pins σ Q) X.xe s
section
variable {X:Cx} {a b:Expr} {ta tb:TE} {pos:Pos}
theorem IxR.or {r r':R2} (h:IxR X r) (h':IxR X r'):IxR X (fun x y H Q=>r x y H Q∨r' x y H Q):=by
 intro value slice pins s σ H x y v u Q I rx ry q hs
 rcases q with q | q
 ·exact h value slice pins s σ H x y v u Q I rx ry q hs
 ·exact h' value slice pins s σ H x y v u Q I rx ry q hs
theorem pe_ix {r:R2} (hr:IxR X r) (ha:PE X a ta) (hb:PE X b tb) (hs:PlainIx b):PE X (.Subscript a b pos) (tOp r ta tb):=by
 intro pins s σ H Q I h
 exact Subscript_ (binT ha hb I h fun v u s2 x y H2 I2 rx ry q=>hr a b pins s2 σ H2 x y v u Q I2 rx ry q (hs _ _))
def rIxL (K:PySem.W.Frag):R2:=fun x y H Q=>∃ p xs i v,x=.ref p∧y=.int i∧SqL K H p xs∧atI xs i=some v∧Q v H
def rIxT (K:PySem.W.Frag):R2:=fun x y H Q=>∃ p xs i v,x=.ref p∧y=.int i∧SqT K H p xs∧atI xs i=some v∧Q v H
def rIxS:R2:=fun x y H Q=>∃ z i c,x=.str z∧y=.int i∧z.length≤sizeLine∧atI z.cps.toList i=some c∧Q (.str ⟨#[c]⟩) H
theorem ix_list:IxR X (rIxL X.K):=by
  intro value slice pins s σ H x y v u Q I rx ry h hs
  obtain ⟨p,xs,i,z,rfl,rfl,hq,he,q⟩:=h
  cases rx
  obtain ⟨t,rfl⟩:=ry
  obtain ⟨its,r,pl,hz⟩:=I.list hq
  obtain ⟨j,h1,h2,h3,h4,h5⟩:=atI_get he
  obtain ⟨w,ew,rw'⟩:=r.get h2
  have hl:=r.length
  have hn:=line63
  have fin:EP X pins σ Q w s:=⟨z,H,I,rw',q⟩
  by_cases h0:0≤i
  · have hj:i.toNat=j:=by
      rw [seqIndex_of h0 h5] at h1
      exact Option.some.inj h1
    exact item_listR pl.isList h0 (by omega) (by rw [hj]; simpa using ew) fin hs
  · have hj:(i+(its.toArray.size:Int)).toNat=j:=by
      rw [seqIndex_neg (by omega) h4] at h1
      rw [List.size_toArray,← hl]
      exact Option.some.inj h1
    exact subscriptTail_builtinR (x:=w) pl.isList.typeIs slot_list_getitem.lookup
      (wpAny_getItem_list_neg (Q:=fun r s'=>r=w∧EP X pins σ Q r s') pl.isList (by omega) (by rw [List.size_toArray]<;>omega) (by omega) (by rw [hj]; simpa using ew) ⟨rfl,fin⟩) hs
theorem ix_tup:IxR X (rIxT X.K):=by
 intro value slice pins s σ H x y v u Q I rx ry h hs
 obtain ⟨p,xs,i,z,rfl,rfl,hq,he,q⟩:=h
 cases rx
 obtain ⟨t,rfl⟩:=ry
 obtain ⟨its,r,pl,hz⟩:=I.tuple hq
 obtain ⟨j,h1,h2,h3,h4,h5⟩:=atI_get he
 obtain ⟨w,ew,rw'⟩:=r.get h2
 have hl:=r.length
 have hn:=line63
 have fin:EP X pins σ Q w s:=⟨z,H,I,rw',q⟩
 exact subscriptTail_builtinR (x:=w) pl.typeIs slot_tuple_getitem.lookup
  (getItem_tuple (j:=j) (Q:=fun r s'=>r=w∧EP X pins σ Q r s') pl (by omega) (by omega) (by rw [List.size_toArray,← hl]; exact h1) (by simpa using ew) ⟨rfl,fin⟩) hs
theorem ix_str:IxR X rIxS:=by
 intro value slice pins s σ H x y v u Q I rx ry h hs
 obtain ⟨z,i,c,rfl,rfl,hz,he,q⟩:=h
 obtain ⟨t,rfl⟩:=rx
 obtain ⟨t',rfl⟩:=ry
 obtain ⟨j,h1,h2,h3,h4,h5⟩:=atI_get he
 have hl:z.cps.toList.length=z.length:=by simp [Str.length]
 rw [hl] at h1 h4 h5
 have hn:=line63
 exact tail_any (typeIs_str s z t) slot_str_getitem.lookup (getItem_str (c:=c) (by
  have e1:decide (i < -(2 ^ 63:Int))=false:=decide_eq_false (by omega)
  have e2:decide (i≥2 ^ 63)=false:=decide_eq_false (by omega)
  rw [e1,e2,Bool.or_false]) (by rw [h1]; simpa using h2) ⟨.str ⟨#[c]⟩,H,I.tok _,⟨_,rfl⟩,q⟩) hs
def rIx (K:PySem.W.Frag):R2:=fun x y H Q=>rIxL K x y H Q∨rIxT K x y H Q∨rIxS x y H Q
theorem ix_seq:IxR X (rIx X.K):=ix_list.or (ix_tup.or ix_str)
theorem slice_bounds (lo hi:Option Int) (n:Nat):(sliceBounds lo hi none n).1=((HT.sIx n 0 lo:Nat):Int)∧(sliceBounds lo hi none n).2.1=((HT.sIx n n hi:Nat):Int)∧(sliceBounds lo hi none n).2.2=1:=by
 refine ⟨?_,?_,rfl⟩
 ·cases lo with
  | none => simp [sliceBounds, HT.sIx]
  | some i =>
   simp only [sliceBounds,HT.sIx,Option.getD_none,show (1:Int) > 0 by decide,if_true]
   by_cases h:i<0
   ·simp only [h,if_true]<;>omega
   ·simp only [h,if_false]<;>omega
 ·cases hi with
  | none => simp [sliceBounds, HT.sIx]
  | some i =>
   simp only [sliceBounds,HT.sIx,Option.getD_none,show (1:Int) > 0 by decide,if_true]
   by_cases h:i<0
   ·simp only [h,if_true]<;>omega
   ·simp only [h,if_false]<;>omega
theorem slicePick_cut (its:List Value) (lo hi:Option Int):slicePick its.toArray lo hi none=((its.drop (HT.sIx its.length 0 lo)).take (HT.sIx its.length its.length hi - HT.sIx its.length 0 lo)).toArray:=by
 obtain ⟨h1,h2,h3⟩:=slice_bounds lo hi its.toArray.size
 unfold slicePick
 rw [h1,h2,h3]
 simp only [sliceRange_one,pick_run,List.size_toArray]<;>rfl
def rSlL (K:PySem.W.Frag):V→Option Int→Option Int→Hp→VK→Prop:=fun x lo hi H Q=>∃ a xs,x=.ref a∧SqL K H a xs∧∀ p,H p=none→Q (.ref p) (upd H p (.lst (cutV xs lo hi)))
theorem sl_list:SlR X (rSlL X.K):=by
 intro pins s σ H x v vl vu lo hi sl Q I rx hs pl pu h
 obtain ⟨a,xs,rfl,hx,q⟩:=h
 cases rx
 obtain ⟨its,r,ht,hz⟩:=I.list hx
 have hlen:=r.length
 refine ⟨"list",_,slot_list_getitem.lookup,ht.isList.typeIs,?_⟩
 refine wpAny_getItem_list_slice ht.isList hs pl pu .none (by simp) ?_ (by rw [List.size_toArray]<;>omega)
 rw [slicePick_cut,← hlen]
 refine ⟨.ref s.heap.objs.size,_,I.laid (t':=s.toks) (o:=.lst (cutV xs lo hi)) (fun b ob q=>Heap.get?_push_of_some _ q) (Nat.le_refl _) ?_,rfl,q _ (I.hok.fresh (Nat.le_refl _))⟩
 exact ⟨Nat.le_trans (cutV_length xs lo hi) hz,_,0,(r.drop (HT.sIx xs.length 0 lo)).take (HT.sIx xs.length xs.length hi - HT.sIx xs.length 0 lo),Heap.get?_push_size _ rfl⟩
theorem call_len_seq:CallR X (.builtin "len") (fun xs H Q=>∃ p ys,xs=[.ref p]∧(SqL X.K H p ys∨SqT X.K H p ys)∧Q (.int ys.length) H):=by
 intro pins s σ H xs us Q I r h
 obtain ⟨p,ys,rfl,hq,q⟩:=h
 obtain ⟨u,rfl,rx⟩:=vals1 r
 cases rx
 have hn:=line63
 rcases hq with hq | hq
 ·obtain ⟨its,r',pl,hz⟩:=I.list hq
  have hlen:=r'.length
  exact Calls.call_len_list pl.isList (by simp only [List.size_toArray]<;>omega) ⟨.int ys.length,H,I.tok _,⟨s.toks+1,by rw [List.size_toArray,hlen]⟩,q⟩
 ·obtain ⟨its,r',pl,hz⟩:=I.tuple hq
  have hlen:=r'.length
  exact len_tuple pl (by simp only [List.size_toArray]<;>omega) ⟨.int ys.length,H,I.tok _,⟨s.toks+1,by rw [List.size_toArray,hlen]⟩,q⟩
theorem call_list_of:CallR X (.type "list") (fun xs H Q=>∃ p ys,xs=[.ref p]∧(SqL X.K H p ys∨SqT X.K H p ys)∧∀ l,H l=none→Q (.ref l) (upd H l (.lst ys))):=by
  intro pins s σ H xs us Q I r h
  obtain ⟨p,ys,rfl,hq,q⟩:=h
  obtain ⟨u,rfl,rx⟩:=vals1 r
  cases rx
  have fin:∀ (its:List Value),Vals ys its→ys.length≤sizeLine→∀ (h':Heap) (c':Nat),(∀ b o',s.heap.get? b=some o'→h'.get? b=some o') →
      h'.get? s.heap.objs.size=some { cls:=.type "list",dict:=none,data:=.seq its.toArray c',slots:=#[] }→EP X pins σ Q (.ref s.heap.objs.size) { s with heap:=h' }:=fun its r' hz h' c' kp e =>
    ⟨.ref s.heap.objs.size,_,I.laid (t':=s.toks) kp (Nat.le_refl _) (show ObjOk X.prog X.w _ h' _ (.lst ys) from ⟨hz,its,c',r',e⟩),rfl,q _ (I.hok.fresh (Nat.le_refl _))⟩
  rcases hq with hq | hq
  · obtain ⟨its,r',pl,hz⟩:=I.list hq
    have hlen:=r'.length
    obtain ⟨o,ho,hc,n,hd⟩:=pl.isList
    exact call_list_seq p (.inl rfl) ho hc hd (fun h' c' kp e=>fin its r' hz h' c' kp e) (by simp only [List.size_toArray]<;>omega)
  · obtain ⟨its,r',pl,hz⟩:=I.tuple hq
    have hlen:=r'.length
    obtain ⟨o,ho,hc,n,hd⟩:=pl
    exact call_list_seq p (.inr rfl) ho hc hd (fun h' c' kp e=>fin its r' hz h' c' kp e) (by simp only [List.size_toArray]<;>omega)
theorem call_tuple_of:CallR X (.type "tuple") (fun xs H Q=>∃ p ys,xs=[.ref p]∧((SqL X.K H p ys∧∀ l,H l=none→Q (.ref l) (upd H l (.tup ys)))∨(SqT X.K H p ys∧Q (.ref p) H))):=by
 intro pins s σ H xs us Q I r h
 obtain ⟨p,ys,rfl,h⟩:=h
 obtain ⟨u,rfl,rx⟩:=vals1 r
 cases rx
 rcases h with ⟨hq,q⟩ | ⟨hq,q⟩
 ·obtain ⟨its,r',pl,hz⟩:=I.list hq
  have hlen:=r'.length
  refine call_tuple_list pl.isList (fun h' kp=>?_) (by simp only [List.size_toArray]<;>omega)
  have I1:Inv X pins σ H { s with heap:=h' }:=I.kept (t':=s.toks) kp
  have I2:Inv X pins σ (upd H h'.objs.size (.tup ys)) { s with heap:=h'.push { cls:=.type "tuple",data:=.seq its.toArray } } :=
   I1.laid (t':=s.toks) (fun b o e=>Heap.get?_push_of_some _ e) (Nat.le_refl _) (show ObjOk X.prog X.w _ _ _ (.tup ys) from ⟨hz,its,r',IsTup.new _ _⟩)
  exact ⟨.ref h'.objs.size,_,I2,rfl,q _ (I1.hok.fresh (Nat.le_refl _))⟩
 ·obtain ⟨its,r',pl,hz⟩:=I.tuple hq
  exact call_tuple_same pl ⟨.ref p,H,I,rfl,q⟩
def tyV (K:PySem.W.Frag) (T:String) (x:V) (H:Hp):Prop:=match x with
  | .str _ => T = "str"
  | .int _ => T = "int"
  | .ref p => (T = "list" ∧ ∃ xs, SqL K H p xs) ∨ (T = "tuple" ∧ ∃ o, K.lookup p = some o ∧ o.cls = .type "tuple" ∧ o.dict = none) ∨
      (T="dict"∧((∃ kvs,H p=some (.dK kvs))∨∃ kvs,H p=some (.dT kvs)))∨(T="set"∧∃ S n,H p=some (.set S n))
  | _ => False
theorem tyV_is {pins:List (Addr×Obj)} {σ:St} {H:Hp} {s:Shared} {T:String} {x:V} {v:Value} (I:Inv X pins σ H s) (r:RelV x v) (ty:tyV X.K T x H) :
    s.TypeIs v T∧∀ a,v=.ref a→∃ ob,s.heap.get? a=some ob∧ob.dict=none:=by
  cases x with
  | str z =>
    obtain ⟨t,rfl⟩:=r
    cases (show T="str" from ty)
    exact ⟨typeIs_str s z t,fun _ e=>nomatch e⟩
  | int i =>
    obtain ⟨t,rfl⟩:=r
    cases (show T="int" from ty)
    exact ⟨typeIs_int s i t,fun _ e=>nomatch e⟩
  | ref p =>
    cases r
    rcases ty with ⟨rfl,xs,hq⟩ | ⟨rfl,o,hk,hc,hd⟩ | ⟨rfl,hk⟩ | ⟨rfl,S,n,hk⟩
    · obtain ⟨its,_,pl,_⟩:=I.list hq
      refine ⟨pl.isList.typeIs,fun a e=>?_⟩
      cases e
      obtain ⟨o,n,e,c,hd,_⟩:=pl
      exact ⟨o,e,hd⟩
    · refine ⟨⟨o,I.kIn p o hk,hc⟩,fun a e=>?_⟩
      cases e
      exact ⟨o,I.kIn _ o hk,hd⟩
    · have z:∃ o,s.heap.get? p=some o∧o.ExactDict:=by
        rcases hk with ⟨kvs,hk⟩ | ⟨kvs,hk⟩
        · obtain ⟨_,_,_,_,o,_,_,e,ex,_⟩:=I.hok p _ hk
          exact ⟨o,e,ex⟩
        · obtain ⟨_,_,_,_,o,_,_,e,ex,_⟩:=I.hok p _ hk
          exact ⟨o,e,ex⟩
      obtain ⟨o,e,ex⟩:=z
      refine ⟨⟨o,e,ex.1⟩,fun a e2=>?_⟩
      cases e2
      exact ⟨o,e,ex.2.1⟩
    · obtain ⟨o,_,_,_,e,ex,_⟩:=I.hok p _ hk
      refine ⟨⟨o,e,ex.1⟩,fun a e2=>?_⟩
      cases e2
      exact ⟨o,e,ex.2.1⟩
  | _ => exact False.elim ty
def tBM0 (K:PySem.W.Frag) (T:String) (r:V→List V→Hp→VK→Prop) (to:TE):TE:=fun σ H Q=>to σ H fun x H1=>tyV K T x H1∧r x [] H1 Q
def tBM (K:PySem.W.Frag) (T:String) (r:V→List V→Hp→VK→Prop) (to:TE) (t:TA):TE:=fun σ H Q=>to σ H fun x H1=>tyV K T x H1∧t σ H1 fun xs H2=>r x xs H2 Q
variable {o e:Expr} {es:List Expr} {to:TE} {t:TA} {name:Str} {apos cpos:Pos} {T id:String} {r:V→List V→Hp→VK→Prop}
theorem pe_bm0 (pa:PlainAttrs T) (slot:Slot T name id) (hty:typeOf (.builtin id)=pure (.type "method_descriptor")) (hm:MtR X id r) (ho:PE X o to)
  (hbase:attributeBase o name X.env (eval o X.env)=eval o X.env:=by rfl) (hline:(apos.endLine==cpos.line)=true:=by rfl):PE X (.Call (.Attribute o name apos) [] [] cpos) (tBM0 X.K T r to):=by
 intro pins s σ H Q I h
 refine wpAny_Call_method0_late hbase hline (thn (ho pins s σ H _ I h) fun v s1 ⟨x,H1,I1,r1,ty,q1⟩=>?_)
 obtain ⟨h1,h2⟩:=tyV_is I1 r1 ty
 exact ⟨T,id,pa,slot,hty,h1,h2,Calls.callWith_builtin rfl (PySem.evalArgs_none (hm pins s1 σ H1 x [] v [] Q I1 r1 .nil q1))⟩
theorem pe_bm (pa:PlainAttrs T) (slot:Slot T name id) (hty:typeOf (.builtin id)=pure (.type "method_descriptor")) (hm:MtR X id r) (ho:PE X o to) (ha:PA X (e::es) t)
  (hbase:attributeBase o name X.env (eval o X.env)=eval o X.env:=by rfl)
  (hfew:((backTo cpos (starEach (e::es) X.env)).all (fun x=>!x.1)&&(backToKw cpos (keywordEach [] X.env)).all (fun x=>x.1.isSome)
   && decide ((e::es).length+([]:List Keyword).length+(if ([]:List Keyword).isEmpty then 0 else 1)<30))=true:=by rfl)
  (hline:(apos.endLine==cpos.line)=true:=by rfl) (hs:starEach (e::es) X.env=(false,eval e X.env)::starEach es X.env:=by rfl) (hplain:(backTo cpos (starEach es X.env)).any (·.1)=false:=by rfl) :
  PE X (.Call (.Attribute o name apos) (e::es) [] cpos) (tBM X.K T r to t):=by
 intro pins s σ H Q I h
 refine wpAny_Call_method_late hbase hfew hline rfl (thn (ho pins s σ H _ I h) fun v s1 ⟨x,H1,I1,r1,ty,q1⟩=>?_)
 obtain ⟨h1,h2⟩:=tyV_is I1 r1 ty
 refine ⟨T,id,pa,slot,hty,h1,h2,?_⟩
 have hA:=ha cpos pins s1 σ H1 _ I1 q1
 rw [hs] at hA ⊢
 refine Calls.callWith_builtin (by show (false||(backTo cpos (starEach es X.env)).any (·.1))=false; rw [hplain]<;>rfl) (Calls.evalArgs_plain ?_)
 exact thn hA fun us s2 ⟨vs,H2,I2,r2,q2⟩=>hm pins s2 σ H2 x vs v us Q I2 r1 r2 q2
/- xs.append(e),list.index on a module's tuple .. are MtR facts of 06m -/
end
end L2
namespace L2
open PySem PySem.Spec PyProof.Rows
def MtM (X:Cx) (id:String) (r:V→List V→Hp→VK→Prop):Prop :=
 ∀ (pins:List (Addr×Obj)) (s:Shared) (σ:St) (H:Hp) (x:V) (xs:List V) (v:Value) (us:List Value) (Q:VK),Inv X pins σ H s→RelV x v→Vals xs us→r x xs H Q →
  wpAny (model X.prog X.w) X.A (call (.builtin id) (v::us)) (EP X pins σ Q) X.xe s
theorem Vals.one:∀ {x:V} {us:List Value},Vals [x] us→∃ u,us=[u]∧RelV x u
 | _,_,.cons r .nil=>⟨_,rfl,r⟩
theorem Vals.two:∀ {x y:V} {us:List Value},Vals [x,y] us→∃ u v,us=[u,v]∧RelV x u∧RelV y v
 | _,_,_,.cons r (.cons q .nil)=>⟨_,_,rfl,r,q⟩
section
variable {X:Cx} {pins:List (Addr×Obj)} {σ:St} {H:Hp} {s:Shared} {l b:Addr} {xs ys zs:List V}
theorem Inv.lset {its its':List Value} {n:Nat} {f:Array Value→Array Value} {t':Nat} (I:Inv X pins σ H s) (hH:H l=some (.lst xs))
  (e:s.heap.get? l=some { cls:=.type "list",data:=.seq its.toArray n }) (hf:f its.toArray=its'.toArray) (hv:Vals ys its') (hz:ys.length≤sizeLine) :
  Inv X pins σ (upd H l (.lst ys)) { s with heap:=s.heap.update l (Obj.mapSeq f),toks:=t' }:=by
 have q:=PySem.IsL.update e f
 rw [hf] at q
 refine I.write (x:=l) (e:=l) (by rw [hH]; exact trivial) (.inl rfl) (fun b' u hb hu=>(Heap.get?_update_other s.heap (Obj.mapSeq f) (Ne.symm hb)).trans hu) ⟨_,q⟩ ?_
 exact ⟨hz,its',_,hv,q⟩
theorem Inv.lstM (I:Inv X pins σ H s) (hH:H l=some (.lst xs)):xs.length≤sizeLine∧∃ (its:List Value) (n:Nat),Vals xs its∧xs.length=its.length∧s.heap.get? l=some { cls:=.type "list",data:=.seq its.toArray n }:=by
 obtain ⟨z,its,n,r,e⟩:=I.hok l _ hH
 exact ⟨z,its,n,r,r.length,e⟩
theorem notLongL {n:Nat} (h:n≤sizeLine):Builtin.List.listTooLong n=false:=by
 unfold Builtin.List.listTooLong
 exact decide_eq_false (by omega)
end
section
variable {X:Cx}
def rAppend:V→List V→Hp→VK→Prop:=fun x vs H Q=>∃ l xs y,x=.ref l∧vs=[y]∧H l=some (.lst xs)∧xs.length<sizeLine∧Q .non (upd H l (.lst (xs++[y])))
theorem mt_append:MtM X "list.append" rAppend:=by
 intro pins s σ H x vs v us Q I rx rv h
 obtain ⟨l,xs,y,rfl,rfl,hH,hz,q⟩:=h
 cases rx
 obtain ⟨u,rfl,ru⟩:=rv.one
 obtain ⟨z,its,n,r,hl,e⟩:=I.lstM hH
 refine call_meets F.slot_list_append ⟨_,e,rfl⟩ F.entry_list_append (F.args_list_append_2 _ _) (PySem.list_append l its.toArray n u (by rw [List.size_toArray]; omega)) ⟨e,?_⟩
 refine ⟨.non,_,I.lset (its':=its++[u]) hH e (by simp) (r.append (.cons ru .nil)) ?_,rfl,q⟩
 rw [List.length_append,List.length_singleton]
 omega
def rExtend:V→List V→Hp→VK→Prop:=fun x vs H Q=>∃ l b xs zs,x=.ref l∧vs=[.ref b]∧H l=some (.lst xs)∧H b=some (.lst zs)∧xs.length+zs.length≤sizeLine∧Q .non (upd H l (.lst (xs++zs)))
theorem mt_extend:MtM X "list.extend" rExtend:=by
 intro pins s σ H x vs v us Q I rx rv h
 obtain ⟨l,b,xs,zs,rfl,rfl,hH,hB,hz,q⟩:=h
 cases rx
 obtain ⟨u,rfl,ru⟩:=rv.one
 cases ru
 obtain ⟨z,its,n,r,hl,e⟩:=I.lstM hH
 obtain ⟨z2,its2,n2,r2,hl2,e2⟩:=I.lstM hB
 have hsz:its.toArray.size+its2.toArray.size≤sizeLine:=by rw [List.size_toArray,List.size_toArray]; omega
 have hlong:¬ (!its.toArray.isEmpty&&Builtin.List.listTooLong (its.toArray.size+its2.toArray.size))=true:=by
  rw [notLongL hsz,Bool.and_false]
  exact Bool.false_ne_true
 refine call_meets F.slot_list_extend ⟨_,e,rfl⟩ F.entry_list_extend (F.args_list_extend_2 _ _)
  (AutoSeq1.list_extend_list_list_0 l its.toArray n b its2.toArray n2 hlong (by rw [List.size_toArray]; omega) (by omega)) ⟨e,e2,?_⟩
 refine ⟨.non,_,I.lset (its':=its++its2) hH e (by simp) (r.append r2) ?_,rfl,q⟩
 rw [List.length_append]
 omega
end
section
variable {prog:Program} {w:World} {A:Around} {E:Value→Shared→Prop} {s:Shared}
set_option maxRecDepth 100000 in
end
section
variable {X:Cx}
end
end L2
namespace Att
open PySem PySem.W PySem.Calls PyProof.Rows
theorem ints_of_wellAll {P:Params} {h:Heap}:∀ (ns:List Int) (vs:List Value),WellAll P h vs (ns.map WData.int)→IntsAre vs ns:=by
 intro ns
 induction ns with
 | nil =>
  intro vs w
  rw [List.map_nil] at w
  cases w
  exact .nil
 | cons n ns ih =>
  intro vs w
  rw [List.map_cons] at w
  cases w with
  | cons a b =>
   cases a
   exact .cons _ _ (ih _ b)
theorem script_of {l:OpenLaw} {n:Nat} (hn:l.most=some n) {P:Params} {h:Heap} {args:List WData} {vals:List Value}
  (hpre:l.row.toRowW.claim.pre args=true) (hwl:WellAll P h vals args) :
  ∃ a vs ns,vals=[Value.ref a]∧args=[WData.list (ns.map WData.int)]∧h.get? a=some { cls:=.type "list",data:=.seq vs.toArray }∧IntsAre vs ns∧ns.length≤n:=by
 have hsh:WShape.hasAll [] args [.list .int]=true:=(pre_splitW hpre).1
 have hc:l.pre.holds [] { args:=args }=true:=(pre_splitW hpre).2
 obtain ⟨d,r,rfl,h1,h2⟩:=hasAllW_cons hsh
 obtain rfl:=hasAllW_nil h2
 obtain ⟨xs,rfl,h3⟩:=hasW_list h1
 obtain ⟨ns,rfl⟩:=items_int h3
 have hlen:ns.length≤n:=by
  unfold OpenLaw.pre at hc
  have h4:(WTm.not (.lt (.lit (.int (n:Int))) (.len (.arg 0)))).holds [] { args:=[.list (ns.map .int)] }=true:=by
   have h4:=(holds_andW hc).1
   rw [hn] at h4
   exact h4
  have h5:=condW_of h4 (w_not (w_lt w_lit (w_len_list (w_arg rfl))))
  rw [List.length_map] at h5
  refine Nat.le_of_not_lt fun q=>?_
  have q':(n:Int)<((ns.length:Nat):Int):=by omega
  first
   | (rw [decide_eq_true q'] at h5; exact absurd h5 (by decide))
   | (simp at h5; omega)
 cases hwl with
 | cons w1 w2 =>
  cases w2
  cases w1 with
  | list ho hall => exact ⟨_, _, ns, rfl, rfl, ho, ints_of_wellAll ns _ hall, hlen⟩
theorem post_true (l:OpenLaw) (args:List WData):l.row.toRowW.claim.post args (.bool true) args=true :=
 postW_of (r:=l.row.toRowW) (X:=(true==true))
  (show WShape.has [] (.bool true) .bool=true by first | rfl | decide | simp [WShape.has,WShape.arms,WShape.armsAll])
  (show (WTm.eq .res (.lit (.bool true))).value [] { args:=args,res:=some (.bool true),after:=args }=some (.bool (true==true)) from w_eq_bool (w_res rfl) w_lit) rfl
theorem attach_call {l:OpenLaw} {n:Nat} {q:Program} {loose:List Str} {XP:(Str→Option Value)→Heap→Prop} {YP:World→Heap→Prop} {d:DefRec}
  (hn:l.most=some n) (hdf:d.params.defaults=[])
  (call:∀ (w:World) (s₀ s₁:Shared) (mg mb:Str→Option Value) (fa:Addr) (o:Obj) (pm cd doc:Value) (a:Addr) (vs:List Value) (ns:List Int),
   Ground q loose [] XP w s₀ mg mb s₁.heap→YP w s₁.heap →
   s₁.heap.get? fa=some o→o.data=.func (docDef d.name d.params d.body d.scope pm cd doc)→s₁.heap.CodeRec cd d.name→mg d.name=some (.ref fa) →
   s₁.heap.get? a=some { cls:=.type "list",data:=.seq vs.toArray }→IntsAre vs ns→ns.length≤n→s₁.gens=#[] →
   codeAny (model l.prog w) callerA (.call (.ref fa) ⟨[.ref a],[]⟩) (fun r s'=>r=.ok (.ret (.bool true))∧OldK s₁.heap s'.heap∧s'.os=s₁.os∧AllBare s'.gens) s₁) :
  WalkO q loose XP YP l.row.toRowW d [] (fun f vs=>PySem.call f vs):=by
 intro w s₀ s₁ mg mb G Y fa o pm cd doc dV kV ho hd hcd hD hmg hg args vals as hpre hlay hrd hwl hlo
 obtain rfl:dV=.none:=Dflts.none hD hdf
 obtain rfl:kV=.none:=Dflts.noKw hD
 obtain ⟨a,vs,ns,rfl,rfl,hobj,hints,hlen⟩:=script_of hn hpre hwl
 refine enter_call (codeAny_mono (call w s₀ s₁ mg mb fa o pm cd doc a vs ns G Y ho (fd_plain hd) hcd hmg hobj hints hlen hg) fun r s' hq=>?_)
 obtain ⟨rfl,h2,h3,h4⟩:=hq
 exact ⟨.inl ⟨.bool true,.bool true,[],rfl,fun _=>rfl,.bool true,post_true l _,fun _=>⟨List.Pairwise.nil,fun _ hm=>(nomatch hm)⟩⟩,h2,h3,h4⟩
section
variable {prog:Program} {w:World} {A:Around} {E:Value→Shared→Prop} {s:Shared} {K:Frag}
def ledger (h:Heap) (L d:Addr):List (Addr×Obj):=(List.range h.objs.size).filterMap fun a=>if a=L∨a=d then none else (h.get? a).map fun o=>(a,o)
end
end Att
namespace L2
open PySem PySem.Spec PyProof.Rows
theorem vals_ints:∀ {vs:List Value} {ns:List Int},IntsAre vs ns→Vals (ns.map V.int) vs
 | _,_,.nil=>.nil
 | _,_,.cons n t h=>.cons ⟨t,rfl⟩ (vals_ints h)
def Only (H:Hp):Prop:=∀ b,H b=none∨∃ o xs,H b=some (.frz o (.lst xs))
theorem law_call {P:Program} {w:World} {K:PySem.W.Frag} {mg mb:Str→Option Value} {CX:CXT} {k:Nat} {fa a:Addr} {fd:FuncData} {x:Str} {sp:Sp} {s₁:Shared} {vs:List Value} {ns:List Int}
    (KX:K.In s₁.heap) (hns:s₁.heap.Ns mainGlobals mg) (hb:s₁.heap.Ns builtinsNs mb) (hbb:∀ x:Str,x≠"__name__"→mb x=bootBuiltins x) (hlim:s₁.heap.NoLimit) (hg:s₁.gens=#[])
    (ha:s₁.heap.get? a=some { cls:=.type "list",data:=.seq vs.toArray }) (hi:IntsAre vs ns) (hl:ns.length≤sizeLine) (hr:Room k callerA)
    (F:∀ base:Heap,K.In base→base.Ns mainGlobals mg→FnOk P w K mg base CX k fa fd [x] sp) (hbind:∀ (s:Shared) (u:Value),BindsTo s fd ⟨[u],[]⟩ [(x,u)])
    (hsp:∀ H:Hp,Only H→SqL K H a (ns.map V.int)→sp [.ref a] H (fun v _=>v=.bl true) fun _ _ _=>False)
    (hCX:∀ H e s',CX [] H s₁ (fun _ _ _=>False) e s'→False) :
    codeAny (model P w) callerA (.call (.ref fa) ⟨[.ref a],[]⟩) (fun r s'=>r=.ok (.ret (.bool true))∧OldK s₁.heap s'.heap∧s'.os=s₁.os∧AllBare s'.gens) s₁:=by
  have rv:=vals_ints hi
  have lenV:=hi.length
  -- from an abstract heap in which nothing but the script may be tracked
  have core:∀ H:Hp,Only H→SqL K H a (ns.map V.int)→HOk P w H s₁.heap→(∀ b,H b≠none→b=a)→(H a≠none→K.lookup a=none) →
      codeAny (model P w) callerA (.call (.ref fa) ⟨[.ref a],[]⟩) (fun r s'=>r=.ok (.ret (.bool true))∧OldK s₁.heap s'.heap∧s'.os=s₁.os∧AllBare s'.gens) s₁:=by
    intro H hO hS hok hA hK
    have base_of:∀ {b:Addr} {o:Obj},s₁.heap.get? b=some o→H b=none→(hidT s₁.heap H).get? b=some o:=fun e n=>hidT_get e n
    have noA:∀ {b:Addr} {o:Obj} {es:Array DictEntry} {ep:Nat},s₁.heap.get? b=some o→o.data=.dict es ep→H b=none:=fun {b o es ep} e d=>by
      cases q:H b with
      | none=>rfl
      | some u =>
        have e':b=a:=hA b (by rw [q]; simp)
        subst e'
        rw [ha] at e; cases e
        have d':Data.seq vs.toArray _=Data.dict es ep:=d
        cases d'
    have nsK:∀ {b:Addr} {m:Str→Option Value},s₁.heap.Ns b m→(hidT s₁.heap H).Ns b m:=fun {b m} ⟨o,es,ep,e,d,r⟩=>⟨o,es,ep,base_of e (noA e d),d,r⟩
    have hKb:K.In (hidT s₁.heap H):=fun b o e=>base_of (KX b o e) (by
      cases q:H b with
      | none=>rfl
      | some u =>
        have e':b=a:=hA b (by rw [q]; simp)
        subst e'
        rw [hK (by rw [q]; simp)] at e; cases e)
    have hM:Mod K mg (hidT s₁.heap H):=⟨hKb,nsK hns,⟨mb,nsK hb,hbb⟩,let ⟨mc,h1,h2⟩:=hlim; ⟨mc,nsK h1,h2⟩⟩
    have e0:Env0 P w K mg (hidT s₁.heap H) callerA [] s₁ H:=⟨rfl,hM,fun b o e=>of_hidT e,Nat.le_of_eq (hidT_size _ _),trivial,fun b hb=>absurd (show b∈([]:List Addr) from hb) (by simp),hok,.of_eq hg⟩
    refine codeAny_mono ((F _ hKb (nsK hns)).run callerA [] s₁ H ⟨[.ref a],[]⟩ [.ref a] [.ref a] _ _ hr e0 (hbind s₁ (.ref a)) (.cons rfl .nil) (hsp H hO hS)) fun r s' h=>?_
    cases r with
    | error e=>exact (hCX H e s' h).elim
    | ok fl =>
      cases fl with
      | next=>exact False.elim h
      | brk=>exact False.elim h
      | cont=>exact False.elim h
      | ret u =>
        obtain ⟨v,H',os,bare,un,hok',r',q⟩:=h
        have q':v=.bl true:=q
        subst q'
        obtain rfl:u=Value.bool true:=r'
        refine ⟨rfl,OldK.of_keep fun b o e=>?_,os,bare⟩
        cases q:H b with
        | none=>exact un.keep b o e q (by intro z; exact absurd (show b∈([]:List Addr) from z) (by simp)) (by simp)
        | some u =>
          rcases hO b with z | ⟨ob,xs,z⟩
          · rw [q] at z; cases z
          · have z2:=un.frzs b ob _ z
            obtain ⟨e1,_⟩:=hok b _ z
            obtain ⟨e2,_⟩:=hok' b _ z2
            rw [e] at e1; cases e1
            exact e2
  cases hk:K.lookup a with
  | some o =>
    -- the script is one of the module's own objects
    have e:=KX a o hk
    rw [ha] at e
    cases e
    refine core (fun _=>none) (fun _=>.inl rfl) (.inr ⟨_,vs.toArray,_,hk,rfl,rfl,rfl,by rw [List.size_toArray,lenV]; exact hl,by simpa using rv⟩) (fun b u z=>by have z':(none:Option HO)=some u:=z; cases z') (fun b z=>absurd rfl z) fun z=>absurd rfl z
  | none =>
    refine core (fun b=>if b=a then some (.frz { cls:=.type "list",data:=.seq vs.toArray } (.lst (ns.map V.int))) else none) (fun b=>?_) (.inl (.inr ⟨{ cls:=.type "list",data:=.seq vs.toArray },if_pos rfl⟩)) (fun b u z=>?_) (fun b z=>?_) fun _=>hk
    · by_cases hb:b=a
      · exact .inr ⟨_,_,if_pos hb⟩
      · exact .inl (if_neg hb)
    · by_cases hb:b=a
      · have z':=(if_pos hb).symm.trans z
        cases z'
        subst hb
        exact ⟨ha,by rw [List.length_map]; exact hl,vs,_,rv,ha⟩
      · have z':=(if_neg hb).symm.trans z
        cases z'
    · by_cases hb:b=a
      · exact hb
      · exact absurd (if_neg hb) z
end L2
namespace L2
open PySem PySem.Spec PyProof.Rows
abbrev KOf {K:PySem.W.Frag} {h:Heap} (_:K.In h):PySem.W.Frag:=K
theorem walk_of {l:PySem.W.OpenLaw} {n k:Nat} {q:Program} {loose:List Str} {XP:(Str→Option Value)→Heap→Prop} {YP:World→Heap→Prop} {d:DefRec} {K:Params→PySem.W.Frag} {CX:World→CXT} {sp:World→Sp} {x:Str}
  (hn:l.most=some n) (hn2:n≤sizeLine) (hdf:d.params.defaults=[]) (hr:Room k callerA)
  (hY:∀ (w:World) (h:Heap),YP w h→(K w.params).In h)
  (F:∀ (w:World) (mg:Str→Option Value) (fa:Addr) (h:Heap),(K w.params).In h→h.Ns mainGlobals mg→mg d.name=some (.ref fa) →
   ∃ fd:FuncData,(∀ (s:Shared) (u:Value),BindsTo s fd ⟨[u],[]⟩ [(x,u)]) ∧
    ∀ base:Heap,(K w.params).In base→base.Ns mainGlobals mg→FnOk l.prog w (K w.params) mg base (CX w) k fa fd [x] (sp w))
  (hsp:∀ (w:World) (H:Hp) (a:Addr) (ns:List Int),ns.length≤n→Only H→SqL (K w.params) H a (ns.map V.int)→sp w [.ref a] H (fun v _=>v=.bl true) fun _ _ _=>False)
  (hCX:∀ (w:World) (H:Hp) (s:Shared) (e:Value) (s':Shared),CX w [] H s (fun _ _ _=>False) e s'→False) :
  PySem.W.WalkO q loose XP YP l.row.toRowW d [] (fun f vs=>PySem.call f vs):=by
 refine Att.attach_call hn hdf fun w s₀ s₁ mg mb fa o pm cd doc a vs ns G Y ho hd hcd hmg hobj hints hlen hg=>?_
 have KX:=hY w _ Y
 obtain ⟨fd,hb,hF⟩:=F w mg fa _ KX G.T.g hmg
 exact law_call KX G.T.g G.T.b G.T.builtins G.T.nolimit hg hobj hints (Nat.le_trans hlen hn2) hr hF hb (fun H hO hS=>hsp w H a ns hlen hO hS) fun H e s'=>hCX w H s₁ e s'
theorem walk_ofK {l:PySem.W.OpenLaw} {n k:Nat} {q:Program} {loose:List Str} {XP:(Str→Option Value)→Heap→Prop} {YP:World→Heap→Prop} {d:DefRec} {K:Params→PySem.W.Frag} {CX:CXT} {sp:PySem.W.Frag→Sp} {x:Str}
  (hn:l.most=some n) (hn2:n≤sizeLine) (hdf:d.params.defaults=[]) (hr:Room k callerA)
  (hY:∀ (w:World) (h:Heap),YP w h→(K w.params).In h)
  (F:∀ (w:World) (mg:Str→Option Value) (fa:Addr) (h:Heap),(K w.params).In h→h.Ns mainGlobals mg→mg d.name=some (.ref fa) →
   ∃ fd:FuncData,(∀ (s:Shared) (u:Value),BindsTo s fd ⟨[u],[]⟩ [(x,u)]) ∧
    ∀ base:Heap,(K w.params).In base→base.Ns mainGlobals mg→FnOk l.prog w (K w.params) mg base CX k fa fd [x] (sp (K w.params)))
  (hsp:∀ (K:PySem.W.Frag) (H:Hp) (a:Addr) (ns:List Int),ns.length≤n→Only H→SqL K H a (ns.map V.int)→sp K [.ref a] H (fun v _=>v=.bl true) fun _ _ _=>False)
  (hCX:∀ (H:Hp) (s:Shared) (e:Value) (s':Shared),CX [] H s (fun _ _ _=>False) e s'→False) :
  PySem.W.WalkO q loose XP YP l.row.toRowW d [] (fun f vs=>PySem.call f vs) :=
 walk_of (K:=K) (CX:=fun _=>CX) (sp:=fun w=>sp (K w.params)) hn hn2 hdf hr hY F (fun w H a ns h1 h2 h3=>hsp (K w.params) H a ns h1 h2 h3) fun _ H s e s'=>hCX H s e s'
end L2
/- THE LAST THEOREM (shape; LID,My.* are yours):
   My.Adr: a structure of the addresses that your layer names (classes,functions); My.Txt K t: a structure (Prop) of the equations over K;
   My.txt_mk:{K} {implicit addresses ..} (e1:nsIn K mainGlobals "law"=some (some (.ref f))) (e2:K.lookup f=some ⟨oc,od,.func (fnOf "law" "law" params body scope dV kV doc pm an cdv ct),sl⟩) (e3:codeIn K cdv "law"=true) ..:∃ t,My.Txt K t
set_option maxRecDepth 100000 in
set_option maxHeartbeats 0 in
theorem PySem.Challenge.cw_LID_holds : PySem.Challenge.rw_LID.Holds := by
 w_on; o_law; k_head; (case hw=>w_witness2)
 k_fill
 refine L2.walk_of (l:=PySem.Challenge.rw_LID) (n:=63) (k:=40) (x:="script") (CX:=fun w=>..) (sp:=fun _=>My.sp_law) rfl (by decide) rfl ⟨rfl,by decide,by decide⟩ (fun w h Y=>PySem.W.kIn_of Y) ?F ?S ?C
 case F =>
  intro w mg fa h KX G hmg
  have T:∃ t,My.Txt (L2.KOf KX) t:=by
   dsimp only [L2.KOf]                          -- K must stand as «<heap const> w.params» for k_is
   refine' My.txt_mk ?e1 ?e2 ?e3 ..
   (case e1=>PySem.W.k_is)                    -- in the order: a name -> its address -> its object -> its parts
   (case e2=>PySem.W.k_is)
   ..
  obtain ⟨t,T⟩:=T
  have e0:=hmg.symm.trans (PySem.W.mg_of KX G T.law)
  cases e0                                       -- fa is the law's own address
  exact ⟨_,fun s u=>.of_eq rfl,fun base kb nb=>My.law_fn T kb nb⟩     -- if «.of_eq rfl» comes too early: refine' ⟨_,?b,fun base kb nb=>My.law_fn T kb nb⟩; exact fun s u=>.of_eq rfl
 case S=>exact fun w H a ns hl hO hS=>..
 case C=>exact ..
(the tactic k_is has no namespace: write k_is) -/
namespace L2
open PySem PySem.Spec PyProof.Rows
def inClass (s:Stmt) (j:Nat):Stmt:=match s with
 | .ClassDef _ _ _ body _ _ _ _ _ _ _=>body.getD j (.Pass ⟨0,0,0,0⟩)
 | _=>.Pass ⟨0,0,0,0⟩
def defArgs (s:Stmt):Arguments:=match s with
 | .FunctionDef _ a _ _ _ _ _ _ _ _=>a
 | _=>{ posonlyargs:=[],args:=[],vararg:=none,kwonlyargs:=[],kw_defaults:=[],kwarg:=none,defaults:=[] }
def defBody (s:Stmt):List Stmt:=match s with
 | .FunctionDef _ _ b _ _ _ _ _ _ _=>b
 | _=>[]
def defScope (s:Stmt):Scope:=match s with
 | .FunctionDef _ _ _ _ _ _ sc _ _ _=>sc
 | _=>{ kind:=.function,names:=[],isGenerator:=false,isCoroutine:=false }
abbrev CX0:CXT:=fun _ _ _ _ _ _=>False
abbrev E0:XK:=fun _ _ _=>False
theorem pass0 {X:Cx}:Passes CX0 X E0:=fun _ _ _ _ _ _ _ h=>h.elim
structure Fun (K:PySem.W.Frag) (x qual:Str) (st:Stmt) (f:Addr) (fd:FuncData):Prop where
 ex:∃ (oc:Value) (od:Option Addr) (kV doc pm:Value) (an:Option Addr) (cdv ct:Value) (osl:Array (Option Value)),
  fd=PySem.W.fnOf x qual (defArgs st) (defBody st) (defScope st) .none kV doc pm an cdv ct∧K.lookup f=some ⟨oc,od,.func fd,osl⟩∧PySem.W.codeIn K cdv qual=true
 kp:PySem.W.keepIn K (.ref f)=true
section
variable {P:Program} {w:World} {K:PySem.W.Frag} {mg:Str→Option Value} {base:Heap}
theorem Fun.ok {x qual:Str} {st:Stmt} {f:Addr} {fd:FuncData} {N ps:List Str} {k:Nat} {sp:Sp} (F:Fun K x qual st f fd) (S:FnScope N ps (defScope st)) (len:∀ vs H Q E,sp vs H Q E→vs.length=ps.length)
  (hbody:∀ (cdv:Value) (A:Around) (outer:List Env) (s:Shared) (H:Hp) (vs:List V) (Q:VK) (E:XK),Room k (A.deeper (envOfC qual (defScope st) s.heap.objs.size f cdv))→sp vs H Q E →
   ∃ t,PSs (cxOf CX0 P w K mg base N qual (defScope st) f cdv A outer s H E).nox (defBody st) t∧t { nx:=fun _ H'=>Q .non H',rt:=Q } (start N vs) H):FnOk P w K mg base CX0 (k+1) f fd ps sp:=by
 obtain ⟨oc,od,kV,doc,pm,an,cdv,ct,osl,rfl,lk,hcd⟩:=F.ex
 refine fn_of lk hcd S len fun A outer s H vs Q E hr hsp=>?_
 obtain ⟨t,h,q⟩:=hbody cdv A outer s H vs Q E hr hsp
 exact ⟨t,h.nox,q⟩
theorem Fun.binds {x qual:Str} {st:Stmt} {f:Addr} {fd:FuncData} {ps:List Str} (F:Fun K x qual st f fd)
  (h:∀ (kV doc pm:Value) (an:Option Addr) (cdv ct:Value) (us:List Value),us.length=ps.length→bindArgs (PySem.W.fnOf x qual (defArgs st) (defBody st) (defScope st) .none kV doc pm an cdv ct) ⟨us,[]⟩=pure (ps.zip us)):Binds K fd ps []:=by
 obtain ⟨oc,od,kV,doc,pm,an,cdv,ct,osl,rfl,lk,hcd⟩:=F.ex
 exact .all (h kV doc pm an cdv ct)
theorem fun_mk {x qual:Str} {st:Stmt} {f:Addr} {oc:Value} {od an:Option Addr} {osl:Array (Option Value)} {kV doc pm cdv ct:Value} (l:K.lookup f=some ⟨oc,od,.func (PySem.W.fnOf x qual (defArgs st) (defBody st) (defScope st) .none kV doc pm an cdv ct),osl⟩)
  (c:PySem.W.codeIn K cdv qual=true) (k:PySem.W.keepIn K (.ref f)=true):Fun K x qual st f (PySem.W.fnOf x qual (defArgs st) (defBody st) (defScope st) .none kV doc pm an cdv ct):=⟨⟨oc,od,kV,doc,pm,an,cdv,ct,osl,rfl,l,c⟩,k⟩
end
theorem hu_of {A:Around} {k:Nat} (hr:Room k A):A.units+1<cLine:=Nat.lt_of_le_of_lt (Nat.add_le_add_left (by decide:1≤64) _) hr.units
theorem small1000 {n:Nat} (h:n≤1000):n<sizeLine:=Nat.lt_of_le_of_lt h (by decide)
section
variable {X:Cx}
theorem pv (i:Nat) {x:Str} {pos:Pos} (hN:X.N[i]?=some x:=by rfl) (hv:Vis X.env.scope x:=by first | exact Or.inl rfl | exact Or.inr (Or.inl rfl) | exact Or.inr (Or.inr rfl)) (hd:(x==("__debug__":Str))=false:=by decide)
  (hcd:(x==("__classdict__":Str))=false:=by decide):PE X (.Name x pos) (tVar i):=pe_var hN hv hd hcd
end
theorem iteF {A B:Prop} (h:B):if false=true then A else B:=by
 rw [if_neg Bool.false_ne_true]
 exact h
theorem iteT {A B:Prop} (h:A):if true=true then A else B:=by
 rw [if_pos rfl]
 exact h
theorem ite2 {c A B:Prop} [Decidable c] (h1:c→A) (h2:¬ c→B):if c then A else B:=by
 by_cases h:c
 ·rw [if_pos h]
  exact h1 h
 ·rw [if_neg h]
  exact h2 h
def Same (H H':Hp):Prop:=∀ b o,H b=some o→H' b=some o
theorem Same.refl (H:Hp):Same H H:=fun _ _ h=>h
theorem Same.trans {H H1 H2:Hp} (a:Same H H1) (b:Same H1 H2):Same H H2:=fun c o h=>b c o (a c o h)
theorem Same.free {H H':Hp} (e:Same H H') {l:Addr} (h:H' l=Option.none):H l=Option.none:=by
 cases q:H l with
 | none=>rfl
 | some o =>
  rw [e l o q] at h
  cases h
theorem Same.seq {K:PySem.W.Frag} {H H':Hp} {a:Addr} {xs:List V} (e:Same H H') (h:SqL K H a xs):SqL K H' a xs:=by
 rcases h with (h | ⟨o,h⟩) | h
 ·exact .inl (.inl (e _ _ h))
 ·exact .inl (.inr ⟨o,e _ _ h⟩)
 ·exact .inr h
end L2
set_option Elab.async false
set_option maxRecDepth 100000
namespace L2
open PySem PySem.Spec PyProof.Rows
def closOf (cells:List (Str×Addr)):List (Str×NameKind)→List (Str×Addr)→List (Str×Addr)
 | [],acc=>acc
 | (n,k)::r,acc=>closOf cells r (if k==.free then (n,(cells.lookup n).getD 0)::acc else acc)
theorem closureFor_of {scope:Scope} {env:Env} (h:∀ x∈scope.names,x.2=.free→∃ c,env.cells.lookup x.1=some c):closureFor scope env=pure (closOf env.cells scope.names []):=by
 unfold closureFor
 generalize hn:scope.names=names at h ⊢
 clear hn
 generalize ([]:List (Str×Addr))=acc
 induction names generalizing acc with
 | nil=>simp [closOf]
 | cons x r ih =>
  obtain ⟨n,k⟩:=x
  have ih':=fun a=>ih (fun x hx=>h x (List.mem_cons_of_mem _ hx)) a
  simp only [List.forIn_cons,bind_pure] at ih' ⊢
  by_cases hk:k=.free
  ·obtain ⟨c,hc⟩:=h (n,k) List.mem_cons_self hk
   subst hk
   have hcl:cellOf env n=pure c:=by simp only [cellOf,hc]
   simp only [beq_self_eq_true,if_true,hcl,hc,pure_bind,closOf,Option.getD_some]
   simpa using ih' _
  ·have hb:(k==NameKind.free)=false:=by simpa using hk
   simp only [hb,Bool.false_eq_true,if_false,pure_bind,closOf]
   simpa using ih' _
theorem closOf_look {cells:List (Str×Addr)} {y:Str} {c:Addr}:∀ {names:List (Str×NameKind)} {acc:List (Str×Addr)},(∀ x∈names,x.2=.free→∃ c,cells.lookup x.1=some c)→(acc.lookup y=some c→cells.lookup y=some c) →
  (closOf cells names acc).lookup y=some c→cells.lookup y=some c
 | [],_,_,ha,e=>ha e
 | (n,k)::r,acc,h,ha,e=>by
  unfold closOf at e
  refine closOf_look (names:=r) (fun x hx=>h x (List.mem_cons_of_mem _ hx)) (fun e'=>?_) e
  by_cases hk:k=.free
  ·obtain ⟨d,hd⟩:=h (n,k) List.mem_cons_self hk
   subst hk
   simp only [beq_self_eq_true,if_true,hd,Option.getD_some,List.lookup_cons] at e'
   cases q:y==n with
   | true =>
    rw [q] at e'
    have:y=n:=by simpa using q
    subst this
    exact hd.trans e'
   | false=>rw [q] at e'; exact ha e'
  ·have hb:(k==NameKind.free)=false:=by simpa using hk
   simp only [hb,Bool.false_eq_true,if_false] at e'
   exact ha e'
theorem closOf_has {cells:List (Str×Addr)} {y:Str}:∀ {names:List (Str×NameKind)} {acc:List (Str×Addr)},((y,NameKind.free)∈names∨∃ c,acc.lookup y=some c)→∃ c,(closOf cells names acc).lookup y=some c
 | [],_,h=>by simpa [closOf] using h
 | (n,k)::r,acc,h=>by
  unfold closOf
  refine closOf_has (names:=r) ?_
  rcases h with h | ⟨c,h⟩
  ·rcases List.mem_cons.mp h with e | e
   ·cases e
    right
    simp
   ·exact .inl e
  ·right
   by_cases hk:(k==NameKind.free)=true
   ·rw [if_pos hk,List.lookup_cons]
    cases y==n
    ·exact ⟨c,h⟩
    ·exact ⟨_,rfl⟩
   ·rw [if_neg hk]
    exact ⟨c,h⟩
end L2
set_option Elab.async false
set_option maxRecDepth 100000
namespace L2
open PySem PySem.Spec PyProof.Rows
def PTs (X:Cx) (ifs:List Expr) (t:TT):Prop :=
 ∀ (pins:List (Addr×Obj)) (s:Shared) (σ:St) (H:Hp) (Q:Bool→Hp→Prop),Inv X pins σ H s→t σ H Q →
  wpAny (model X.prog X.w) X.A (forIn ifs true fun c r=>if r=true then do let ok ← isTrue c X.env (eval c X.env); pure (ForInStep.yield ok) else pure (ForInStep.yield r)) (TP X pins σ Q) X.xe s
def tTrue:TT:=fun _ H Q=>Q true H
theorem pts_nil {X:Cx}:PTs X [] tTrue:=fun _ _ _ H _ I h=>wpAny_tests_nil ⟨H,I,h⟩
theorem pts_one {X:Cx} {c:Expr} {t:TT} (h:PT X c t):PTs X [c] t:=fun pins s σ H Q I hw=>wpAny_tests_one (h pins s σ H Q I hw)
def Cx.block (X:Cx) (scope:Scope) (N:List Str) (s:Shared) (H:Hp) (fp:List Addr):Cx where
 prog:=X.prog
 w:=X.w
 K:=X.K
 mg:=X.mg
 base:=X.base
 A:=X.A
 N:=N
 s₀:=s
 H₀:=H
 env:=compEnvC scope (closOf X.env.cells scope.names []) s.heap.objs.size X.env
 outer:=X.stack
 stack:=X.stack
 ex:=fp
 fn:=fun _=>false
 calm:=X.calm
 pn:=[]
 xe:=fun _ _=>False
def isCl:Option NameKind→Bool
 | some .cell=>true
 | some .free=>true
 | _=>false
theorem isCl_iff {k:Option NameKind} (h:isCl k=true):k=some .cell∨k=some .free:=by
 unfold isCl at h
 split at h
 ·exact .inl rfl
 ·exact .inr rfl
 ·cases h
structure CompOk (X:Cx) (scope:Scope) (N:List Str) (cap:List (Option Nat)):Prop where
 kind:scope.kind=.function
 nocell:(scope.names.all fun y=>!(y.2==.cell))=true
 loc:(scope.names.all fun y=>!(y.2==.local)||(scope.names.lookup y.1==some .local))=true
 fre:(scope.names.all fun y=>!(y.2==.free)||isCl (X.env.kindOf y.1))=true
 len:cap.length=N.length
 cap:((cap.zip N).all fun p=>match p.1 with | none=>true | some j=>(X.N[j]?==some p.2)&&isCl (X.env.kindOf p.2)&&isCl ((relabel scope X.env).names.lookup p.2))=true
def capS (cap:List (Option Nat)) (σ:St):St:=cap.map fun o=>match o with | none=>none | some j=>(σ[j]?).join
section
variable {X:Cx} {pins:List (Addr×Obj)} {σ:St} {H:Hp} {s:Shared} {fp:List Addr} {scope:Scope} {N:List Str} {cap:List (Option Nat)}
theorem CompOk.freeH (c:CompOk X scope N cap) (ok:X.Ok):∀ x∈scope.names,x.2=.free→∃ a,X.env.cells.lookup x.1=some a:=fun x hx hf=>by
 have:=List.all_eq_true.mp c.fre x hx
 rw [hf] at this
 simp only [beq_self_eq_true,Bool.not_true,Bool.false_or] at this
 exact ok.has x.1 (isCl_iff this)
theorem relabel_look {scope:Scope} {env:Env} {y:Str} (h:(relabel scope env).names.lookup y=some .cell∨(relabel scope env).names.lookup y=some .free) (nc:∀ z∈scope.names,z.2≠.cell):(y,NameKind.free)∈scope.names:=by
 unfold relabel at h
 dsimp only at h
 generalize scope.names=names at h nc
 induction names with
 | nil=>simp at h
 | cons z r ih =>
  obtain ⟨n,k⟩:=z
  have nc':∀ z∈r,z.2≠.cell:=fun z hz=>nc z (List.mem_cons_of_mem _ hz)
  rw [List.map_cons,List.lookup_cons] at h
  have nck:=nc (n,k) List.mem_cons_self
  dsimp only at h nck
  by_cases hc:(k==NameKind.free&&env.scope.kind==.function&&env.kindOf n==some .cell)=true
  ·rw [if_pos hc] at h
   dsimp only at h
   have hk:k=.free:=by
    simp only [Bool.and_eq_true,beq_iff_eq] at hc
    exact hc.1.1
   cases q:y==n with
   | true=>rw [show y=n from by simpa using q,hk]; exact List.mem_cons_self
   | false=>rw [q] at h; exact List.mem_cons_of_mem _ (ih h nc')
  ·rw [if_neg hc] at h
   dsimp only at h
   cases q:y==n with
   | true =>
    rw [q] at h
    rcases h with h | h
    ·cases h; exact absurd rfl nck
    ·cases h; rw [show y=n from by simpa using q]; exact List.mem_cons_self
   | false=>rw [q] at h; exact List.mem_cons_of_mem _ (ih h nc')
theorem CompOk.nc (c:CompOk X scope N cap):∀ z∈scope.names,z.2≠.cell:=fun z hz e=>by
 have:=List.all_eq_true.mp c.nocell z hz
 rw [e] at this
 exact absurd this (by decide)
theorem CompOk.lc (c:CompOk X scope N cap):∀ x∈scope.names,x.2=.local→scope.names.lookup x.1=some .local:=fun x hx e=>by
 have:=List.all_eq_true.mp c.loc x hx
 rw [e] at this
 simpa using this
theorem block_ok (c:CompOk X scope N cap) (I:Inv X pins σ H s) (hf:∀ b∈fp,FpOk X pins H b) (hlt:∀ b∈fp,b<s.heap.objs.size):(X.block scope N s H fp).Ok:=by
 have lk:∀ {y:Str} {a:Addr},(closOf X.env.cells scope.names []).lookup y=some a→X.env.cells.lookup y=some a:=fun e=>closOf_look (c.freeH I.ok) (fun z=>by simp at z) e
 refine ⟨I.ok.mod,c.kind,I.ok.glob,I.ok.blt,Nat.le_refl _,fun x y a h1 h2=>I.ok.inj x y a (lk h1) (lk h2),fun x hx=>closOf_has (.inl (relabel_look hx c.nc)),fun x a h=>absurd h (by simp [Cx.block]),I.ok.hd,I.ok.frames,.inl rfl,fun b hb=>⟨?_,fun x a h=>(hf b hb).2.2.2.2.1 x a (lk h)⟩,I.bs,Nat.le_trans I.ok.bsz I.sz,fun b o e hb=>?_,fun b hb z=>?_,I.stack,I.stkFree⟩
 ·exact Nat.ne_of_lt (hlt b hb)
 ·rcases (hf b hb).2.2.2.1 with z | z
  ·exact I.ok.noex b o e z
  ·exact absurd (Nat.lt_of_lt_of_le (Heap.lt_size (I.ok.bs b o e).1) z) (Nat.lt_irrefl _)
 ·rcases List.mem_cons.mp (I.stkSub b z) with e | e
  ·exact (hf b hb).2.1 e
  ·exact (hf b hb).2.2.1 e
theorem capS_get {i:Nat} {v:V} (h:(capS cap σ)[i]?=some (some v)):∃ j,cap[i]?=some (some j)∧σ[j]?=some (some v):=by
 unfold capS at h
 rw [List.getElem?_map] at h
 cases q:cap[i]? with
 | none=>rw [q] at h; cases h
 | some o =>
  rw [q] at h
  cases o with
  | none => cases h
  | some j =>
   refine ⟨j,rfl,?_⟩
   have h':(σ[j]?).join=some v:=Option.some.inj h
   cases q2:σ[j]? with
   | none=>rw [q2] at h'; cases h'
   | some o =>
    rw [q2] at h'
    have:o=some v:=h'
    rw [this]
theorem block_inv (c:CompOk X scope N cap) (I:Inv X pins σ H s) (hf:∀ b∈fp,FpOk X pins H b) (hlt:∀ b∈fp,b<s.heap.objs.size) {h1:Heap} {t1:Nat} (hns:h1.Ns s.heap.objs.size (fun x=>([]:List (Str×Value)).reverse.lookup x))
  (hsb:Heap.SameBut s.heap.objs.size (s.heap.push { cls:=.type (if (some X.env:Option Env).isSome then "dict" else "frame"),data:=.dict #[] }) h1):Inv (X.block scope N s H fp) [] (capS cap σ) H { s with heap:=h1,toks:=t1 }:=by
 have lk:∀ {y:Str} {a:Addr},(closOf X.env.cells scope.names []).lookup y=some a→X.env.cells.lookup y=some a:=fun e=>closOf_look (c.freeH I.ok) (fun z=>by simp at z) e
 have keep:∀ b o,s.heap.get? b=some o→h1.get? b=some o:=fun b o e=>(hsb.2 b (Nat.ne_of_lt (Heap.lt_size e))).trans (Heap.get?_push_of_some _ e)
 have cellK:∀ {a:Addr} {v:Option Value},s.heap.IsCell a v→h1.IsCell a v:=fun ⟨o,e,d⟩=>⟨o,keep _ _ e,d⟩
 refine ⟨block_ok c I hf hlt,rfl,I.bare,Un.kept keep,⟨_,hns,fun i x v h1 h2 h3=>?_⟩,fun x a e=>?_,I.hok.fresh (Nat.le_refl _),fun x a e=>I.freeC x a (lk e),fun p hp=>absurd (show p∈([]:List (Addr×Obj)) from hp) (by simp),I.hok.kept keep,?_⟩
 ·obtain ⟨j,hc,hs⟩:=capS_get h2
  have hN:N[i]?=some x:=h1
  have hz:(cap.zip N)[i]?=some (some j,x):=by rw [List.getElem?_zip_eq_some]; exact ⟨hc,hN⟩
  have:=List.all_eq_true.mp c.cap _ (List.mem_of_getElem? hz)
  simp only [Bool.and_eq_true,beq_iff_eq] at this
  obtain ⟨⟨e1,e2⟩,e3⟩:=this
  obtain ⟨m,hn,hl⟩:=I.loc
  have hk:=isCl_iff e2
  obtain ⟨u,r,l⟩:=hl j x v e1 hs (by rcases hk with z | z; exact .inr (.inl z); exact .inr (.inr z))
  refine ⟨u,r,?_⟩
  rcases l with ⟨l,_⟩ | ⟨_,a,ea,ca⟩
  ·rw [l] at hk; rcases hk with z | z<;>cases z
  ·have hk':=isCl_iff e3
   obtain ⟨a',ha'⟩:=closOf_has (cells:=X.env.cells) (acc:=[]) (.inl (relabel_look hk' c.nc))
   have:a'=a:=Option.some.inj ((lk ha').symm.trans ea)
   subst this
   exact .inr ⟨hk',a',ha',cellK ca⟩
 ·obtain ⟨v,hv⟩:=I.cell x a (lk e)
  exact ⟨v,cellK hv⟩
 ·unfold capS
  rw [List.length_map]
  exact c.len
end
end L2
set_option Elab.async false
set_option maxRecDepth 100000
namespace L2
open PySem PySem.Spec PyProof.Rows
theorem compLoop_go {prog:Program} {w:World} {A:Around} {R:Result→Shared→Prop} {s:Shared} {elt target iter:Expr} {ifs:List Expr} {scope:Scope} {pos:Pos} {it acc:Value} {env:Env} (J:Nat→Shared→Prop)
    (turn:∀ n s,J n s→wpAny (model prog w) A (pyNext it) (fun r s₁=>match r with
      | none=>R (.ok .next) s₁
      | some v=>wpAny (model prog w) A (letOwnedTupleGo target it v) (fun _ s₀=>wpAny (model prog w) A (assign target env v) (fun _ s₂ =>
          wpAny (model prog w) A (forIn ifs true fun c r=>if r=true then do let ok ← isTrue c env (eval c env); pure (ForInStep.yield ok) else pure (ForInStep.yield r)) (fun ok s₃ =>
            if ok=true then wpAny (model prog w) A (eval elt env) (fun x s₄ =>
              wpAny (model prog w) A (call (.builtin "list.append") [acc,x]) (fun _ s₅=>∃ m,m<n∧J m s₅) (fun _ _=>False) s₄) (fun _ _=>False) s₃
            else ∃ m,m<n∧J m s₃) (fun _ _=>False) s₂) (fun _ _=>False) s₀) (fun _ _=>False) s₁) (fun _ _=>False) s)
    (n:Nat) (h:J n s) :
    codeAny (model prog w) A (.compLoop (.ListComp elt [⟨target,iter,ifs,0⟩] scope pos) 0 it acc env) R s:=by
  refine codeAny_loop rfl J (fun n s hI=>?_) n h
  show wpAny _ A ((compTurn (.ListComp elt [⟨target,iter,ifs,0⟩] scope pos) 0 it acc env).onRaise (fun x=>do noteFrame x env; theTreesLotGoes x)) _ _ s
  refine wpAny_noted ?_
  rw [compTurn_list]
  refine wpAny_bind (wpAny_standAt (wpAny_bind (wpAny_mono (turn n s hI) (fun r s₁ h₁=>?_) fun _ _ h'=>h'.elim)))
  cases r with
  | none => exact wpAny_pure h₁
  | some v =>
    refine wpAny_bind (wpAny_mono h₁ (fun _ s₀ h₀=>?_) fun _ _ h'=>h'.elim)
    refine wpAny_bind (wpAny_mono h₀ (fun _ s₂ h₂=>wpAny_bind (wpAny_mono h₂ (fun ok s₃ h₃=>?_) fun _ _ h'=>h'.elim)) fun _ _ h'=>h'.elim)
    cases ok with
    | false=>exact wpAny_pure ⟨rfl,h₃⟩
    | true =>
      exact wpAny_bind (wpAny_bind (wpAny_mono h₃ (fun x s₄ h₄=>wpAny_bind (wpAny_mono h₄ (fun _ s₅ h₅=>wpAny_pure (wpAny_pure ⟨rfl,h₅⟩)) fun _ _ h'=>h'.elim)) fun _ _ h'=>h'.elim))
def tComp (wi:TI) (g:TG) (tt:TT) (te:TE) (cap:List (Option Nat)):TE:=fun σ H Q=>wi σ H fun J H1=>∀ l,H1 l=none →
 ∃ (n:Nat) (Pv:Nat→List V→St→Hp→Prop),Pv 0 [] (capS cap σ) (upd H1 l (.lst [])) ∧
  (∀ i ys σ' H',i<n→Pv i ys σ' H'→J.go i H'∧∀ x H2,J.yld i H' x H2→g x σ' H2 fun σ3 H3=>tt σ3 H3 fun b H4 =>
   if b=true then te σ3 H4 fun y H5=>H5 l=some (.lst ys)∧ys.length<sizeLine∧Pv (i+1) (ys++[y]) σ3 (upd H5 l (.lst (ys++[y]))) else Pv (i+1) ys σ3 H4) ∧
  ∀ ys σ' H',Pv n ys σ' H'→J.stop n H'∧Q (.ref l) H'
section
variable {X:Cx} {elt tg iter:Expr} {ifs:List Expr} {scope:Scope} {pos:Pos} {N:List Str} {cap:List (Option Nat)} {wi:TI} {g:TG} {tt:TT} {te:TE}
theorem comp_run {U:Value→Addr→Shared→Prop} (hc:X.calm=true) (c:CompOk X scope N cap) (hi:PI X tg iter wi) (hg:∀ s H fp,PG (X.block scope N s H fp) tg g) (ht:∀ s H fp,PTs (X.block scope N s H fp) ifs tt)
    (he:∀ s H fp,PE (X.block scope N s H fp) elt te)
    {pins:List (Addr×Obj)} {s:Shared} {σ:St} {H:Hp} {Q:VK} (I:Inv X pins σ H s) (h:tComp wi g tt te cap σ H Q)
    (hU:∀ (l C:Addr) (H':Hp) (s':Shared),Inv X pins σ H' s'→(∃ m,s'.heap.Ns C m)→FpOk X pins H' C→Q (.ref l) H'→U (.ref l) C s')
    {RR:Value→Addr→Result→Shared→Prop} (hRR:∀ a C s',U a C s'→RR a C (.ok .next) s') :
    wpAny (model X.prog X.w) X.A (eval iter X.env) (fun x s₁=>wpAny (model X.prog X.w) X.A (pyIter x) (fun it s₂=>wpAny (model X.prog X.w) X.A (newList []) (fun acc s₃ =>
      wpAny (model X.prog X.w) X.A (newFunctionEnv scope X.env.globals (closOf X.env.cells scope.names []) [] X.env.qual none .none (some X.env)) (fun cenv s₄ =>
        codeAny (model X.prog X.w) X.A (.compStart (.ListComp elt [⟨tg,iter,ifs,0⟩] scope pos) 0 it acc { cenv with scope:=relabel scope X.env }) (RR acc cenv.locals) s₄) X.xe s₃) X.xe s₂) X.xe s₁) X.xe s:=by
  refine thn (hi pins s σ H _ I h) fun v s1 h1=>thn h1 fun itv s2 h2=>?_
  obtain ⟨it,fp,tn,J,H2,e,I2,T,st2,f2,hq⟩:=h2
  subst e
  have hl:H2 s2.heap.objs.size=none:=I2.hok.fresh (Nat.le_refl _)
  obtain ⟨n,Pv,p0,step,fin⟩:=hq _ hl
  refine wpAny_newObj_type ?_ (by show 0≤sizeLine; exact Nat.zero_le _)
  have I3:Inv X pins σ (upd H2 s2.heap.objs.size (.lst [])) { s2 with heap:=s2.heap.push { cls:=.type "list",data:=.seq ([]:List Value).toArray } } :=
    I2.laid (t':=s2.toks) (fun b u e=>Heap.get?_push_of_some _ e) (Nat.le_refl _) ⟨Nat.zero_le _,[],_,.nil,Heap.get?_push_size _ rfl⟩
  generalize hs3:({ s2 with heap:=s2.heap.push { cls:=.type "list",data:=.seq ([]:List Value).toArray } }:Shared)=s3 at I3 ⊢
  have k23:∀ b o,s2.heap.get? b=some o→s3.heap.get? b=some o:=fun b o e=>by rw [← hs3]; exact Heap.get?_push_of_some _ e
  have fplt2:∀ b∈fp,b<s2.heap.objs.size:=fun b hb=>let ⟨o,e,_⟩:=T.obj _ _ st2 b hb; Heap.lt_size e
  have sz23:s2.heap.objs.size≤s3.heap.objs.size:=by rw [← hs3]; show _≤(s2.heap.push _).objs.size; rw [Heap.size_push]; exact Nat.le_succ _
  have fplt:∀ b∈fp,b<s3.heap.objs.size:=fun b hb=>Nat.lt_of_lt_of_le (fplt2 b hb) sz23
  have f3:∀ b∈fp,FpOk X pins (upd H2 s2.heap.objs.size (.lst [])) b:=fun b hb=>⟨by rw [upd_ne (Nat.ne_of_lt (fplt2 b hb))]; exact (f2 b hb).1,(f2 b hb).2⟩
  have st3:tn 0 s3.heap:=T.keep _ _ _ st2 fun b hb o e=>k23 b o e
  refine wpAny_newFunctionEnv c.nc (by intro y hy; simp at hy) (fun h4 hns hsb=>?_) c.kind
  have I4:=block_inv (t1:=s3.toks+([]:List (Str×Value)).length) c I3 f3 fplt hns hsb
  have st4:tn 0 h4:=T.keep _ _ _ st3 fun b hb o e=>(hsb.2 b (Nat.ne_of_lt (fplt b hb))).trans (Heap.get?_push_of_some _ e)
  generalize hY:X.block scope N s3 (upd H2 s2.heap.objs.size (.lst [])) fp=Y at I4
  have yP:Y.prog=X.prog:=by rw [← hY]; rfl
  have yw:Y.w=X.w:=by rw [← hY]; rfl
  have yK:Y.K=X.K:=by rw [← hY]; rfl
  have yA:Y.A=X.A:=by rw [← hY]; rfl
  have yx:Y.xe=fun _ _=>False:=by rw [← hY]; rfl
  have yc:Y.calm=true:=by rw [← hY]; exact hc
  have yex:Y.ex=fp:=by rw [← hY]; rfl
  have yfs:Y.fs=frs X.stack:=by rw [← hY]; rfl
  have yH:Y.H₀=upd H2 s2.heap.objs.size (.lst []):=by rw [← hY]; rfl
  have ys:Y.s₀=s3:=by rw [← hY]; rfl
  have yC:Y.env.locals=s3.heap.objs.size:=by rw [← hY]; rfl
  have yenv:compEnvC scope (closOf X.env.cells scope.names []) s3.heap.objs.size X.env=Y.env:=by rw [← hY]; rfl
  have yg:=hg s3 (upd H2 s2.heap.objs.size (.lst [])) fp
  have yt:=ht s3 (upd H2 s2.heap.objs.size (.lst [])) fp
  have ye:=he s3 (upd H2 s2.heap.objs.size (.lst [])) fp
  have ypn:Y.pn=[]:=by rw [← hY]; rfl
  have ycl:Y.env.cells=closOf X.env.cells scope.names []:=by rw [← hY]; rfl
  rw [hY] at yg yt ye
  have lk:∀ {y:Str} {a:Addr},Y.env.cells.lookup y=some a→X.env.cells.lookup y=some a:=fun e=>by rw [ycl] at e; exact closOf_look (c.freeH I.ok) (fun z=>by simp at z) e
  have stat:∀ {H':Hp},(∀ b∈fp,H' b=none)→∀ b∈fp,FpOk Y [] H' b:=fun hn b hb=>by
    refine ⟨hn b hb,by rw [yC]; exact Nat.ne_of_lt (fplt b hb),?_,.inl (by rw [yex]; exact hb),fun x a e=>(f2 b hb).2.2.2.2.1 x a (lk e),fun p hp=>?_⟩
    · rw [yfs]
      intro z
      rcases List.mem_cons.mp (I2.stkSub b z) with e | e
      · exact (f2 b hb).2.1 e
      · exact (f2 b hb).2.2.1 e
    · rw [ypn] at hp
      exact absurd hp (by simp)
  -- the end
  have done:∀ {σ':St} {H':Hp} {s':Shared},Inv Y [] σ' H' s'→Q (.ref s2.heap.objs.size) H'→U (.ref s2.heap.objs.size) s3.heap.objs.size s':=fun {σ' H' s'} J' q=>by
    have un:=J'.base
    rw [yfs,yex,yH,ys] at un
    have J3:=I3.call' (s':=s') (ch:=fp) (by rw [J'.os,ys]) un (by have:=J'.hok; rw [yP,yw] at this; exact this) J'.bare fun b hb=>⟨(f3 b hb).2.2.2.1,(f3 b hb).2.1,(f3 b hb).2.2.2.2.1,(f3 b hb).2.2.2.2.2⟩
    have hCn:H' s3.heap.objs.size=none:=by have:=J'.free; rw [yC] at this; exact this
    have hne:s3.heap.objs.size≠X.env.locals:=Nat.ne_of_gt I3.lt
    have hcl:∀ x a,X.env.cells.lookup x=some a→a≠s3.heap.objs.size:=fun x a e=>let ⟨_,o,ho,_⟩:=I3.cell x a e; Nat.ne_of_lt (Heap.lt_size ho)
    have hpn:∀ p∈X.pn++pins,p.1≠s3.heap.objs.size:=fun p hp=>Nat.ne_of_lt (Heap.lt_size (I3.pin p hp).1)
    obtain ⟨m,hn,_⟩:=J'.loc
    rw [yC] at hn
    exact hU _ _ H' s' J3 ⟨m,hn⟩ ⟨hCn,hne,I3.nofs (Nat.le_refl _),.inr I3.sz,hcl,hpn⟩ q
  have loop:∀ s5:Shared,s5={ s3 with heap:=h4,toks:=s3.toks+([]:List (Str×Value)).length } →
      codeAny (model X.prog X.w) X.A (.compLoop (.ListComp elt [⟨tg,iter,ifs,0⟩] scope pos) 0 (.ref it) (.ref s2.heap.objs.size) Y.env) (RR (.ref s2.heap.objs.size) s3.heap.objs.size) s5:=by
    rintro s5 rfl
    refine compLoop_go (fun k s'=>∃ i ys σ' H',Inv Y [] σ' H' s'∧tn i s'.heap∧(∀ b∈fp,H' b=none)∧i≤n∧k=n - i∧Pv i ys σ' H') ?_ n ⟨0,[],_,_,I4,st4,fun b hb=>(f3 b hb).1,Nat.zero_le _,rfl,p0⟩
    rintro k s6 ⟨i,zs,σ6,H6,I6,st6,fr6,hin,rfl,pv6⟩
    by_cases hlt:i<n
    · obtain ⟨go,stp⟩:=step i zs σ6 H6 hlt pv6
      have q:=T.item Y yP yw yK yc i [] s6 σ6 H6 (fun _ _=>False) I6 (stat fr6) st6 go
      rw [yA] at q
      refine thn q fun r s7 ⟨u,hr,h7⟩=>?_
      subst hr
      refine thn h7 fun _ s8 ⟨x,H8,I8,r8,y8,st8,fr8⟩=>?_
      have I8':=I8.pinned (stat fr8) (T.obj _ _ st8)
      have q:=yg _ s8 σ6 H8 x u _ I8' r8 (stp x H8 y8)
      rw [yP,yw,yA,yx] at q
      refine thn q fun _ s9 ⟨σ9,H9,I9,q9⟩=>?_
      have q:=yt _ s9 σ9 H9 _ I9 q9
      rw [yP,yw,yA,yx] at q
      refine thn q fun b s10 ⟨H10,I10,q10⟩=>?_
      have again:∀ {ws:List V} {σ':St} {H':Hp} {s':Shared},Inv Y ([]++pinsAt fp s8.heap) σ' H' s'→Pv (i+1) ws σ' H'→∃ m,m<n - i∧∃ i ys σ' H',Inv Y [] σ' H' s'∧tn i s'.heap∧(∀ b∈fp,H' b=none)∧i≤n∧m=n - i∧Pv i ys σ' H':=fun {ws σ' H' s'} J' p'=>by
        refine ⟨n - (i+1),by omega,i+1,ws,σ',H',J'.unpinned,T.keep _ _ _ st8 fun b hb o e=>(J'.pin (b,o) (List.mem_append_right _ (List.mem_append_right _ (mem_pinsAt hb e)))).1,fun b hb=>?_,hlt,rfl,p'⟩
        obtain ⟨o,e,d⟩:=T.obj _ _ st8 b hb
        exact (J'.pin (b,o) (List.mem_append_right _ (List.mem_append_right _ (mem_pinsAt hb e)))).2.1
      cases b with
      | false=>exact again I10 q10
      | true =>
        have q10:=(if_pos (α:=Prop) rfl).mp q10
        have q:=ye _ s10 σ9 H10 _ I10 q10
        rw [yP,yw,yA,yx] at q
        refine iteT ?_
        refine thn q fun xv s11 ⟨y,H11,I11,r11,hl11,hz,p11⟩=>?_
        have q:=mt_append (X:=Y) _ s11 σ9 H11 (.ref s2.heap.objs.size) [y] _ [xv] (fun _ H'=>Pv (i+1) (zs++[y]) σ9 H') I11 rfl (.cons r11 .nil) ⟨_,_,_,rfl,rfl,hl11,hz,p11⟩
        rw [yP,yw,yA,yx] at q
        exact thn q fun _ s12 ⟨_,H12,I12,_,p12⟩=>again I12 p12
    · have e:i=n:=by omega
      subst e
      obtain ⟨stop,q⟩:=fin zs σ6 H6 pv6
      have qd:=T.done Y yP yw yK yc i [] s6 σ6 H6 (fun _ _=>False) I6 (stat fr6) st6 stop
      rw [yA] at qd
      refine thn qd fun r s7 ⟨hr,I7⟩=>?_
      subst hr
      exact hRR _ _ _ (done I7 q)
  show codeAny _ _ (.compStart _ 0 (.ref it) _ (compEnvC scope (closOf X.env.cells scope.names []) s3.heap.objs.size X.env)) (RR (.ref s2.heap.objs.size) s3.heap.objs.size) _
  rw [yenv]
  exact codeAny_compStart_list (loop _ rfl) (T.self X.A 0 _ _ _ st4 (loop _ rfl))
theorem FpOk.turned {pins:List (Addr×Obj)} {σ:St} {H:Hp} {s:Shared} {C:Addr} {h':Heap} (f:FpOk X pins H C) (I:Inv X pins σ H s) (sb:Heap.SameBut C s.heap h'):Inv X pins σ H { s with heap:=h' } :=
 I.turned (t':=s.toks) (fun b o hb e=>(sb.2 b hb).trans e) f.1 f.2.1 f.2.2.2.1 f.2.2.2.2.1 f.2.2.2.2.2
theorem pe_comp (hc:X.calm=true) (c:CompOk X scope N cap) (hi:PI X tg iter wi) (hg:∀ s H fp,PG (X.block scope N s H fp) tg g) (ht:∀ s H fp,PTs (X.block scope N s H fp) ifs tt)
  (he:∀ s H fp,PE (X.block scope N s H fp) elt te) (hs:∀ x,foldedSetIterable iter X.env x=pure x:=by intro _; rfl):PE X (.ListComp elt [⟨tg,iter,ifs,0⟩] scope pos) (tComp wi g tt te cap):=by
 intro pins s σ H Q I h
 rw [eval_ListComp]
 refine wpAny_comprehension_free rfl hs (closureFor_of (c.freeH I.ok)) c.kind c.lc ?_
 exact comp_run (U:=fun a C s'=>∃ m,s'.heap.Ns C m∧∀ h',Heap.SameBut C s'.heap h'→EP X pins σ Q a { s' with heap:=h' }) hc c hi hg ht he I h
  (fun l C H' s' I' ⟨m,hn⟩ f q=>⟨m,hn,fun h' sb=>⟨.ref l,H',f.turned I' sb,rfl,q⟩⟩) fun a C s' u=>u
theorem ps_setC {i:Nat} {x:Str} {pos' pos2:Pos} (hN:X.N.Nodup) (hi':X.N[i]?=some x) (hx:Loc X.env.scope x) (hc:X.calm=true) (c:CompOk X scope N cap) (hi:PI X tg iter wi) (hg:∀ s H fp,PG (X.block scope N s H fp) tg g) (ht:∀ s H fp,PTs (X.block scope N s H fp) ifs tt)
  (he:∀ s H fp,PE (X.block scope N s H fp) elt te) (hsw:swapsWith (.ListComp elt [⟨tg,iter,ifs,0⟩] scope pos) (some (.Name x pos')) pos2.line X.env=pure true) (hs:∀ x,foldedSetIterable iter X.env x=pure x:=by intro _; rfl)
  (hf:X.fn x=true∨X.env.scope.names.lookup x=some .local:=by first | exact .inl rfl | exact .inr rfl | assumption):PS X (.Assign [.Name x pos'] (.ListComp elt [⟨tg,iter,ifs,0⟩] scope pos) pos2) (tAsg (tComp wi g tt te cap) (gName i)):=by
 intro pins s σ H D I h
 rw [exec_Assign_Name_used _ _ _ _ hsw]
 refine wpAny_bind (wpAny_standAt (wpAny_bind ?_))
 show wpAny _ X.A (do let _ ← comprehension (.ListComp elt [⟨tg,iter,ifs,0⟩] scope pos) scope X.env _ (newList []) false (eval iter X.env) (some (assign (.Name x pos') X.env))) _ _ s
 refine wpAny_bind (wpAny_mono (wpAny_comprehension_free (Q:=fun _ s'=>SP X pins D .next s') rfl hs (closureFor_of (c.freeH I.ok)) c.kind c.lc ?_) (fun _ s' hq=>wpAny_pure (wpAny_pure hq)) fun _ _ e=>e)
 refine comp_run (U:=fun a C s'=>wpAny (model X.prog X.w) X.A (assign (.Name x pos') X.env a) (fun _ s''=>∃ m,s''.heap.Ns C m∧∀ h',Heap.SameBut C s''.heap h'→SP X pins D .next { s'' with heap:=h' }) X.xe s') hc c hi hg ht he I h ?_ fun a C s' u=>u
 intro l C H' s' I' hn f q
 obtain ⟨m,o,es,ep,ho,hd,r⟩:=hn
 have I2:Inv X (pins++[(C,o)]) σ H' s':=I'.pins_of fun p hp=>by
  rcases List.mem_append.mp hp with z | z
  ·exact I'.pin p (List.mem_append_right _ z)
  ·have e:p=(C,o):=by simpa using z
   subst e
   exact ⟨ho,f.1,f.2.1,f.2.2.1,fun v z=>by rw [hd] at z; cases z⟩
 refine wpAny_assign_Name (store_ok I2 hN hi' hx (v:=.ref l) rfl (fun s2 I3=>?_) hf)
 have pc:=(I3.pin (C,o) (List.mem_append_right _ (List.mem_append_right _ List.mem_cons_self))).1
 exact ⟨m,⟨o,es,ep,pc,hd,r⟩,fun h' sb=>⟨_,H',f.turned I3.unpinned sb,q⟩⟩
end
end L2
set_option Elab.async false
set_option maxRecDepth 100000
namespace L2
open PySem PySem.Spec PyProof.Rows
section
variable {X:Cx}
theorem call_isinst:CallR X (.builtin "isinstance") (fun xs H Q=>∃ x n t b,xs=[x,.ty n]∧TyOf X.K H x t∧PySem.W.kitOne X.K t (.type n)=some b∧Q (.bl b) H):=by
 intro pins s σ H xs us Q I r h
 obtain ⟨x,n,t,b,rfl,ty,e,q⟩:=h
 obtain ⟨u,v,rfl,ru,rv⟩:=r.two
 cases (show v=Value.type n from rv)
 exact isinst_ok I ru ty e fun tk=>⟨.bl b,H,I.tok tk,rfl,q⟩
theorem in1_hd {A:Around} (h:A.handled=none):A.in1.handled=none:=h
theorem vals_getD {its:List Value} {bs:List Bool} (r:Vals (bs.map V.bl) its) {i:Nat} {v:Value} (e:its[i]?=some v):v=.bool (bs.getD i false):=by
 have hl:=r.length
 rw [List.length_map] at hl
 have hi:i<its.length:=(List.getElem?_eq_some_iff.mp e).1
 have hb:(bs.map V.bl)[i]?=some (V.bl (bs.getD i false)):=by
  rw [List.getElem?_map,List.getD_eq_getElem?_getD,List.getElem?_eq_getElem (by omega)]
  rfl
 obtain ⟨u,hu,ru⟩:=r.get hb
 rw [e] at hu
 cases hu
 exact ru
theorem range_all (bs:List Bool):(List.range bs.length).all (fun i=>bs.getD i false)=bs.all id:=by
 rw [Bool.eq_iff_iff]
 simp only [List.all_eq_true,List.mem_range,id]
 constructor
 ·intro h b hb
  obtain ⟨i,hi,rfl⟩:=List.mem_iff_getElem.mp hb
  have:=h i hi
  rwa [List.getD_eq_getElem?_getD,List.getElem?_eq_getElem hi] at this
 ·intro h i hi
  rw [List.getD_eq_getElem?_getD,List.getElem?_eq_getElem hi]
  exact h _ (List.getElem_mem hi)
theorem call_all_bl (hc:X.calm=true):CallR X (.builtin "all") (fun xs H Q=>∃ (p:Addr) (bs:List Bool),xs=[.ref p]∧SqL X.K H p (bs.map V.bl)∧Q (.bl (bs.all id)) H):=by
 intro pins s σ H xs us Q I r h
 obtain ⟨p,bs,rfl,hp,q⟩:=h
 obtain ⟨u,rfl,ru⟩:=r.one
 cases (show u=Value.ref p from ru)
 obtain ⟨its,rv,pl,hz⟩:=I.list hp
 have hh:=in1_hd (I.ok.hd hc)
 have hlt:p<s.heap.objs.size:=let ⟨o,ho,_⟩:=pl.isList; Heap.lt_size ho
 refine call_all_walk (wpAny_pyIter_list pl.isList ?_)
 refine ⟨s.heap.objs.size,_,_,_,_,_,fun i=>bs.getD i false,rfl,Walks.list hh s.heap.objs.size p (Nat.ne_of_lt hlt) its.toArray,⟨⟨_,Heap.get?_push_size _ rfl,rfl,rfl⟩,pl.isList.push _⟩,fun i v s' Q' E' hP hQ=>?_,fun h' tk hk=>?_⟩
 ·have:=vals_getD rv (i:=i) (v:=v) (by simpa using hP)
  subst this
  exact wpAny_truthy_bool hQ
 ·have hl:=rv.length
  rw [List.length_map] at hl
  refine ⟨.bl (bs.all id),H,I.kept (h':=h') (t':=tk) fun b o e=>hk b o (by simpa using Nat.ne_of_lt (Heap.lt_size e)) (Heap.get?_push_of_some _ e),?_,q⟩
  show _=_
  rw [List.size_toArray,← hl,range_all]
end
end L2
set_option Elab.async false
set_option maxRecDepth 100000
namespace L2
open PySem PySem.Spec PyProof.Rows
mutual
def Rep (H:Hp):PyData→V→Prop
 | .none,v=>v=.non
 | .bool b,v=>v=.bl b
 | .int i,v=>v=.int i
 | .str x,v=>v=.str x
 | .list ds,v=>∃ a xs,v=.ref a∧H a=some (.lst xs)∧RepL H ds xs
 | .tuple ds,v=>∃ a xs,v=.ref a∧H a=some (.tup xs)∧RepL H ds xs
 | .dict _,_=>False
def RepL (H:Hp):List PyData→List V→Prop
 | [],xs=>xs=[]
 | d::ds,xs=>∃ x r,xs=x::r∧Rep H d x∧RepL H ds r
end
mutual
theorem Rep.mono {H H':Hp} (s:Same H H'):∀ {d:PyData} {v:V},Rep H d v→Rep H' d v
 | .none,_,h=>by simpa [Rep] using h
 | .bool _,_,h=>by simpa [Rep] using h
 | .int _,_,h=>by simpa [Rep] using h
 | .str _,_,h=>by simpa [Rep] using h
 | .list ds,_,h=>by
  simp only [Rep] at h ⊢
  obtain ⟨a,xs,e,h1,h2⟩:=h
  exact ⟨a,xs,e,s _ _ h1,RepL.mono s h2⟩
 | .tuple ds,_,h=>by
  simp only [Rep] at h ⊢
  obtain ⟨a,xs,e,h1,h2⟩:=h
  exact ⟨a,xs,e,s _ _ h1,RepL.mono s h2⟩
 | .dict _,_,h=>by simp only [Rep] at h
theorem RepL.mono {H H':Hp} (s:Same H H'):∀ {ds:List PyData} {xs:List V},RepL H ds xs→RepL H' ds xs
 | [],_,h=>by simpa [RepL] using h
 | d::ds,_,h=>by
  simp only [RepL] at h ⊢
  obtain ⟨x,r,e,h1,h2⟩:=h
  exact ⟨x,r,e,Rep.mono s h1,RepL.mono s h2⟩
end
section
variable {X:Cx} {pins:List (Addr×Obj)} {σ:St} {H:Hp} {s:Shared}
mutual
theorem Rep.reads (I:Inv X pins σ H s):∀ {d:PyData} {v:V} {u:Value},Rep H d v→RelV v u→∃ as,Reads s.heap u d as
 | .none,_,_,h,r=>by simp only [Rep] at h; subst h; cases r; exact ⟨_,.none⟩
 | .bool _,_,_,h,r=>by simp only [Rep] at h; subst h; cases r; exact ⟨_,.bool _⟩
 | .int _,_,_,h,r=>by simp only [Rep] at h; subst h; obtain ⟨t,rfl⟩:=r; exact ⟨_,.int _ _⟩
 | .str _,_,_,h,r=>by simp only [Rep] at h; subst h; obtain ⟨t,rfl⟩:=r; exact ⟨_,.str _ _⟩
 | .list ds,_,_,h,r=>by
  simp only [Rep] at h
  obtain ⟨a,xs,rfl,h1,h2⟩:=h
  cases (show _=Value.ref a from r)
  obtain ⟨its,rv,pl,_⟩:=I.list (SqL.of h1)
  obtain ⟨as,ra⟩:=RepL.reads I h2 rv
  obtain ⟨o,n,e,c,_,d⟩:=pl
  exact ⟨_,.list e c d (by simpa using ra)⟩
 | .tuple ds,_,_,h,r=>by
  simp only [Rep] at h
  obtain ⟨a,xs,rfl,h1,h2⟩:=h
  cases (show _=Value.ref a from r)
  obtain ⟨its,rv,pl,_⟩:=I.tuple (SqT.of h1)
  obtain ⟨as,ra⟩:=RepL.reads I h2 rv
  obtain ⟨o,e,c,n,d⟩:=pl
  exact ⟨_,.tuple e c d (by simpa using ra)⟩
 | .dict _,_,_,h,_=>by simp only [Rep] at h
theorem RepL.reads (I:Inv X pins σ H s):∀ {ds:List PyData} {xs:List V} {us:List Value},RepL H ds xs→Vals xs us→∃ as,ReadsAll s.heap us ds as
 | [],_,_,h,r=>by simp only [RepL] at h; subst h; cases r; exact ⟨_,.nil⟩
 | d::ds,_,_,h,r=>by
  simp only [RepL] at h
  obtain ⟨x,t,rfl,h1,h2⟩:=h
  cases r with
  | cons r1 r2 =>
   obtain ⟨as,a1⟩:=Rep.reads I h1 r1
   obtain ⟨bs,a2⟩:=RepL.reads I h2 r2
   exact ⟨_,.cons a1 a2⟩
end
end
def rEqD (neg:Bool):R2:=fun x y H Q=>∃ d e,Rep H d x∧Rep H e y∧SeqAt.shaped d=true∧SeqAt.shaped e=true∧Q (.bl (if neg then !PyData.eqv d e else PyData.eqv d e)) H
section
variable {X:Cx}
theorem op_neD (hu:X.A.units+64<cLine):OpR X (compareOp .NotEq) (rEqD true):=by
 intro pins s σ H x y v u Q I rx ry h
 obtain ⟨d,e,h1,h2,s1,s2,q⟩:=h
 obtain ⟨as,r1⟩:=h1.reads I rx
 obtain ⟨bs,r2⟩:=h2.reads I ry
 exact ne_dataH r1 r2 s1 s2 hu ⟨.bl _,H,I,rfl,q⟩
end
end L2
set_option Elab.async false
set_option maxRecDepth 100000
namespace L2
open PySem PySem.Spec PyProof.Rows
theorem Inv.turnedL {X:Cx} {pins:List (Addr×Obj)} {σ:St} {H:Hp} {s:Shared} {h':Heap} {t':Nat} {ch:List Addr} {T:Addr} {o:HO} (I:Inv X pins σ H s) (k:∀ b o,b∉ch→s.heap.get? b=some o→h'.get? b=some o)
  (f:∀ b∈ch,FpOk X pins H b) (there:∀ b∈ch,∃ o,h'.get? b=some o) (hT:s.heap.objs.size≤T) (new:ObjOk X.prog X.w (upd H T o) h' T o):Inv X pins σ (upd H T o) { s with heap:=h',toks:=t' }:=by
 have nit:∀ b u,H b=some u→b∉ch:=fun b u e z=>by rw [(f b z).1] at e; cases e
 have ltT:∀ b ob,s.heap.get? b=some ob→b≠T:=fun b ob e=>Nat.ne_of_lt (Nat.lt_of_lt_of_le (Heap.lt_size e) hT)
 have hTn:H T=none:=I.hok.fresh hT
 have neT:∀ b u,H b=some u→b≠T:=fun b u e=>ne_of_none e hTn
 refine I.step (g':=s.gens) (d':=s.drawn) (ch:=ch) (fun b hb=>⟨(f b hb).2.2.2.1,(f b hb).2.1,(f b hb).2.2.2.2.1,(f b hb).2.2.2.2.2⟩) (fun b o _ _ hc e _=>k b o hc e) (fun b o _ _ hc e _=>⟨o.slots,k b o hc e⟩) (fun b o _ e n=>by rw [upd_ne (ltT b o e)]; exact n)
  (fun b o hc e=>⟨o,k b o hc e⟩) (fun b _ e=>by rw [upd_ne (neT b _ e)]; exact e) (fun b _ _ e=>by rw [upd_ne (neT b _ e)]; exact e) (fun b ps e=>⟨#[],by rw [upd_ne (neT b _ e),e]; simp⟩) (fun m hm=>?_) (fun b u e=>?_) I.bare
 ·obtain ⟨ob,es,ep,ho,r⟩:=hm
  exact ⟨ob,es,ep,k _ ob (fun z=>(f _ z).2.1 rfl) ho,r⟩
 ·by_cases hb:b=T
  ·subst hb
   rw [upd_same] at e
   cases e
   exact new
  ·rw [upd_ne hb] at e
   refine (I.hok b u e).stay (fun c v hc q=>k c v ?_ q) (fun q e'=>?_) fun a q e'=>?_
   ·rcases hc with z | z
    ·rw [z]; exact nit b u e
    ·exact nit c _ z
   ·rw [upd_ne (neT _ _ e')]; exact e'
   ·rw [upd_ne (neT _ _ e')]; exact e'
section
variable {X:Cx} {elts:List Expr} {kt:Nat} {pt:Pos}
end
end L2
set_option Elab.async false
set_option maxRecDepth 100000
namespace L2
open PySem PySem.Spec PyProof.Rows
section
variable {σ:St} {H:Hp} {Q:VK} {D:Ends} {QB:Bool→Hp→Prop} {QA:List V→Hp→Prop}
theorem rd_next (h:D.nx σ H):tNext D σ H:=h
theorem rd_asg {te:TE} {g:TG} (h:te σ H fun x H1=>g x σ H1 D.nx):tAsg te g D σ H:=h
theorem rd_name {i:Nat} {v:V} {Q:St→Hp→Prop} (h:Q (σ.set i (some v)) H):gName i v σ H Q:=h
theorem rd_ret {te:TE} (h:te σ H D.rt):tRet te D σ H:=h
theorem rd_drop {te:TE} (h:te σ H fun _ H1=>D.nx σ H1):tDrop te D σ H:=h
theorem rd_ifS {c:TT} {t u:TS} (h:c σ H fun b H1=>if b=true then t D σ H1 else u D σ H1):tIfS c t u D σ H:=h
theorem rd_tB {t:TE} (h:t σ H fun x H1=>∃ c,x=.bl c∧QB c H1):tB t σ H QB:=h
theorem rd_tTest {t:TE} (h:t σ H fun x H1=>∃ c,x=.bl c∧QB c H1):tTest t σ H QB:=h
theorem rd_exbl {b:Bool} {P:Bool→Prop} (h:P b):∃ c,V.bl b=V.bl c∧P c:=⟨b,rfl,h⟩
theorem rd_exref {a:Addr} {P:Addr→Prop} (h:P a):∃ c,V.ref a=V.ref c∧P c:=⟨a,rfl,h⟩
theorem rd_exint {i:Int} {P:Int→Prop} (h:P i):∃ c,V.int i=V.int c∧P c:=⟨i,rfl,h⟩
theorem rd_var {i:Nat} {v:V} (e:σ[i]?=some (some v)) (h:Q v H):tVar i σ H Q:=⟨v,e,h⟩
theorem rd_c {v:V} (h:Q v H):tC v σ H Q:=h
theorem rd_op {r:R2} {ta tb:TE} (h:ta σ H fun x H1=>tb σ H1 fun y H2=>r x y H2 Q):tOp r ta tb σ H Q:=h
theorem rd_un {r:V→Hp→VK→Prop} {ta:TE} (h:ta σ H fun x H1=>r x H1 Q):tUn r ta σ H Q:=h
theorem rd_andV {ta tb:TE} (h:ta σ H fun x H1=>∃ c,x=.bl c∧if c=true then tb σ H1 Q else Q (.bl false) H1):tAndV ta tb σ H Q:=h
theorem rd_notV {ta:TE} (h:ta σ H fun x H1=>∃ c,x=.bl c∧Q (.bl (!c)) H1):tNotV ta σ H Q:=h
theorem rd_and {t u:TT} (h:t σ H fun c H1=>if c=true then u σ H1 QB else QB false H1):tAnd t u σ H QB:=h
theorem rd_or {t u:TT} (h:t σ H fun c H1=>if c=true then QB true H1 else u σ H1 QB):tOr t u σ H QB:=h
theorem rd_not {t:TT} (h:t σ H fun c H1=>QB (!c) H1):tNot t σ H QB:=h
theorem rd_if {t:TT} {ta tb:TE} (h:t σ H fun c H1=>if c=true then ta σ H1 Q else tb σ H1 Q):tIf t ta tb σ H Q:=h
theorem rd_true (h:QB true H):tTrue σ H QB:=h
theorem rd_I0 {g:Int→Int→V} {i j:Int} (h:Q (g i j) H):rI0 g (.int i) (.int j) H Q:=⟨i,j,rfl,rfl,h⟩
theorem rd_I {C:Int→Int→Prop} {g:Int→Int→V} {i j:Int} (c:C i j) (h:Q (g i j) H):rI C g (.int i) (.int j) H Q:=⟨i,j,rfl,rfl,c,h⟩
theorem rd_U {g:Int→V} {i:Int} (h:Q (g i) H):rU g (.int i) H Q:=⟨i,rfl,h⟩
theorem rd_eqI {i j:Int} (h:Q (.bl (decide (i=j))) H):rEq (.int i) (.int j) H Q:=⟨rfl,by
 rw [dec_int,Int.instDecidableEq.eq_def]<;>first | exact h | (simpa [dec_int] using h)⟩
theorem rd_neI {i j:Int} (h:Q (.bl (!decide (i=j))) H):rNe (.int i) (.int j) H Q:=⟨rfl,by
 have e:decide (V.int i=V.int j)=decide (i=j):=by by_cases z:i=j<;>simp [z]
 rw [e]; exact h⟩
theorem rd_eqS {i j:Str} (h:Q (.bl (decide (i=j))) H):rEq (.str i) (.str j) H Q:=⟨rfl,by
 have e:decide (V.str i=V.str j)=decide (i=j):=by by_cases z:i=j<;>simp [z]
 rw [e]; exact h⟩
theorem rd_neB {i j:Bool} (h:Q (.bl (!decide (i=j))) H):rNe (.bl i) (.bl j) H Q:=⟨rfl,by
 have e:decide (V.bl i=V.bl j)=decide (i=j):=by by_cases z:i=j<;>simp [z]
 rw [e]; exact h⟩
theorem rd_ixL {K:PySem.W.Frag} {p:Addr} {xs:List V} {i:Int} {v:V} (h:SqL K H p xs) (e:atI xs i=some v) (q:Q v H):rIxL K (.ref p) (.int i) H Q:=⟨p,xs,i,v,rfl,rfl,h,e,q⟩
theorem rd_ixT {K:PySem.W.Frag} {p:Addr} {xs:List V} {i:Int} {v:V} (h:SqT K H p xs) (e:atI xs i=some v) (q:Q v H):rIxT K (.ref p) (.int i) H Q:=⟨p,xs,i,v,rfl,rfl,h,e,q⟩
theorem rd_ixsL {K:PySem.W.Frag} {p:Addr} {xs:List V} {i:Int} {v:V} (h:SqL K H p xs) (e:atI xs i=some v) (q:Q v H):rIx K (.ref p) (.int i) H Q:=.inl (rd_ixL h e q)
theorem rd_ixsT {K:PySem.W.Frag} {p:Addr} {xs:List V} {i:Int} {v:V} (h:SqT K H p xs) (e:atI xs i=some v) (q:Q v H):rIx K (.ref p) (.int i) H Q:=.inr (.inl (rd_ixT h e q))
theorem rd_chain {r r':R2} {ta tb tc:TE} (h:ta σ H fun x H1=>tb σ H1 fun y H2=>r x y H2 fun z H3=>∃ k,z=.bl k∧if k=true then tc σ H3 fun y' H4=>r' y y' H4 Q else Q (.bl false) H3):tChain r r' ta tb tc σ H Q:=h
theorem rd_call {sp:Sp} {dvs:List V} {E:XK} {t:TA} (h:t σ H fun vs H1=>sp (vs++dvs) H1 Q E):tCall sp dvs E t σ H Q:=h
theorem rd_nil (h:QA [] H):tNil σ H QA:=h
theorem rd_cons {ta:TE} {tr:TA} (h:ta σ H fun x H1=>tr σ H1 fun xs H2=>QA (x::xs) H2):tCons ta tr σ H QA:=h
theorem rd_CB {r:List V→Hp→VK→Prop} {t:TA} (h:t σ H fun vs H1=>r vs H1 Q):tCB r t σ H Q:=h
theorem rd_tup {t:TA} (h:t σ H fun xs H1=>xs.length≤sizeLine∧∀ p,H1 p=none→Q (.ref p) (upd H1 p (.tup xs))):tTup t σ H Q:=h
theorem rd_lst {t:TA} (h:t σ H fun xs H1=>xs.length≤sizeLine∧∀ p,H1 p=none→Q (.ref p) (upd H1 p (.lst xs))):tLst t σ H Q:=h
end
end L2
set_option Elab.async false
set_option maxRecDepth 100000
namespace L2
open PySem PySem.Spec PyProof.Rows
theorem kit_ii {K:PySem.W.Frag}:PySem.W.kitOne K (.type "int") (.type "int")=some true:=by kernel_rfl
theorem kit_ib {K:PySem.W.Frag}:PySem.W.kitOne K (.type "int") (.type "bool")=some false:=by kernel_rfl
section
variable {X:Cx} {K:PySem.W.Frag} {H:Hp} {Q:VK} {σ:St}
def rIsi (K:PySem.W.Frag):List V→Hp→VK→Prop:=fun xs H Q=>∃ x n t b,xs=[x,.ty n]∧TyOf K H x t∧PySem.W.kitOne K t (.type n)=some b∧Q (.bl b) H
theorem cI_isinst:CallR X (.builtin "isinstance") (rIsi X.K):=call_isinst
theorem rd_isi {x:V} {n:String} {t:Value} {b:Bool} (ty:TyOf K H x t) (e:PySem.W.kitOne K t (.type n)=some b) (h:Q (.bl b) H):rIsi K [x,.ty n] H Q:=⟨x,n,t,b,rfl,ty,e,h⟩
def rLen (K:PySem.W.Frag):List V→Hp→VK→Prop:=fun xs H Q=>∃ p ys,xs=[.ref p]∧(SqL K H p ys∨SqT K H p ys)∧Q (.int ys.length) H
theorem cI_len:CallR X (.builtin "len") (rLen X.K):=call_len_seq
theorem rd_lenL {p:Addr} {ys:List V} (h:H p=some (.lst ys)) (q:Q (.int ys.length) H):rLen K [.ref p] H Q:=⟨p,ys,rfl,.inl (SqL.of h),q⟩
theorem rd_lenT {p:Addr} {ys:List V} (h:H p=some (.tup ys)) (q:Q (.int ys.length) H):rLen K [.ref p] H Q:=⟨p,ys,rfl,.inr (SqT.of h),q⟩
def rAll (K:PySem.W.Frag):List V→Hp→VK→Prop:=fun xs H Q=>∃ (p:Addr) (bs:List Bool),xs=[.ref p]∧SqL K H p (bs.map V.bl)∧Q (.bl (bs.all id)) H
theorem cI_all (hc:X.calm=true):CallR X (.builtin "all") (rAll X.K):=call_all_bl hc
theorem rd_all {p:Addr} {bs:List Bool} (h:H p=some (.lst (bs.map V.bl))) (q:Q (.bl (bs.all id)) H):rAll K [.ref p] H Q:=⟨p,bs,rfl,SqL.of h,q⟩
def rAbs:List V→Hp→VK→Prop:=fun xs H Q=>∃ i,xs=[.int i]∧Q (.int (if i<0 then -i else i)) H
theorem cI_abs:CallR X (.builtin "abs") rAbs:=call_abs
theorem rd_abs {i:Int} (q:Q (.int (if i<0 then -i else i)) H):rAbs [.int i] H Q:=⟨i,rfl,q⟩
def rMin2:List V→Hp→VK→Prop:=fun xs H Q=>∃ i j,xs=[.int i,.int j]∧Q (.int (if j<i then j else i)) H
theorem cI_min2 (hc:X.calm=true):CallR X (.builtin "min") rMin2:=call_min2 hc
theorem rd_min2 {i j:Int} (q:Q (.int (if j<i then j else i)) H):rMin2 [.int i,.int j] H Q:=⟨i,j,rfl,q⟩
def rList (K:PySem.W.Frag):List V→Hp→VK→Prop:=fun xs H Q=>∃ p ys,xs=[.ref p]∧(SqL K H p ys∨SqT K H p ys)∧∀ l,H l=none→Q (.ref l) (upd H l (.lst ys))
theorem cI_list:CallR X (.type "list") (rList X.K):=call_list_of
theorem rd_listL {p:Addr} {ys:List V} (h:H p=some (.lst ys)) (q:∀ l,H l=none→Q (.ref l) (upd H l (.lst ys))):rList K [.ref p] H Q:=⟨p,ys,rfl,.inl (SqL.of h),q⟩
def rTuple (K:PySem.W.Frag):List V→Hp→VK→Prop:=fun xs H Q=>∃ p ys,xs=[.ref p]∧((SqL K H p ys∧∀ l,H l=none→Q (.ref l) (upd H l (.tup ys)))∨(SqT K H p ys∧Q (.ref p) H))
theorem cI_tuple:CallR X (.type "tuple") (rTuple X.K):=call_tuple_of
theorem rd_tupleL {p:Addr} {ys:List V} (h:H p=some (.lst ys)) (q:∀ l,H l=none→Q (.ref l) (upd H l (.tup ys))):rTuple K [.ref p] H Q:=⟨p,ys,rfl,.inl ⟨SqL.of h,q⟩⟩
def rFld (K:PySem.W.Frag) (f:Str):V→Hp→VK→Prop:=fun x H1 Q=>∃ a C dx fs v,x=.ref a∧H1 a=some (.ins C dx fs)∧Cls K C∧NoAttr K C f∧fs.lookup f=some v∧Q v H1
theorem rd_fld {ta:TE} {f:Str} (h:ta σ H fun x H1=>rFld K f x H1 Q):tFld K ta f σ H Q:=h
theorem rd_fldv {f:Str} {a C dx:Addr} {fs:List (Str×V)} {v:V} (h:H a=some (.ins C dx fs)) (c:Cls K C) (n:NoAttr K C f) (l:fs.lookup f=some v) (q:Q v H):rFld K f (.ref a) H Q:=⟨a,C,dx,fs,v,rfl,h,c,n,l,q⟩
def rMeth (C:Addr) (m:Str):V→Hp→Prop→Prop:=fun x H1 q=>∃ a dx fs,x=.ref a∧H1 a=some (.ins C dx fs)∧fs.lookup m=none∧q
theorem rd_meth {C:Addr} {m:Str} {sp:Sp} {dvs:List V} {E:XK} {ta:TE} {t:TA} (h:ta σ H fun x H1=>rMeth C m x H1 (t σ H1 fun vs H2=>sp (x::(vs++dvs)) H2 Q E)):tMeth C m sp dvs E ta t σ H Q:=h
theorem rd_methv {C a dx:Addr} {m:Str} {fs:List (Str×V)} {q:Prop} (h:H a=some (.ins C dx fs)) (l:fs.lookup m=none) (hq:q):rMeth C m (.ref a) H q:=⟨a,dx,fs,rfl,h,l,hq⟩
theorem rd_make {C:Addr} {sp:Sp} {dvs:List V} {E:XK} {t:TA} (h:t σ H fun vs H1=>∀ x dx,H1 x=none→H1 dx=none→dx≠x →
 sp (.ref x::(vs++dvs)) (upd (upd H1 dx (.own x)) x (.ins C dx [])) (fun v H2=>v=.non∧Q (.ref x) H2) E):tMake C sp dvs E t σ H Q:=h
def rBM (K:PySem.W.Frag) (T:String):V→Hp→Prop→Prop:=fun x H1 q=>tyV K T x H1∧q
theorem rd_bm {T:String} {r:V→List V→Hp→VK→Prop} {to:TE} {t:TA} (h:to σ H fun x H1=>rBM K T x H1 (t σ H1 fun xs H2=>r x xs H2 Q)):tBM K T r to t σ H Q:=h
theorem rd_bm0 {T:String} {r:V→List V→Hp→VK→Prop} {to:TE} (h:to σ H fun x H1=>rBM K T x H1 (r x [] H1 Q)):tBM0 K T r to σ H Q:=h
theorem rd_bmL {l:Addr} {xs:List V} {q:Prop} (h:H l=some (.lst xs)) (hq:q):rBM K "list" (.ref l) H q:=⟨.inl ⟨rfl,_,SqL.of h⟩,hq⟩
theorem rd_append {l:Addr} {xs:List V} {y:V} (h:H l=some (.lst xs)) (z:xs.length<sizeLine) (q:Q .non (upd H l (.lst (xs++[y])))):rAppend (.ref l) [y] H Q:=⟨l,xs,y,rfl,rfl,h,z,q⟩
theorem rd_sl {r:V→Option Int→Option Int→Hp→VK→Prop} {te:TE} {tl th:TO} (h:te σ H fun x H1=>tl σ H1 fun l H2=>th σ H2 fun u H3=>r x l u H3 Q):tSl r te tl th σ H Q:=h
theorem rd_nopart {Q:Option Int→Hp→Prop} (h:Q none H):tNoPart σ H Q:=h
theorem rd_part {t:TE} {Q:Option Int→Hp→Prop} (h:t σ H fun x H1=>∃ i,x=.int i∧Q (some i) H1):tPart t σ H Q:=h
theorem rd_slL {a:Addr} {xs:List V} {lo hi:Option Int} (h:H a=some (.lst xs)) (q:∀ p,H p=none→Q (.ref p) (upd H p (.lst (cutV xs lo hi)))):rSlL K (.ref a) lo hi H Q:=⟨a,xs,rfl,SqL.of h,q⟩
def ForW (J:It) (g:TG) (tb:TS) (D:Ends) (σ:St) (H1:Hp):Prop:=∃ W:Nat→Nat→St→Hp→Prop,(∃ m,W 0 m σ H1)∧∀ i m σ H,W i m σ H →
 (J.stop i H∧D.nx σ H)∨(J.go i H∧∃ N:St→Hp→Prop,(∀ σ' H',N σ' H'→∃ m',m'<m∧W (i+1) m' σ' H')∧∀ x H',J.yld i H x H'→g x σ H' fun σ2 H2=>tb { D with nx:=N,ct:=N,bk:=D.nx } σ2 H2)
theorem rd_for {wi:TI} {g:TG} {tb:TS} {D:Ends} (h:wi σ H fun J H1=>ForW J g tb D σ H1):tFor wi g tb D σ H:=h
theorem forW_list {a:Addr} {xs:List V} {g:TG} {tb:TS} {D:Ends} (Pv:Nat→St→Hp→Prop) (h0:Pv 0 σ H) (hl:∀ i σ H,i≤xs.length→Pv i σ H→SqL K H a xs)
  (hs:∀ i x σ H,xs[i]?=some x→Pv i σ H→g x σ H fun σ2 H2=>tb { D with nx:=Pv (i+1),ct:=Pv (i+1),bk:=D.nx } σ2 H2) (hd:∀ σ H,Pv xs.length σ H→D.nx σ H):ForW (Itl K a) g tb D σ H:=for_list Pv h0 hl hs hd
theorem forW_range {lo:Int} {n:Nat} {g:TG} {tb:TS} {D:Ends} (Pv:Nat→St→Hp→Prop) (h0:Pv 0 σ H)
  (hs:∀ i σ H,i<n→Pv i σ H→g (.int (lo+i)) σ H fun σ2 H2=>tb { D with nx:=Pv (i+1),ct:=Pv (i+1),bk:=D.nx } σ2 H2) (hd:∀ σ H,Pv n σ H→D.nx σ H):ForW (Itr lo n) g tb D σ H:=for_range Pv h0 hs hd
theorem rd_rng1 {ta:TA} {R:It→Hp→Prop} (h:ta σ H fun vs H1=>∃ j:Int,vs=[.int j]∧-(2 ^ 62)≤j∧j<2 ^ 62∧R (Itr 0 j.toNat) H1):iRng1 ta σ H R:=h
theorem rd_ilist {tl:TE} {R:It→Hp→Prop} (h:tl σ H fun x H1=>∃ a,x=.ref a∧(∃ xs,SqL K H1 a xs)∧R (Itl K a) H1):iList K tl σ H R:=h
end
theorem atI_ints {zs:List Int} {i:Int} (h0:0≤i) (h1:i<zs.length):atI (zs.map V.int) i=some (.int (zs.getD i.toNat 0)):=by
 obtain ⟨k,rfl⟩:∃ k:Nat,i=(k:Int):=⟨i.toNat,by omega⟩
 refine atI_nat ?_
 have hk:k<zs.length:=by omega
 simp [hk]
theorem Same.new {H:Hp} {p:Addr} {o:HO} (h:H p=none):Same H (upd H p o):=fun b u e=>by rw [upd_ne (ne_of_none e h)]; exact e
theorem Same.later {H0 H:Hp} {p:Addr} {o:HO} (s:Same H0 H) (h:H0 p=none):Same H0 (upd H p o):=fun b u e=>by rw [upd_ne (ne_of_none e h)]; exact s b u e
end L2
set_option Elab.async false
set_option maxRecDepth 100000
namespace L2
open PySem PySem.Spec PyProof.Rows
theorem iteTA {b:Bool} {A B:Prop} (h:if b=true then A else B):if (true&&b)=true then A else B:=by rw [Bool.true_and]; exact h
theorem iteNN {b:Bool} {A B:Prop} (h:if b=true then B else A):if (!b)=true then A else B:=by cases b<;>exact h
section
variable {prog:Program} {w:World} {A:Around} {E:Value→Shared→Prop} {s:Shared}
end
def CompW (J:It) (g:TG) (tt:TT) (te:TE) (cap:List (Option Nat)) (l:Addr) (σ:St) (H1:Hp) (Q:VK):Prop :=
 ∃ (n:Nat) (Pv:Nat→List V→St→Hp→Prop),Pv 0 [] (capS cap σ) (upd H1 l (.lst [])) ∧
  (∀ i ys σ' H',i<n→Pv i ys σ' H'→J.go i H'∧∀ x H2,J.yld i H' x H2→g x σ' H2 fun σ3 H3=>tt σ3 H3 fun b H4 =>
   if b=true then te σ3 H4 fun y H5=>H5 l=some (.lst ys)∧ys.length<sizeLine∧Pv (i+1) (ys++[y]) σ3 (upd H5 l (.lst (ys++[y]))) else Pv (i+1) ys σ3 H4) ∧
  ∀ ys σ' H',Pv n ys σ' H'→J.stop n H'∧Q (.ref l) H'
section
variable {K:PySem.W.Frag} {σ:St} {H:Hp} {Q:VK} {te:TE} {cap:List (Option Nat)} {l:Addr}
theorem rd_comp {wi:TI} {g:TG} {tt:TT} (h:wi σ H fun J H1=>∀ l,H1 l=none→CompW J g tt te cap l σ H1 Q):tComp wi g tt te cap σ H Q:=h
theorem take_succ_map {α β:Type} (F:α→β) (xs:List α) (i:Nat) {x:α} (h:xs[i]?=some x):(xs.take (i+1)).map F=(xs.take i).map F++[F x]:=by
 rw [List.take_add_one,h,List.map_append]
 rfl
theorem compW_list {a:Addr} {xs:List V} (F:V→V) (hs:SqL K H a xs) (hz:xs.length≤1000) (hl:H l=none)
  (step:∀ x o H' (Q':VK),x∈xs→Same H H'→(∀ H5,Same H' H5→Q' (F x) H5)→te (((capS (none::cap) σ).set 0 o).set 0 (some x)) H' Q')
  (fin:∀ H',Same H H'→H' l=some (.lst (xs.map F))→Q (.ref l) H'):CompW (Itl K a) (gName 0) tTrue te (none::cap) l σ H Q:=by
 refine ⟨xs.length,fun i ys σ' H'=>ys=(xs.take i).map F∧(∃ o,σ'=(capS (none::cap) σ).set 0 o)∧Same H H'∧H' l=some (.lst ys),⟨rfl,⟨none,rfl⟩,Same.new hl,upd_same⟩,?_,?_⟩
 ·rintro i ys σ' H' hi ⟨rfl,⟨o,rfl⟩,s,e⟩
  refine ⟨⟨xs,xs[i],s.seq hs,by simp [hi]⟩,fun x H2 y=>?_⟩
  obtain ⟨e2,y⟩:=y
  subst e2
  have hx:=y xs (s.seq hs)
  refine rd_name (rd_true (iteT ?_))
  refine step x o H2 _ (List.mem_of_getElem? hx) s fun H5 s5=>⟨s5 _ _ e,?_,?_⟩
  ·rw [List.length_map,List.length_take]
   exact small1000 (by omega)
  ·exact ⟨(take_succ_map F xs i hx).symm,⟨_,List.set_set ..⟩,(s.trans s5).later hl,upd_same⟩
 ·rintro ys σ' H' ⟨rfl,_,s,e⟩
  rw [List.take_of_length_le (Nat.le_refl _)] at e
  exact ⟨⟨xs,s.seq hs,Nat.le_refl _⟩,fin H' s e⟩
theorem compW_range {n:Nat} (F:Nat→V) (hz:n≤1000) (hl:H l=none)
  (step:∀ i o H' (Q':VK),i<n→Same H H'→(∀ H5,Same H' H5→Q' (F i) H5)→te (((capS (none::cap) σ).set 0 o).set 0 (some (.int ((0:Int)+(i:Nat))))) H' Q')
  (fin:∀ H',Same H H'→H' l=some (.lst ((List.range n).map F))→Q (.ref l) H'):CompW (Itr 0 n) (gName 0) tTrue te (none::cap) l σ H Q:=by
 refine ⟨n,fun i ys σ' H'=>ys=(List.range i).map F∧(∃ o,σ'=(capS (none::cap) σ).set 0 o)∧Same H H'∧H' l=some (.lst ys),⟨rfl,⟨none,rfl⟩,Same.new hl,upd_same⟩,?_,?_⟩
 ·rintro i ys σ' H' hi ⟨rfl,⟨o,rfl⟩,s,e⟩
  refine ⟨hi,fun x H2 y=>?_⟩
  obtain ⟨e2,rfl⟩:=y
  subst e2
  refine rd_name (rd_true (iteT ?_))
  refine step i o H2 _ hi s fun H5 s5=>⟨s5 _ _ e,?_,?_⟩
  ·rw [List.length_map,List.length_range]
   exact small1000 (by omega)
  ·refine ⟨?_,⟨_,List.set_set ..⟩,(s.trans s5).later hl,upd_same⟩
   rw [List.range_succ,List.map_append]
   rfl
 ·rintro ys σ' H' ⟨rfl,_,s,e⟩
  exact ⟨Nat.le_refl _,fin H' s e⟩
def rSFld (K:PySem.W.Frag) (f:Str) (y x:V) (H2:Hp) (k:Hp→Prop):Prop:=∃ a C dx fs,x=.ref a∧H2 a=some (.ins C dx fs)∧Cls K C∧NoAttr K C f∧fs.length<1000∧k (upd H2 a (.ins C dx (putF f y fs)))
theorem rd_sfld {D:Ends} {ta tv:TE} {f:Str} (h:tv σ H fun y H1=>ta σ H1 fun x H2=>rSFld K f y x H2 fun H3=>D.nx σ H3):sFld K ta tv f D σ H:=h
theorem rd_sfldv {f:Str} {y:V} {k:Hp→Prop} {a C dx:Addr} {fs:List (Str×V)} (h:H a=some (.ins C dx fs)) (c:Cls K C) (n:NoAttr K C f) (z:fs.length<1000) (q:k (upd H a (.ins C dx (putF f y fs)))):rSFld K f y (.ref a) H k:=⟨a,C,dx,fs,rfl,h,c,n,z,q⟩
def WhileW (c:TT) (tb:TS) (D:Ends) (σ:St) (H:Hp):Prop:=∃ W:Nat→St→Hp→Prop,(∃ m,W m σ H)∧∀ m σ H,W m σ H →
 c σ H fun b H1=>if b=true then ∃ N:St→Hp→Prop,(∀ σ' H',N σ' H'→∃ m',m'<m∧W m' σ' H')∧tb { D with nx:=N,ct:=N,bk:=D.nx } σ H1 else D.nx σ H1
theorem rd_while {D:Ends} {c:TT} {tb:TS} (h:WhileW c tb D σ H):tWhile c tb D σ H:=h
theorem rd_gtup {n:Nat} {tt:TGs} {a:Addr} {xs:List V} {QS:St→Hp→Prop} (h:H a=some (.tup xs)) (hl:xs.length=n) (q:tt xs σ H QS):gTup K n tt (.ref a) σ H QS:=⟨a,xs,rfl,SqT.of h,hl,q⟩
theorem rd_gcons {tg:TG} {u:TGs} {v:V} {r:List V} {QS:St→Hp→Prop} (h:tg v σ H fun σ' H'=>u r σ' H' QS):gCons tg u (v::r) σ H QS:=⟨v,r,rfl,h⟩
theorem rd_gnil {QS:St→Hp→Prop} (h:QS σ H):gNil [] σ H QS:=⟨rfl,h⟩
end
section
variable {X:Cx} (K:PySem.W.Frag) (h:X.K=K)
include h
theorem ix_listK:IxR X (rIxL K):=h ▸ ix_list
theorem ix_tupK:IxR X (rIxT K):=h ▸ ix_tup
theorem ix_seqK:IxR X (rIx K):=h ▸ ix_seq
theorem cI_isinstK:CallR X (.builtin "isinstance") (rIsi K):=h ▸ cI_isinst
theorem cI_lenK:CallR X (.builtin "len") (rLen K):=h ▸ cI_len
theorem cI_allK (hc:X.calm=true):CallR X (.builtin "all") (rAll K):=h ▸ cI_all hc
theorem cI_listK:CallR X (.type "list") (rList K):=h ▸ cI_list
theorem cI_tupleK:CallR X (.type "tuple") (rTuple K):=h ▸ cI_tuple
theorem sl_listK:SlR X (rSlL K):=h ▸ sl_list
theorem pe_fldK {e:Expr} {ta:TE} {f:Str} {pos:Pos} (he:PE X e ta) (hb:attributeBase e f X.env (eval e X.env)=eval e X.env):PE X (.Attribute e f pos) (tFld K ta f):=h ▸ pe_fld he hb
end
theorem cutV_drop {zs:List Int} {k:Nat}:cutV (zs.map V.int) (some (k:Int)) none=(zs.drop k).map V.int:=by
 unfold cutV
 rw [HT.sIx_none,HT.sIx_nat,List.length_map]
 rcases Nat.le_total k zs.length with h | h
 ·rw [Nat.min_eq_left h,← List.map_drop,List.take_of_length_le (by rw [List.length_map,List.length_drop]; omega)]
 ·rw [Nat.min_eq_right h,List.drop_eq_nil_of_le h,Nat.sub_self,List.take_zero]; rfl
theorem getD_mem {α:Type} {zs:List α} {k:Nat} {d:α} (h:k<zs.length):zs.getD k d∈zs:=by
 rw [List.getD_eq_getElem?_getD,List.getElem?_eq_getElem h]
 exact List.getElem_mem h
end L2
set_option Elab.async false
set_option maxRecDepth 100000
namespace L2
open PySem PySem.Spec PyProof.Rows
theorem pg_tupK {X:Cx} (K:PySem.W.Frag) (hK:X.K=K) {es:List Expr} {k:Nat} {t:TGs} {n:Nat} {pos:Pos} (hc:X.calm=true) (h:PGs X es t)
  (hn:(assignEach es X.env).length=n:=by rfl) (hst:(assignEach es X.env).findIdx? (·.1)=none:=by rfl):PG X (.Tuple es k pos) (gTup K n t):=hK ▸ pg_tup hc h hn hst
end L2
set_option Elab.async false
set_option linter.all false
set_option maxRecDepth 100000
set_option maxHeartbeats 4000000
namespace L2
open PySem
inductive DS {α:Type}:Sem α→Prop
 | pure (a:α):DS (.pure a)
 | raise (e:Value):DS (.raise e)
 | unsup (w:String):DS (.unsupported w)
 | fin (e:Ending):DS (.finish e)
 | rule {t:String} {k:Unit→Sem α}:DS (k ())→DS (.rule t k)
 | here {p:Pos} {k:Unit→Sem α}:DS (k ())→DS (.at p k)
 | load {a:Addr} {p:Option Value} {k:Obj→Sem α}:(∀ o,DS (k o))→DS (.load a p k)
 | upd {a:Addr} {p:Option Value} {f:Obj→Obj} {k:Unit→Sem α}:(∀ o,(f o).dict=o.dict∧(f o).isFreed=o.isFreed)→DS (k ())→DS (.update a p f k)
 | alloc {o:Obj} {k:Addr→Sem α}:(∀ n,DS (k n))→DS (.alloc o k)
 | point {l:List Value} {k:Unit→Sem α}:DS (k ())→DS (.point l k)
 | fresh {k:Tok→Sem α}:(∀ n,DS (k n))→DS (.fresh k)
 | ask {k:Setting→Sem α}:(∀ n,DS (k n))→DS (.ask k)
 | stack {k:List (Code×Pos)→Sem α}:(∀ n,DS (k n))→DS (.stack k)
theorem DS.andThen {α β:Type} {m:Sem α} {f:α→Sem β} (h:DS m) (g:∀ a,DS (f a)):DS (m >>= f):=by
 show DS (Sem.bind m f)
 induction h with
 | pure a=>rw [Sem.bind]; exact g a
 | raise e=>rw [Sem.bind]; exact .raise e
 | unsup w=>rw [Sem.bind]; exact .unsup w
 | fin e=>rw [Sem.bind]; exact .fin e
 | rule _ ih=>rw [Sem.bind]; exact .rule ih
 | here _ ih=>rw [Sem.bind]; exact .here ih
 | load _ ih=>rw [Sem.bind]; exact .load ih
 | upd z _ ih=>rw [Sem.bind]; exact .upd z ih
 | alloc _ ih=>rw [Sem.bind]; exact .alloc ih
 | point _ ih=>rw [Sem.bind]; exact .point ih
 | fresh _ ih=>rw [Sem.bind]; exact .fresh ih
 | ask _ ih=>rw [Sem.bind]; exact .ask ih
 | stack _ ih=>rw [Sem.bind]; exact .stack ih
def HasD (e:Addr) (dx:Option Addr) (h:Heap):Prop:=∃ o,h.get? e=some o∧o.dict=dx
theorem HasD.upd {e a:Addr} {dx:Option Addr} {h:Heap} {f:Obj→Obj} (x:HasD e dx h) (z:∀ o,(f o).dict=o.dict∧(f o).isFreed=o.isFreed):HasD e dx (h.update a f):=by
 obtain ⟨o,h1,h2⟩:=x
 by_cases q:a=e
 ·subst q
  have fr:o.isFreed=false:=(Heap.get?_some_iff.mp h1).2
  exact ⟨_,Heap.get?_update_self f h1 (by rw [(z o).2]; exact fr),by rw [(z o).1]; exact h2⟩
 ·exact ⟨o,by rw [Heap.get?_update_other h f q]; exact h1,h2⟩
theorem DS.run {α:Type} {M:Model} {Γ:Ctx} {m:Sem α} {Q:α→Pos→Shared→Prop} {E:Value→Pos→Shared→Prop} {p:Pos} {s:Shared} {e:Addr} {dx:Option Addr} (h:DS m) (w:Sem.wp M Γ m Q E p s) (x:HasD e dx s.heap) :
  Sem.wp M Γ m (fun a p s'=>Q a p s'∧HasD e dx s'.heap) (fun v p s'=>E v p s'∧HasD e dx s'.heap) p s:=by
 induction h generalizing p s with
 | pure a=>rw [Sem.wp] at w ⊢; exact ⟨w,x⟩
 | raise v=>rw [Sem.wp] at w ⊢; exact ⟨w,x⟩
 | unsup q=>rw [Sem.wp] at w; exact w.elim
 | fin q=>rw [Sem.wp] at w; exact w.elim
 | rule _ ih=>rw [Sem.wp] at w ⊢; exact ih w x
 | here _ ih=>rw [Sem.wp] at w ⊢; exact ih w x
 | load _ ih=>rw [Sem.wp] at w ⊢; obtain ⟨o,h1,h2⟩:=w; exact ⟨o,h1,ih o h2 x⟩
 | upd z _ ih=>rw [Sem.wp] at w ⊢; exact ⟨w.1,ih w.2 (x.upd z)⟩
 | alloc _ ih=>rw [Sem.wp] at w ⊢; exact ih _ w (let ⟨o,h1,h2⟩:=x; ⟨o,Heap.get?_push_of_some _ h1,h2⟩)
 | point _ ih=>rw [Sem.wp] at w ⊢; exact ih w x
 | fresh _ ih=>rw [Sem.wp] at w ⊢; exact ih _ w x
 | ask _ ih=>rw [Sem.wp] at w ⊢; exact ih _ w x
 | stack _ ih=>rw [Sem.wp] at w ⊢; exact ih _ w x
theorem DS.any {α:Type} {M:Model} {A:Around} {m:Sem α} {Q:α→Shared→Prop} {E:Value→Shared→Prop} {s:Shared} {e:Addr} {dx:Option Addr} (h:DS m) (w:wpAny M A m Q E s) (x:HasD e dx s.heap) :
  wpAny M A m (fun a s'=>Q a s'∧HasD e dx s'.heap) E s:=fun Γ p hΓ =>
 Sem.wp_mono M Γ m (fun _ _ _ z=>z) (fun _ _ _ z=>z.1) p s (h.run (w Γ p hΓ) x)
theorem ds_ite {α:Type} {c:Prop} [Decidable c] {a b:Sem α} (h1:DS a) (h2:DS b):DS (if c then a else b):=by split<;>assumption
theorem ds_field (v:Value) (i:Nat):DS (field v i):=by
 unfold field fieldsOf
 refine DS.andThen ?_ fun vs=>?_
 ·cases v with
  | ref a =>
   refine DS.andThen (.load fun o=>.pure o) fun o=>?_
   cases o.data<;>first | exact .pure _ | exact .unsup _
  | _ => exact .unsup _
 ·cases vs[i]?<;>first | exact .pure _ | exact .unsup _
theorem ds_mapFields (f:Array Value→Array Value) (o:Obj):(Obj.mapFields f o).dict=o.dict∧(Obj.mapFields f o).isFreed=o.isFreed:=by
 obtain ⟨c,d,dt,sl⟩:=o
 cases dt<;>exact ⟨rfl,rfl⟩
theorem ds_setField (v:Value) (i:Nat) (x:Value):DS (setField v i x):=by
 unfold setField
 cases v with
 | ref a =>
  unfold updateField
  refine DS.andThen (.load fun o=>.pure o) fun o=>?_
  cases o.data with
  | fields vs => exact ds_ite (.upd (ds_mapFields _) (.pure ())) (.unsup _)
  | _ => exact .unsup _
 | _=>exact .unsup _
theorem ds_setFlight (e:Value) (f:Option Addr):DS (setFlight e f):=by
 unfold setFlight
 exact DS.andThen (ds_field _ _) fun tb=>ds_ite (ds_setField _ _ _) (.pure _)
theorem ds_back (env:Env) (b:Bool) (l:List Env):DS (keptBack env b l):=by
 cases l with
 | nil =>
  unfold keptBack underTheClaimsCaller
  refine ds_ite (.pure _) (DS.andThen (DS.andThen (.stack fun n=>.pure n) fun _=>.pure _) fun q=>.pure _)
 | cons c r=>unfold keptBack; exact .pure _
theorem ds_import (env:Env) (l:List Env):DS (behindIsImport env l):=by
 unfold behindIsImport
 exact ds_ite (.pure _) (ds_ite (.pure _) (DS.andThen (ds_field _ _) fun _=>.pure _))
theorem ds_ready:∀ l:List Env,DS (readyFrames l)
 | []=>by unfold readyFrames; exact .pure _
 | env::r=>by
  unfold readyFrames
  cases env.frame with
  | none => exact .unsup _
  | some f =>
   refine DS.andThen (.load fun o=>.pure o) fun o=>ds_ite (.pure _) ?_
   refine DS.andThen (ds_import _ _) fun b=>DS.andThen (ds_back _ _ _) fun v=>DS.andThen (.upd (fun o=>⟨rfl,by obtain ⟨c,d,dt,sl⟩:=o; cases dt<;>rfl⟩) (.pure ())) fun _=>ds_ready r
theorem ds_frameOf (env:Env):DS (frameOf env):=by
 unfold frameOf frameEnvs
 refine DS.andThen (DS.andThen (.stack fun n=>.pure n) fun _=>.pure _) fun l=>DS.andThen ?_ fun o=>?_
 ·generalize l.dropWhile _=l'
  cases l' with
  | nil => unfold frameObject; exact .pure _
  | cons c r => unfold frameObject; exact DS.andThen (ds_ready _) fun _ => .pure _
 ·cases o with
  | none => exact .unsup _
  | some f => exact .pure _
theorem ds_place (f:Addr) (b:Bool):DS (entryPlaceOf f b):=by
 unfold entryPlaceOf
 refine DS.andThen (.stack fun n=>.pure n) fun l=>?_
 cases l.find? _ with
 | none=>exact .pure _
 | some q=>exact .pure _
theorem ds_newEntry (a b c d e:Value) (l:List Value):DS (EntryCells.newEntry a b c d e l):=by
 unfold EntryCells.newEntry newFields newObj newObjAsIs
 generalize ([a,b,c,d,e]++if l.isEmpty then List.replicate 6 Value.none else l)=vs
 dsimp only
 split
 ·exact DS.andThen (.unsup _) fun _=>DS.andThen (.alloc fun n=>.pure n) fun _=>.pure _
 ·exact DS.andThen (.alloc fun n=>.pure n) fun _=>.pure _
theorem ds_noteFrame (e:Value) (env:Env):DS (noteFrame e env):=by
  unfold noteFrame
  cases env.frame with
  | none => exact .unsup _
  | some f =>
    refine DS.andThen (ds_field _ _) fun hd=>?_
    have tail:DS (do
        let a ← frameOf env
        let pl ← entryPlaceOf f (hd != .none)
        let b ← EntryCells.newEntry hd a .none (rawInt f) .none pl
        setField e 1 b):=DS.andThen (ds_frameOf _) fun _=>DS.andThen (ds_place _ _) fun _=>DS.andThen (ds_newEntry _ _ _ _ _ _) fun _=>ds_setField _ _ _
    refine ds_ite ?_ tail
    refine DS.andThen (ds_field _ _) fun x=>ds_ite (.pure _) (DS.andThen (ds_setField _ _ _) fun _=>tail)
theorem ds_leaving (env:Env) (e:Value):DS (leaving env e):=by
 unfold leaving
 exact DS.andThen (ds_noteFrame _ _) fun _=>ds_setFlight _ _
end L2
set_option Elab.async false
set_option maxRecDepth 100000
namespace L2
open PySem PySem.Spec PyProof.Rows
structure Exc (g h:Heap) (H:Hp) (e C:Addr) (xo:Option Addr):Prop where
 tr:h.Traced g e (.ref C)
 ne:g.get? e=none
 he:H e=none
 hT:∀ oe vs T,h.get? e=some oe→oe.data=.fields vs→vs[1]?=some (.ref T)→H T=none
 dc:∀ dx,xo=some dx→HasD e (some dx) h
def CX1 (P:Program) (w:World):CXT:=fun outer H s E x s'=>∃ (e C:Addr) (xo:Option Addr) (H':Hp),x=.ref e∧s'.os=s.os∧AllBare s'.gens∧Un (frs outer) [] H H' s.heap s'.heap∧HOk P w H' s'.heap∧Exc s.heap s'.heap H' e C xo∧E (.ref C) xo H'
section
variable {X:Cx} {pins:List (Addr×Obj)} {σ:St} {H:Hp} {s:Shared}
theorem Inv.left {h':Heap} {es:List Addr} (I:Inv X pins σ H s) (hs:X.stack=X.env::X.outer) (he:∀ b∈es,H b=none∧X.s₀.heap.get? b=none)
  (keep:∀ b o,s.heap.get? b=some o→b∉frs X.stack→b∉es→h'.get? b=some o) (slot:∀ b o,s.heap.get? b=some o→b∈frs X.stack→∃ sl,h'.get? b=some { o with slots:=sl }):Un X.fs X.ex X.H₀ H X.s₀.heap h'∧HOk X.prog X.w H h':=by
 have sub:∀ b∈X.fs,b∈frs X.stack:=fun b hb=>by
  rw [hs]; unfold frs; rw [List.filterMap_cons]
  cases X.env.frame with
  | none => exact hb
  | some f => exact List.mem_cons_of_mem _ hb
 have nfr:∀ b u,H b=some u→b∉frs X.stack:=fun b u e z=>by rw [I.stkFree b z] at e; cases e
 have nes:∀ b u,H b=some u→b∉es:=fun b u e z=>by rw [(he b z).1] at e; cases e
 have neL:∀ b o,X.s₀.heap.get? b=some o→b∉X.fs→b∉frs X.stack:=fun b o e hb z=>by
  rcases List.mem_cons.mp (I.stkSub b z) with q | q
  ·exact absurd (Nat.lt_of_lt_of_le (Heap.lt_size e) (q ▸ I.ok.above)) (Nat.lt_irrefl _)
  ·exact hb q
 have ne0:∀ b o,X.s₀.heap.get? b=some o→b∉es:=fun b o e z=>by rw [(he b z).2] at e; cases e
 refine ⟨⟨fun b o e n hb hx=>keep b o (I.base.keep b o e n hb hx) (neL b o e hb) (ne0 b o e),fun b o e n hb hx=>?_,I.base.free,fun b o e hx=>?_,I.base.tups,I.base.frzs,I.base.tbls⟩,fun b u e=>?_⟩
 ·obtain ⟨sl,e1⟩:=I.base.slot b o e n hb hx
  obtain ⟨sl',e2⟩:=slot b _ e1 (sub b hb)
  exact ⟨sl',e2⟩
 ·obtain ⟨o',e1⟩:=I.base.there b o e hx
  by_cases hf:b∈frs X.stack
  ·obtain ⟨sl,e2⟩:=slot b o' e1 hf
   exact ⟨_,e2⟩
  ·exact ⟨o',keep b o' e1 hf (ne0 b o e)⟩
 ·refine (I.hok b u e).stay (fun c v hc q=>?_) (fun _ q=>q) fun _ _ q=>q
  rcases hc with z | z
  ·rw [z] at q ⊢; exact keep b v q (nfr b u e) (nes b u e)
  ·exact keep c v q (nfr c _ z) (nes c _ z)
end
theorem ObjOk.get {P:Program} {w:World} {H:Hp} {h:Heap} {a:Addr} {o:HO} (x:ObjOk P w H h a o):∃ ob,h.get? a=some ob:=by
 cases o with
 | lst xs=>obtain ⟨_,_,_,_,e⟩:=x; exact ⟨_,e⟩
 | tup xs=>obtain ⟨_,_,_,p⟩:=x; obtain ⟨o,e,_⟩:=p; exact ⟨_,e⟩
 | dK kvs=>obtain ⟨_,_,_,_,o,_,_,e,_⟩:=x; exact ⟨_,e⟩
 | dT kvs=>obtain ⟨_,_,_,_,o,_,_,e,_⟩:=x; exact ⟨_,e⟩
 | set S n=>obtain ⟨o,_,_,_,e,_⟩:=x; exact ⟨_,e⟩
 | ins C dx fs=>obtain ⟨_,_,_,e,_⟩:=x; exact ⟨_,e⟩
 | own y=>obtain ⟨_,e⟩:=x; exact ⟨_,e⟩
 | xd fs=>obtain ⟨_,⟨_,_,_,e,_⟩,_⟩:=x; exact ⟨_,e⟩
 | rng lo hi=>obtain ⟨_,_,_,e⟩:=x; exact ⟨_,e⟩
 | frz ob u=>obtain ⟨e,_⟩:=x; exact ⟨_,e⟩
 | tbl ps=>exact ⟨_,(show h.get? a=some _ from x)⟩
 | met f y=>exact ⟨_,(show h.get? a=some _ from x)⟩
 | ext φ=>obtain ⟨_,⟨_,e⟩,_⟩:=x; exact ⟨_,e⟩
theorem HOk.none_of {P:Program} {w:World} {H:Hp} {h:Heap} {a:Addr} (k:HOk P w H h) (e:h.get? a=none):H a=none:=by
 cases q:H a with
 | none=>rfl
 | some o=>obtain ⟨_,z⟩:=(k a o q).get; rw [e] at z; cases z
section
variable {P:Program} {w:World} {K:PySem.W.Frag} {mg:Str→Option Value} {base:Heap} {N:List Str} {qual:Str} {scope:Scope} {f:Addr} {cd:Value} {A:Around} {outer:List Env} {s₀:Shared} {H₀:Hp} {E:XK} {pins:List (Addr×Obj)} {σ:St} {H:Hp} {s:Shared}
theorem stack_in {l:List Env} {as:List Addr} (h:∀ b∈frs l,b∈as):∀ env∈l,∀ a,env.frame=some a→a∈as:=fun env he a ha=>h a (List.mem_filterMap.mpr ⟨env,he,ha⟩)
theorem xe_made {e C:Addr} {xo:Option Addr} {oe:Obj} {vs:Array Value} (I1:Inv (cxOf (CX1 P w) P w K mg base N qual scope f cd A outer s₀ H₀ E) pins σ H s) (he:s.heap.get? e=some oe) (hcl:oe.cls=.ref C) (hda:oe.data=.fields vs) (h1:vs[1]?=some .none)
  (hs0:s₀.heap.get? e=none) (hHe:H e=none) (dc:∀ dx,xo=some dx→oe.dict=some dx) (q:E (.ref C) xo H):(cxOf (CX1 P w) P w K mg base N qual scope f cd A outer s₀ H₀ E).xe (.ref e) s:=by
 have ff:=I1.stack
 have hl:=PySem.W.funFrames_hide (as:=e::frs (cxOf (CX1 P w) P w K mg base N qual scope f cd A outer s₀ H₀ E).stack) ff (stack_in fun b hb=>List.mem_cons_of_mem _ hb)
 have fin:=wpAny_leaving_first (M:=model P w) (E:=fun v s'=>CX1 P w outer H₀ s₀ E v s') (base:=PySem.W.hideAll s.heap (e::frs (cxOf (CX1 P w) P w K mg base N qual scope f cd A outer s₀ H₀ E).stack)) (L:=s₀.heap.objs.size) (e:=e) (s:=s) (Q:=fun _ s'=>∃ h2,s'={ s with heap:=h2 }∧Heap.Left (PySem.W.hideAll s.heap (e::frs (cxOf (CX1 P w) P w K mg base N qual scope f cd A outer s₀ H₀ E).stack)) (envOfC qual scope s₀.heap.objs.size f cd::outer) e oe.cls s.heap h2) I1.ok.frames hl rfl he (fun b o z=>PySem.W.of_hideAll _ z) (PySem.W.hideAll_none _ List.mem_cons_self) hda h1 fun h2 lf=>⟨h2,rfl,lf⟩
 refine wpAny_mono (DS.any (ds_leaving _ _) fin ⟨oe,he,rfl⟩) (fun _ s' ⟨⟨h2,e2,lf⟩,hd2⟩=>?_) fun _ _ z=>z
 subst e2
 obtain ⟨st,ff2,tr,up⟩:=lf
 have lf:=I1.left (h':=h2) (es:=[e]) rfl (fun b hb=>by rw [List.mem_singleton.mp hb]; exact ⟨hHe,hs0⟩) (fun b o z nf ne=>st b o (PySem.W.hideAll_get _ z (by intro m; rcases List.mem_cons.mp m with r | r; exact ne (by simp [r]); exact nf r)))
  (fun b o z hb=>by
   obtain ⟨_,o',z',hd⟩:=ff.mem hb
   rw [z] at z'; cases z'
   exact up b o z hd)
 obtain ⟨oe',ws,T,oT,ts,g1,g2,g3,g4,g5,g6,g7,g8,g9⟩:=tr
 have nT:T∉frs (cxOf (CX1 P w) P w K mg base N qual scope f cd A outer s₀ H₀ E).stack:=fun z=>by
  obtain ⟨_,o,zo,hd⟩:=ff2.mem z
  rw [g7] at zo; cases zo
  exact hd ts g8
 have key:∀ o,s.heap.get? T=some o→False:=fun o z=>by
  rw [PySem.W.hideAll_get _ z (by intro m; rcases List.mem_cons.mp m with r | r; exact g6 r; exact nT r)] at g5
  cases g5
 have hT0:s₀.heap.get? T=none:=by
  cases z:s₀.heap.get? T with
  | none => rfl
  | some o => obtain ⟨o', z'⟩ := I1.base.there T o z (by intro q; cases q); exact (key o' z').elim
 have hHT:H T=none:=by
  cases z:H T with
  | none => rfl
  | some o => obtain ⟨o', z'⟩ := (I1.hok T o z).get; exact (key o' z').elim
 refine ⟨e,C,xo,H,rfl,I1.os,I1.bare,lf.1,lf.2,⟨⟨oe',ws,T,oT,ts,g1,g2.trans hcl,g3,g4,hT0,g6,g7,g8,g9⟩,hs0,hHe,fun oe2 vs' T' z1 z2 z3=>?_,fun dx z=>by rw [dc dx z] at hd2; exact hd2⟩,q⟩
 rw [g1] at z1; cases z1
 rw [g3] at z2; cases z2
 rw [g4] at z3; cases z3
 exact hHT
theorem xe_new {h':Heap} {t':Nat} {e C:Addr} {vs:List Value} (I:Inv (cxOf (CX1 P w) P w K mg base N qual scope f cd A outer s₀ H₀ E) pins σ H s) (hx:Heap.MadeExcOf s.heap h' e (.ref C) vs) (q:E (.ref C) none H) :
  (cxOf (CX1 P w) P w K mg base N qual scope f cd A outer s₀ H₀ E).xe (.ref e) { s with heap:=h',toks:=t' }:=by
 have I1:=I.kept (t':=t') hx.keeps
 obtain ⟨t,he,ht,_⟩:=hx.there
 have hs0:s₀.heap.get? e=none:=by
  cases z:s₀.heap.get? e with
  | none => rfl
  | some o => obtain ⟨o', z'⟩ := I.base.there e o z (by intro q; cases q); rw [hx.new] at z'; cases z'
 exact xe_made I1 he rfl rfl rfl hs0 (I.hok.none_of hx.new) (fun _ z=>by cases z) q
theorem pass1:Passes (CX1 P w) (cxOf (CX1 P w) P w K mg base N qual scope f cd A outer s₀ H₀ E) E:=by
  intro pins σ H s x s' I h
  obtain ⟨e,C,xo,H',rfl,os,bare,un,hok,ex,q⟩:=h
  have J:=I.call' (s':=s') (ch:=[]) os un hok bare (fun b hb=>by cases hb)
  obtain ⟨⟨oe,ws,T,oT,ts,g1,g2,g3,g4,g5,g6,g7,g8,g9⟩,ne,hHe,hHT,dc⟩:=ex
  have hHT:=hHT oe ws T g1 g3 g4
  have s0:∀ {b:Addr},s.heap.get? b=none→s₀.heap.get? b=none:=fun {b} hb=>by
    cases z:s₀.heap.get? b with
    | none=>rfl
    | some o=>obtain ⟨o',z'⟩:=I.base.there b o z (by intro q; cases q); rw [hb] at z'; cases z'
  have ff:=J.stack
  have hl:=PySem.W.funFrames_hide (as:=e::T::frs (cxOf (CX1 P w) P w K mg base N qual scope f cd A outer s₀ H₀ E).stack) ff (stack_in fun b hb=>List.mem_cons_of_mem _ (List.mem_cons_of_mem _ hb))
  have fin:=wpAny_leaving_next (M:=model P w) (E:=fun v s'=>CX1 P w outer H₀ s₀ E v s') (base:=PySem.W.hideAll s'.heap (e::T::frs (cxOf (CX1 P w) P w K mg base N qual scope f cd A outer s₀ H₀ E).stack)) (L:=s₀.heap.objs.size) (e:=e) (s:=s') (Q:=fun _ s2=>∃ h2,s2={ s' with heap:=h2 }∧Heap.Left (PySem.W.hideAll s'.heap (e::T::frs (cxOf (CX1 P w) P w K mg base N qual scope f cd A outer s₀ H₀ E).stack)) (envOfC qual scope s₀.heap.objs.size f cd::outer) e (.ref C) s'.heap h2) J.ok.frames hl rfl
    ⟨oe,ws,T,oT,ts,g1,g2,g3,g4,PySem.W.hideAll_none _ (List.mem_cons_of_mem _ List.mem_cons_self),g6,g7,g8,g9⟩ (fun b o z=>PySem.W.of_hideAll _ z) (PySem.W.hideAll_none _ List.mem_cons_self) fun h2 lf=>⟨h2,rfl,lf⟩
  refine wpAny_mono (DS.any (ds_leaving _ _) fin ⟨oe,g1,rfl⟩) (fun _ s2 ⟨⟨h2,e2,lf⟩,hd2⟩=>?_) fun _ _ z=>z
  subst e2
  obtain ⟨st,ff2,tr,up⟩:=lf
  have lf:=J.left (h':=h2) (es:=[e,T]) rfl (fun b hb=>by
      simp only [List.mem_cons,List.not_mem_nil,or_false] at hb
      rcases hb with rfl | rfl
      · exact ⟨hHe,s0 ne⟩
      · exact ⟨hHT,s0 g5⟩) (fun b o z nf ne=>st b o (PySem.W.hideAll_get _ z (by
        intro m
        rcases List.mem_cons.mp m with r | m
        · exact ne (by simp [r])
        · rcases List.mem_cons.mp m with r | r
          · exact ne (by simp [r])
          · exact nf r)))
      (fun b o z hb=>by
        obtain ⟨_,o',z',hd⟩:=ff.mem hb
        rw [z] at z'; cases z'
        exact up b o z hd)
  obtain ⟨oe2,ws2,T2,oT2,ts2,k1,k2,k3,k4,k5,k6,k7,k8,k9⟩:=tr
  have nT:T2∉frs (cxOf (CX1 P w) P w K mg base N qual scope f cd A outer s₀ H₀ E).stack:=fun z=>by
    obtain ⟨_,o,zo,hd⟩:=ff2.mem z
    rw [k7] at zo; cases zo
    exact hd ts2 k8
  have hT0:s₀.heap.get? T2=none∧H' T2=none:=by
    by_cases r:T2=T
    · subst r; exact ⟨s0 g5,hHT⟩
    · have key:∀ o,s'.heap.get? T2=some o→False:=fun o z=>by
        rw [PySem.W.hideAll_get _ z (by
          intro m
          rcases List.mem_cons.mp m with q | m
          · exact k6 q
          · rcases List.mem_cons.mp m with q | q
            · exact r q
            · exact nT q)] at k5
        cases k5
      constructor
      · cases z:s₀.heap.get? T2 with
        | none=>rfl
        | some o=>obtain ⟨o',z'⟩:=J.base.there T2 o z (by intro q; cases q); exact (key o' z').elim
      · cases z:H' T2 with
        | none=>rfl
        | some o=>obtain ⟨o',z'⟩:=(J.hok T2 o z).get; exact (key o' z').elim
  refine ⟨e,C,xo,H',rfl,J.os,J.bare,lf.1,lf.2,⟨⟨oe2,ws2,T2,oT2,ts2,k1,k2,k3,k4,hT0.1,k6,k7,k8,k9⟩,s0 ne,hHe,fun oe' vs' T' z1 z2 z3=>?_,fun dx z=>by
      obtain ⟨o,y1,y2⟩:=dc dx z
      rw [g1] at y1; cases y1
      rw [y2] at hd2; exact hd2⟩,q⟩
  rw [k1] at z1; cases z1
  rw [k3] at z2; cases z2
  rw [k4] at z3; cases z3
  exact hT0.2
end
end L2
set_option Elab.async false
set_option maxRecDepth 100000
namespace L2
open PySem PySem.Spec PyProof.Rows
def tRaise (C:Addr) (E:XK) (t:TA):TS:=fun _ σ H=>t σ H fun vs H1=>vs.length≤sizeLine∧E (.ref C) none H1
theorem ps_raise {X:Cx} {E:XK} {x:Str} {C:Addr} {B newId initId:String} {bm:List Value} {np cpos pos:Pos} {e:Expr} {es:List Expr} {t:TA} (O:OwnCls x C bm newId X.mg X.base) (FB:ExcBaseFacts B newId initId bm) (hc:X.calm=true) (hg:Gl X x)
  (hx:∀ (pins:List (Addr×Obj)) (σ:St) (H:Hp) (s:Shared) (h':Heap) (t':Nat) (e:Addr) (vs:List Value),Inv X pins σ H s→Heap.MadeExcOf s.heap h' e (.ref C) vs→E (.ref C) none H→X.xe (.ref e) { s with heap:=h',toks:=t' })
  (ha:PA X (e::es) t) (hd:(x==("__debug__":Str))=false:=by decide) (he:starEach (e::es) X.env=(false,eval e X.env)::starEach es X.env:=by rfl) (hpl:(backTo cpos (starEach es X.env)).any (·.1)=false:=by rfl) :
  PS X (.Raise (some (.Call (.Name x np) (e::es) [] cpos)) none pos) (tRaise C E t):=by
 intro pins s σ H D I h
 obtain ⟨tl,N,nm,q,bs,hdct,sn,sub,ab,col,dd,k0,k1,k2,k3,k5,mN,hC,hN,hni,T⟩:=O.obj
 refine wpAny_Raise_call_subT (C:=C) (nm:=nm) (q:=q) (N:=N) (bs:=bs) (bm:=tl) (hdct:=hdct) (sn:=sn) (sub:=sub) (ab:=ab) (col:=col) (dd:=dd) (k0:=k0) (k1:=k1) (k2:=k2) (k3:=k3) (k5:=k5)
  FB (mN:=mN) (T.hasType FB.hasBase) (I.ok.hd hc) (by rw [he]; show (false||(backTo cpos (starEach es X.env)).any (·.1))=false; rw [hpl]; rfl) hni (ld_glob I hg O.bound ⟨rfl,?_⟩ hd)
 have h1:=ha cpos pins s σ H _ I h
 rw [he] at h1 ⊢
 refine Calls.evalArgs_plain (wpAny_mono h1 (fun us s2 ⟨vs,H2,I2,r2,hl,hE⟩=>⟨rfl,by show us.length≤sizeLine; rw [← r2.length]; exact hl,I2.bk _ _ hC,hN.keeps I2.bk,T.keeps I2.bk,fun h' a mk=>?_⟩) fun _ _ y=>y)
 exact hx pins σ H2 s2 h' s2.toks a us I2 mk hE
section
variable {P:Program} {w:World} {K:PySem.W.Frag} {mg:Str→Option Value} {base:Heap}
theorem Fun.ok1 {x qual:Str} {st:Stmt} {f:Addr} {fd:FuncData} {N ps:List Str} {k:Nat} {sp:Sp} (F:Fun K x qual st f fd) (S:FnScope N ps (defScope st)) (len:∀ vs H Q E,sp vs H Q E→vs.length=ps.length)
  (hbody:∀ (cdv:Value) (A:Around) (outer:List Env) (s:Shared) (H:Hp) (vs:List V) (Q:VK) (E:XK),Room k (A.deeper (envOfC qual (defScope st) s.heap.objs.size f cdv))→sp vs H Q E →
   ∃ t,PSs (cxOf (CX1 P w) P w K mg base N qual (defScope st) f cdv A outer s H E) (defBody st) t∧t { nx:=fun _ H'=>Q .non H',rt:=Q } (start N vs) H):FnOk P w K mg base (CX1 P w) (k+1) f fd ps sp:=by
 obtain ⟨oc,od,kV,doc,pm,an,cdv,ct,osl,rfl,lk,hcd⟩:=F.ex
 exact fn_of lk hcd S len fun A outer s H vs Q E hr hsp=>hbody cdv A outer s H vs Q E hr hsp
theorem FnOk.up {k:Nat} {f:Addr} {fd:FuncData} {ps:List Str} {sp:Sp} (F:FnOk P w K mg base CX0 k f fd ps sp):FnOk P w K mg base (CX1 P w) k f fd ps sp :=
 ⟨F.len,fun A outer s H args us vs Q E hr e0 hb hv hs=>codeAny_mono (F.run A outer s H args us vs Q E hr e0 hb hv hs) fun r s' h=>by
  cases r with
  | error e => exact False.elim h
  | ok fl => cases fl <;> exact h⟩
end
end L2
set_option Elab.async false
set_option maxRecDepth 100000
namespace L2
open PySem PySem.Spec PyProof.Rows PySem.W Builtin Builtin.ObjectAttr Builtin.Getset_descriptor
section
variable {prog:Program} {w:World} {A:Around} {E:Value→Shared→Prop} {s:Shared} {K:PySem.W.Frag} {x C:Addr} {R:Result→Shared→Prop}
end
end L2
set_option Elab.async false
set_option maxRecDepth 100000
namespace L2
open PySem PySem.Spec PyProof.Rows
section
variable {X:Cx} {pins:List (Addr×Obj)} {σ:St} {H:Hp} {s:Shared}
end
end L2
set_option Elab.async false
set_option maxRecDepth 100000
namespace L2
open PySem PySem.Spec PyProof.Rows
section
variable {X:Cx} {pins pins':List (Addr×Obj)} {σ:St} {H:Hp} {s:Shared} {E:Value→Shared→Prop}
end
section
variable {X:Cx} {CX:CXT} {k:Nat} {f C:Addr} {fd:FuncData} {ps:List Str} {sp:Sp} {dvs:List V} {ds:List Value} {ET:St→XK} {x m:Str} {p pos apos:Pos} {e o:Expr} {es:List Expr} {ta:TE} {t:TA}
end
section
variable {σ:St} {H:Hp} {Q:VK}
end
abbrev Cx.suite (X:Cx) (e:Addr):Cx:={ X with A:=X.A.mark (some (.ref e)),calm:=false,xe:=fun _ _=>False }
section
variable {X:Cx} {pins:List (Addr×Obj)} {σ:St} {H:Hp} {s:Shared} {e:Addr}
end
end L2
set_option Elab.async false
set_option maxRecDepth 100000
namespace L2
open PySem PySem.Spec PyProof.Rows
end L2
set_option Elab.async false
set_option maxRecDepth 100000
namespace L2
open PySem PySem.Spec PyProof.Rows
abbrev Cx.quiet (X:Cx):Cx:={ X with calm:=false }
section
variable {P:Program} {w:World} {K:PySem.W.Frag} {mg:Str→Option Value} {base:Heap}
end
section
variable {X:Cx} {k:Nat} {f C:Addr} {fd:FuncData} {ps:List Str} {sp:Sp} {dvs:List V} {ds:List Value} {x m:Str} {p pos apos:Pos} {e o:Expr} {es:List Expr} {ta:TE} {t:TA}
end
end L2
set_option Elab.async false
set_option maxRecDepth 100000
namespace L2
open PySem PySem.Spec PyProof.Rows
theorem own_of {K:PySem.W.Frag} {h:Heap} {mg:Str→Option Value} {x:Str} {C:Addr} {bmB:List Value} {newId:String} (X:K.In h) (hm:mg x=some (.ref C)) (q:PySem.W.excIn K C bmB newId=true):OwnCls x C bmB newId mg h:=by
 refine ⟨hm,?_⟩
 simp only [PySem.W.excIn] at q
 split at q
 case h_2=>cases q
 case h_1 dd cd sl ho =>
  split at q
  case h_2=>cases q
  case h_1 C' bm k0 k1 k2 k3 n k5 hmr hsl =>
   simp only [Bool.and_eq_true,beq_iff_eq,Bool.not_eq_true'] at q
   obtain ⟨⟨⟨⟨⟨e1,e2⟩,hdel⟩,ht⟩,hok⟩,hni⟩:=q
   subst e1 e2
   have hh:=X _ _ ho
   obtain ⟨nm,bs,mro,ns,qn,hd,sn,sub,ab,col,del⟩:=cd
   simp only at hmr hdel hok hni
   subst hmr hdel
   obtain ⟨l⟩:=sl
   simp only at hsl
   subst hsl
   exact ⟨bm,ns,nm,qn,bs,hd,sn,sub,ab,col,dd,k0,k1,k2,k3,k5,_,hh,.of_isNs (PySem.W.isNs_of_in X hok),PySem.W.nsMap_none_of_in X hok hni,PySem.W.tail_of_in X ht⟩
theorem ps_raiseK {X:Cx} {E:XK} {x:Str} {C:Addr} {B newId initId:String} {bm:List Value} {np cpos pos:Pos} {e:Expr} {es:List Expr} {t:TA} (hm:X.mg x=some (.ref C)) (q:PySem.W.excIn X.K C bm newId=true) (FB:ExcBaseFacts B newId initId bm) (hc:X.calm=true) (hg:Gl X x)
  (hx:∀ (pins:List (Addr×Obj)) (σ:St) (H:Hp) (s:Shared) (h':Heap) (t':Nat) (e:Addr) (vs:List Value),Inv X pins σ H s→Heap.MadeExcOf s.heap h' e (.ref C) vs→E (.ref C) none H→X.xe (.ref e) { s with heap:=h',toks:=t' })
  (ha:PA X (e::es) t) (hd:(x==("__debug__":Str))=false:=by decide) (he:starEach (e::es) X.env=(false,eval e X.env)::starEach es X.env:=by rfl) (hpl:(backTo cpos (starEach es X.env)).any (·.1)=false:=by rfl) :
  PS X (.Raise (some (.Call (.Name x np) (e::es) [] cpos)) none pos) (tRaise C E t):=fun pins s σ H D I h =>
 ps_raise (own_of I.ok.mod.kin hm q) FB hc hg hx ha hd he hpl pins s σ H D I h
theorem rd_raise {C:Addr} {E:XK} {t:TA} {D:Ends} {σ:St} {H:Hp} (h:t σ H fun vs H1=>vs.length≤sizeLine∧E (.ref C) none H1):tRaise C E t D σ H:=h
section
variable {P:Program} {w:World} {K:PySem.W.Frag} {mg:Str→Option Value} {base:Heap}
theorem FnOk.down {k:Nat} {f:Addr} {fd:FuncData} {ps:List Str} {sp sp':Sp} (F:FnOk P w K mg base (CX1 P w) k f fd ps sp) (h:∀ vs H Q E,sp' vs H Q E→sp vs H Q (fun _ _ _=>False)):FnOk P w K mg base CX0 k f fd ps sp' :=
 ⟨fun vs H Q E q=>F.len vs H Q _ (h _ _ _ _ q),fun A outer s H args us vs Q E hr e0 hb hv hs=>codeAny_mono (F.run A outer s H args us vs Q _ hr e0 hb hv (h _ _ _ _ hs)) fun r s' hq=>by
  cases r with
  | error e => obtain ⟨_, _, _, _, _, _, _, _, _, _, z⟩ := hq; exact z.elim
  | ok fl => cases fl <;> exact hq⟩
end
end L2
set_option Elab.async false
set_option maxRecDepth 100000
namespace L2
open PySem PySem.Spec PyProof.Rows
def SameBut (l:Addr) (H H':Hp):Prop:=∀ b o,H b=some o→b≠l→H' b=some o
section
variable {K:PySem.W.Frag} {σ:St} {H:Hp} {Q:VK} {te:TE} {cap:List (Option Nat)} {l:Addr}
end
def tJoin (t:TS):TS:=fun D σ H=>∃ J:St→Hp→Prop,t { D with nx:=J } σ H∧∀ σ' H',J σ' H'→D.nx σ' H'
theorem ps_join {X:Cx} {st:Stmt} {t:TS} (h:PS X st t):PS X st (tJoin t):=by
 intro pins s σ H D I ⟨J,h1,h2⟩
 refine wpAny_mono (h pins s σ H _ I h1) (fun f s' q=>?_) fun _ _ z=>z
 cases f with
 | next=>obtain ⟨σ',H',J',q⟩:=q; exact ⟨σ',H',J',h2 σ' H' q⟩
 | brk=>exact q
 | cont=>exact q
 | ret u=>exact q
theorem rd_join {t:TS} {D:Ends} {σ:St} {H:Hp} (J:St→Hp→Prop) (h1:t { D with nx:=J } σ H) (h2:∀ σ' H',J σ' H'→D.nx σ' H'):tJoin t D σ H:=⟨J,h1,h2⟩
end L2
set_option Elab.async false
set_option maxRecDepth 100000
namespace L2
open PySem PySem.Spec PyProof.Rows
section
variable {prog:Program} {w:World} {A:Around} {E:Value→Shared→Prop} {s:Shared}
end
end L2
set_option Elab.async false
set_option maxRecDepth 100000
namespace L2
open PySem PySem.Spec PyProof.Rows
section
variable {prog:Program} {w:World} {A:Around} {E:Value→Shared→Prop} {s:Shared}
end
section
variable {X:Cx} {elts:List Expr} {kt:Nat} {pt:Pos}
end
end L2
set_option Elab.async false
set_option maxRecDepth 100000
namespace L2
open PySem PySem.Spec PyProof.Rows
end L2
set_option Elab.async false
set_option linter.all false
set_option maxRecDepth 100000
namespace L2
open PySem PySem.Spec PyProof.Rows
section
variable {K:PySem.W.Frag} {σ:St} {H:Hp} {Q:VK} {te:TE} {cap:List (Option Nat)} {l:Addr}
end
end L2
set_option Elab.async false
set_option linter.all false
set_option maxRecDepth 100000
namespace L2
open PySem PySem.Spec PyProof.Rows
section
variable {X:Cx} {elts:List Expr} {kt:Nat} {pt:Pos}
end
end L2
set_option Elab.async false
set_option maxHeartbeats 4000000
set_option linter.all false
open PySem PySem.Spec PyProof.Rows
namespace L2
structure ClsFn (K:PySem.W.Frag) (C:Addr) (m:Str) (f:Addr):Prop where
 ga:PySem.W.specialIn K (.ref C) "__getattribute__"=some (some (.builtin "type.__getattribute__"))
 rd:PySem.W.readsIn K C (.type "type")=true
 at_:PySem.W.findCls K (.ref C) (.type "type") m=some (.val (.ref f))
 kp:PySem.W.keepIn K (.ref f)=true
section
variable {X:Cx} {CX:CXT} {k:Nat} {f C:Addr} {fd:FuncData} {ps:List Str} {sp:Sp} {dvs:List V} {ds:List Value} {E:XK} {x m:Str} {p pos apos:Pos} {e o:Expr} {es:List Expr} {ta:TE} {t:TA}
theorem pe_callC {pl:Sem Bool} (hg:Gl X x) (hm:X.mg x=some (.ref C)) (c:ClsFn X.K C m f) (F:FnOk X.prog X.w X.K X.mg X.base CX k f fd ps sp) (hr:Room k X.A) (hb:Binds X.K fd ps ds) (hd:Vals dvs ds) (hx:Passes CX X E) (ha:PA X (e::es) t)
  (hdb:(x==("__debug__":Str))=false:=by decide)
  (hst:starEach (e::es) X.env=(false,eval e X.env)::starEach es X.env:=by rfl) (hpl:(backTo pos (starEach es X.env)).any (·.1)=false:=by rfl)
  (ht:eval (.Call (.Attribute (.Name x p) m apos) (e::es) [] pos) X.env=(do
   let ov ← eval (.Name x p) X.env
   standAt apos.atName
   let (f,first) ← holding [ov] (getMethod ov m pl)
   callWith pos f first (backTo pos (starEach (e::es) X.env)) (backToKw pos (keywordEach [] X.env))):=by rfl) :
  PE X (.Call (.Attribute (.Name x p) m apos) (e::es) [] pos) (tCall sp dvs E t):=by
 intro pins s σ H Q I h
 refine PySem.W.methodCall_KW (pl:=pl) (thn ((pe_glob (v:=.ref C) hg hm rfl hdb) pins s σ H (fun x H1=>x=.ref C∧H1=H) I ⟨rfl,rfl⟩) fun u s1 ⟨x,H1,I1,rx,ex,eh⟩=>?_) ht
 subst ex; subst eh
 obtain rfl:u=Value.ref C:=rx
 refine PySem.W.method_cls I1.kIn c.ga (PySem.W.cls_value I1.kIn c.rd c.at_ rfl ?_)
 have I2:=I1.tok (s1.toks+1)
 refine PySem.W.callWith_K (first:=[]) (h₀:=X.base) I.ok.mod.kin c.kp (thn (ha pos pins _ σ H1 _ I2 h) fun us s2 ⟨vs,H2,I3,r,q2⟩=>⟨I3.kIn,?_⟩) hst hpl
 exact run_fn (us:=us) (vs:=vs) F hr hb hd hx I3 r q2
end
end L2
set_option Elab.async false
set_option linter.all false
namespace L2
open PySem PySem.Spec PyProof.Rows
theorem cutC {X:Cx} {s:Stmt} {ss:List Stmt} {r:TS} {C:TS→Prop} (d:PS X s r) (k:∀ r',r'=r→∃ ts,PSs X ss ts∧C (tSeq r' ts)):∃ ts,PSs X (s::ss) ts∧C ts :=
 let ⟨_,h1,h2⟩:=k r rfl
 ⟨_,pss_cons d h1,h2⟩
theorem cutE {X:Cx} {s:Stmt} {r:TS} {C:TS→Prop} (d:PS X s r) (k:∀ r',r'=r→C r'):∃ ts,PSs X [s] ts∧C ts:=⟨_,pss_one d,k r rfl⟩
theorem rd_cut {r r':TS} {D:Ends} {σ:St} {H:Hp} (e:r'=r) (h:r D σ H):r' D σ H:=e ▸ h
theorem rd_seqA {t u:TS} {D:Ends} {σ:St} {H:Hp} (k:∀ u',u'=u→t { D with nx:=u' D } σ H):tSeq t u D σ H:=k u rfl
theorem len1 {us:List Value} (h:us.length=1):∃ a0,us=[a0]:=match us,h with | [a0],_=>⟨a0,rfl⟩
theorem len2 {us:List Value} (h:us.length=2):∃ a0 a1,us=[a0,a1]:=match us,h with | [a0,a1],_=>⟨a0,a1,rfl⟩
theorem len3 {us:List Value} (h:us.length=3):∃ a0 a1 a2,us=[a0,a1,a2]:=match us,h with | [a0,a1,a2],_=>⟨a0,a1,a2,rfl⟩
theorem len4 {us:List Value} (h:us.length=4):∃ a0 a1 a2 a3,us=[a0,a1,a2,a3]:=match us,h with | [a0,a1,a2,a3],_=>⟨a0,a1,a2,a3,rfl⟩
theorem len5 {us:List Value} (h:us.length=5):∃ a0 a1 a2 a3 a4,us=[a0,a1,a2,a3,a4]:=match us,h with | [a0,a1,a2,a3,a4],_=>⟨a0,a1,a2,a3,a4,rfl⟩
end L2
set_option Elab.async false
set_option linter.all false
set_option maxRecDepth 100000
set_option maxHeartbeats 4000000
namespace L2
open PySem PySem.Spec PyProof.Rows
section
variable {κ:Type} [DecidableEq κ]
def valV (kvs:List (κ×V)) (k:κ):Option V:=(kvs.find? fun kv=>decide (kv.1=k)).map (·.2)
def putK (kvs:List (κ×V)) (k:κ) (v:V):List (κ×V) :=
 if (kvs.any fun kv=>decide (kv.1=k))=true then kvs.map (fun kv=>if kv.1=k then (kv.1,v) else kv) else kvs++[(k,v)]
theorem valV_pos {p:κ×V} {r:List (κ×V)} {k:κ} (e:p.1=k):valV (p::r) k=some p.2:=by simp [valV,List.find?_cons,e]
theorem valV_neg {p:κ×V} {r:List (κ×V)} {k:κ} (e:¬ p.1=k):valV (p::r) k=valV r k:=by simp [valV,List.find?_cons,e]
theorem valV_any (k:κ):∀ kvs:List (κ×V),(kvs.any fun kv=>decide (kv.1=k))=(valV kvs k).isSome
 | []=>rfl
 | p::r=>by
  rw [List.any_cons]
  by_cases e:p.1=k
  ·simp only [valV_pos e,decide_eq_true e,Bool.true_or,Option.isSome_some]
  ·rw [valV_neg e,decide_eq_false e,Bool.false_or]; exact valV_any k r
theorem valV_map (k j:κ) (y:V):∀ kvs:List (κ×V),valV (kvs.map fun kv=>if kv.1=k then (kv.1,y) else kv) j=(valV kvs j).map fun x=>if j=k then y else x
 | []=>rfl
 | p::r=>by
  have ih:=valV_map k j y r
  rw [List.map_cons]
  by_cases h:p.1=k
  ·rw [if_pos h]
   by_cases e:p.1=j
   ·rw [valV_pos (p:=(p.1,y)) e,valV_pos e,Option.map_some,if_pos (e.symm.trans h)]
   ·rw [valV_neg (p:=(p.1,y)) e,valV_neg e,ih]
  ·rw [if_neg h]
   by_cases e:p.1=j
   ·rw [valV_pos (p:=p) e,valV_pos e,Option.map_some,if_neg (fun z=>h (e.trans z))]
   ·rw [valV_neg (p:=p) e,valV_neg e,ih]
theorem valV_snoc (k j:κ) (y:V):∀ kvs:List (κ×V),valV kvs k=none→valV (kvs++[(k,y)]) j=if j=k then some y else valV kvs j
 | [],_=>by
  by_cases e:k=j
  ·rw [if_pos e.symm]; exact valV_pos (p:=(k,y)) e
  ·rw [if_neg (fun z=>e z.symm)]; exact valV_neg (p:=(k,y)) e
 | p::r,hn=>by
  rw [List.cons_append]
  have hk:¬ p.1=k:=fun z=>by rw [valV_pos z] at hn; cases hn
  rw [valV_neg hk] at hn
  have ih:=valV_snoc k j y r hn
  by_cases e:p.1=j
  ·rw [valV_pos e,valV_pos e,if_neg (fun z=>hk (e.trans z))]
  ·rw [valV_neg e,valV_neg e,ih]
theorem valV_put (kvs:List (κ×V)) (k j:κ) (y:V):valV (putK kvs k y) j=if j=k then some y else valV kvs j:=by
 unfold putK
 by_cases a:(kvs.any fun kv=>decide (kv.1=k))=true
 ·rw [if_pos a,valV_map]
  rw [valV_any] at a
  by_cases e:j=k
  ·obtain ⟨x,hx⟩:=Option.isSome_iff_exists.mp a
   rw [if_pos e,e,hx,Option.map_some,if_pos rfl]
  ·rw [if_neg e]
   cases valV kvs j with
   | none=>rfl
   | some x=>rw [Option.map_some,if_neg e]
 ·rw [if_neg a]
  refine valV_snoc k j y kvs ?_
  rw [valV_any] at a
  cases q:valV kvs k with
  | none => rfl
  | some x => rw [q] at a; exact (a rfl).elim
theorem length_putK (kvs:List (κ×V)) (k:κ) (v:V):(putK kvs k v).length≤kvs.length+1:=by
 unfold putK
 split
 ·rw [List.length_map]; omega
 ·rw [List.length_append,List.length_cons,List.length_nil]; omega
theorem putK_new {kvs:List (κ×V)} {k:κ} (v:V) (h:valV kvs k=none):putK kvs k v=kvs++[(k,v)]:=by
 unfold putK
 rw [valV_any,h]
 exact if_neg (by decide)
theorem RelO.isSome_eq {o:Option V} {u:Option Value} (r:RelO o u):o.isSome=u.isSome:=by
 cases o with
 | none=>cases u with
  | none => rfl
  | some _ => exact (show False from r).elim
 | some _=>cases u with
  | none => exact (show False from r).elim
  | some _ => rfl
theorem KV.val {kvs:List (κ×V)} {vs:List (κ×Value)} (r:KV kvs vs) (k:κ):RelO (valV kvs k) (valueAt vs k):=by
 unfold KV at r
 induction r with
 | nil=>exact True.intro
 | @cons p q ps qs h t ih =>
  obtain ⟨h1,h2⟩:=h
  by_cases e:p.1=k
  ·have e':q.1=k:=h1.symm.trans e
   have b:valueAt (q::qs) k=some q.2:=by simp [valueAt,List.find?_cons,e']
   rw [valV_pos e,b]; exact h2
  ·have e':¬ q.1=k:=fun z=>e (h1.trans z)
   have b:valueAt (q::qs) k=valueAt qs k:=by simp [valueAt,List.find?_cons,e']
   rw [valV_neg e,b]; exact ih
theorem KV.any {kvs:List (κ×V)} {vs:List (κ×Value)} (r:KV kvs vs) (k:κ):(kvs.any fun kv=>decide (kv.1=k))=vs.any fun kv=>decide (kv.1=k):=by
 unfold KV at r
 induction r with
 | nil=>rfl
 | cons h t ih=>rw [List.any_cons,List.any_cons,ih,h.1]
theorem KV.repl {kvs:List (κ×V)} {vs:List (κ×Value)} (r:KV kvs vs) (k:κ) {y:V} {u:Value} (ry:RelV y u) :
  KV (kvs.map fun kv=>if kv.1=k then (kv.1,y) else kv) (vs.map fun kv=>if kv.1=k then (kv.1,u) else kv):=by
 unfold KV at r ⊢
 induction r with
 | nil=>exact .nil
 | @cons p q ps qs h t ih =>
  rw [List.map_cons,List.map_cons]
  refine .cons ?_ ih
  obtain ⟨h1,h2⟩:=h
  by_cases e:p.1=k
  ·rw [if_pos e,if_pos (h1.symm.trans e)]; exact ⟨h1,ry⟩
  ·rw [if_neg e,if_neg (fun z=>e (h1.trans z))]; exact ⟨h1,h2⟩
theorem KV.put {kvs:List (κ×V)} {vs:List (κ×Value)} (r:KV kvs vs) (k:κ) {y:V} {u:Value} (ry:RelV y u):KV (putK kvs k y) (stored vs k u):=by
 unfold putK stored
 rw [r.any k]
 by_cases e:(vs.any fun kv=>decide (kv.1=k))=true
 ·rw [if_pos e,if_pos e]; exact r.repl k ry
 ·rw [if_neg e,if_neg e]; exact Paired.snoc r ⟨rfl,ry⟩
theorem KV.length {kvs:List (κ×V)} {vs:List (κ×Value)} (r:KV kvs vs):kvs.length=vs.length:=Paired.length r
end
theorem kV_is {P:Program} {w:World} {k:Key} {u:Value} (r:RelV (kV k) u):(mixKind P w).is k u=true:=by
 cases k with
 | inl i=>obtain ⟨t,e⟩:=(show ∃ t,u=Value.int i t from r); subst e; exact mixKind_int P w i t
 | inr x=>obtain ⟨t,e⟩:=(show ∃ t,u=Value.str x t from r); subst e; exact mixKind_str P w x t
theorem items_are {P:Program} {w:World}:∀ {ks:List Key} {us:List Value},Vals (ks.map kV) us→ItemsAre (mixKind P w) ks us
 | [],_,r=>by rw [List.map_nil] at r; cases r; exact .nil
 | k::ks,_,r=>by
  rw [List.map_cons] at r
  cases r with
  | cons h t => exact .cons (kV_is h) (items_are t)
abbrev KT (H:Hp):List (List Key×V)→List (List Key×Addr×Value)→Prop:=Paired fun p q=>p.1=q.1∧H q.2.1=some (.tup (p.1.map kV))∧RelV p.2 q.2.2
theorem KT.val {H:Hp} {kvs:List (List Key×V)} {xs:List (List Key×Addr×Value)} (r:KT H kvs xs) (k:List Key):RelO (valV kvs k) ((atKey xs k).map (·.2)):=by
 induction r with
 | nil=>exact True.intro
 | @cons p q ps qs h t ih =>
  obtain ⟨h1,_,h2⟩:=h
  by_cases e:p.1=k
  ·have e':q.1=k:=h1.symm.trans e
   have b:atKey (q::qs) k=some q.2:=by simp [atKey,List.find?_cons,e']
   rw [valV_pos e,b]; exact h2
  ·have e':¬ q.1=k:=fun z=>e (h1.trans z)
   have b:atKey (q::qs) k=atKey qs k:=by simp [atKey,List.find?_cons,e']
   rw [valV_neg e,b]; exact ih
theorem KT.repl {H:Hp} {kvs:List (List Key×V)} {xs:List (List Key×Addr×Value)} (r:KT H kvs xs) (k:List Key) {y:V} {u:Value} (ry:RelV y u) :
  KT H (kvs.map fun kv=>if kv.1=k then (kv.1,y) else kv) (xs.map (putAt k u)):=by
 induction r with
 | nil=>exact .nil
 | @cons p q ps qs h t ih =>
  rw [List.map_cons,List.map_cons]
  refine .cons ?_ ih
  obtain ⟨h1,h2,h3⟩:=h
  unfold putAt
  by_cases e:p.1=k
  ·rw [if_pos e,if_pos (h1.symm.trans e)]; exact ⟨h1,h2,ry⟩
  ·rw [if_neg e,if_neg (fun z=>e (h1.trans z))]; exact ⟨h1,h2,h3⟩
theorem KT.put {H:Hp} {kvs:List (List Key×V)} {xs:List (List Key×Addr×Value)} (r:KT H kvs xs) (k:List Key) {b:Addr} {y:V} {u:Value} (hb:H b=some (.tup (k.map kV))) (ry:RelV y u) :
  KT H (putK kvs k y) (storedH xs k b u):=by
 have e:(kvs.any fun kv=>decide (kv.1=k))=(atKey xs k).isSome:=by
  rw [valV_any,(r.val k).isSome_eq,Option.isSome_map]
 unfold putK storedH
 rw [e]
 by_cases q:(atKey xs k).isSome=true
 ·rw [if_pos q,if_pos q]; exact r.repl k ry
 ·rw [if_neg q,if_neg q]; exact Paired.snoc r ⟨rfl,hb,ry⟩
theorem KT.keeps {H H':Hp} {kvs:List (List Key×V)} {xs:List (List Key×Addr×Value)} (r:KT H kvs xs) (ht:∀ b ys,H b=some (.tup ys)→H' b=some (.tup ys)):KT H' kvs xs :=
 Paired.mapP r fun _ _ z=>⟨z.1,ht _ _ z.2.1,z.2.2⟩
section
variable {P:Program} {w:World} {H:Hp} {h:Heap} {a:Addr}
theorem rd_of {u:HO} (ok:HOk P w H h) (e:Rd H a u):ObjOk P w H h a u:=e.ok ok
theorem dk_rd {kvs:List (Key×V)} (ok:HOk P w H h) (e:Rd H a (.dK kvs)):kvs.length≤sizeLine∧(a==sysModules)=false∧∃ vs,KV kvs vs∧h.DictOf (mixKind P w) a vs :=
 show ObjOk P w H h a (.dK kvs) from rd_of ok e
theorem dk_of {kvs:List (Key×V)} (ok:HOk P w H h) (e:H a=some (.dK kvs)):kvs.length≤sizeLine∧(a==sysModules)=false∧∃ vs,KV kvs vs∧h.DictOf (mixKind P w) a vs:=dk_rd ok (.inl e)
theorem key_of {ks:List Key} (ok:HOk P w H h) (e:H a=some (.tup (ks.map kV))):(tupleKind (mixKind P w)).is h ks a:=by
 obtain ⟨_,its,r,o,h1,h2,n,h3⟩:=(show ObjOk P w H h a (.tup (ks.map kV)) from ok a _ e)
 exact ⟨o,its.toArray,n,h1,h2,h3,by simpa using items_are r⟩
theorem dt_rd {kvs:List (List Key×V)} (ok:HOk P w H h) (e:Rd H a (.dT kvs)):kvs.length≤sizeLine∧(a==sysModules)=false ∧
  ∃ xs,KT H kvs xs∧h.DictOfH (tupleKind (mixKind P w)) a xs:=by
 obtain ⟨z,y,xs,r,o,es,ep,h1,h2,h3,h4,h5⟩:=(show ObjOk P w H h a (.dT kvs) from rd_of ok e)
 refine ⟨z,y,xs,r,o,es,ep,h1,h2,h3,h4,fun x hx=>?_,h5⟩
 have all:∀ {l:List (List Key×V)} {m:List (List Key×Addr×Value)},KT H l m→∀ x∈m,(tupleKind (mixKind P w)).is h x.1 x.2.1:=by
  intro l m q
  induction q with
  | nil => intro x hx; exact nomatch hx
  | @cons p q ps qs hq t ih =>
   intro x hx
   rcases List.mem_cons.mp hx with e | hx
   ·subst e
    exact key_of ok (by rw [← hq.1]; exact hq.2.1)
   ·exact ih x hx
 exact all r x hx
theorem dt_of {kvs:List (List Key×V)} (ok:HOk P w H h) (e:H a=some (.dT kvs)):kvs.length≤sizeLine∧(a==sysModules)=false ∧
  ∃ xs,KT H kvs xs∧h.DictOfH (tupleKind (mixKind P w)) a xs:=dt_rd ok (.inl e)
end
def DGet (H:Hp) (a:Addr) (y:V) (r:Option V):Prop :=
 (∃ kvs k,Rd H a (.dK kvs)∧y=kV k∧r=valV kvs k)∨∃ kvs k b,Rd H a (.dT kvs)∧y=.ref b∧H b=some (.tup (k.map kV))∧r=valV kvs k
def DPut (H:Hp) (a:Addr) (y v:V) (H':Hp):Prop :=
 (∃ kvs k,H a=some (.dK kvs)∧y=kV k∧kvs.length<sizeLine∧H'=upd H a (.dK (putK kvs k v))) ∨
 ∃ kvs k b,H a=some (.dT kvs)∧y=.ref b∧H b=some (.tup (k.map kV))∧kvs.length<sizeLine∧H'=upd H a (.dT (putK kvs k v))
theorem DGet.t {H:Hp} {a b:Addr} {kvs:List (List Key×V)} {k:List Key} (e:H a=some (.dT kvs)) (eb:H b=some (.tup (k.map kV))):DGet H a (.ref b) (valV kvs k):=.inr ⟨kvs,k,b,.inl e,rfl,eb,rfl⟩
theorem DPut.t {H:Hp} {a b:Addr} {kvs:List (List Key×V)} {k:List Key} {v:V} (e:H a=some (.dT kvs)) (eb:H b=some (.tup (k.map kV))) (hl:kvs.length<sizeLine) :
  DPut H a (.ref b) v (upd H a (.dT (putK kvs k v))):=.inr ⟨kvs,k,b,e,rfl,eb,hl,rfl⟩
section
variable {X:Cx} {pins:List (Addr×Obj)} {σ:St} {H:Hp} {s:Shared} {a:Addr} {y v:V} {u r:Value} {o:Option V} {A:Around} {E:Value→Shared→Prop}
theorem Inv.big (I:Inv X pins σ H s):sysModules<s.heap.objs.size:=by
 have h:mainGlobals<s.heap.objs.size:=(I.mod.glob.keeps I.bk).lt
 exact Nat.lt_trans (by decide) h
theorem d_in {Q:Value→Shared→Prop} (hu:A.units+1<cLine) (I:Inv X pins σ H s) (g:DGet H a y o) (ry:RelV y u) (h:∀ s',Inv X pins σ H s'→Q (.bool o.isSome) s') :
  wpAny (model X.prog X.w) A (compareOp .In u (.ref a)) Q E s:=by
 rcases g with ⟨kvs,k,e,ey,l⟩ | ⟨kvs,k,b,e,ey,eb,l⟩
 ·subst ey
  obtain ⟨z,hd,vs,rel,dd⟩:=dk_rd I.hok e
  refine wpAny_in_of (kV_is ry) hd dd.mapOf ?_
  rw [← (rel.val k).isSome_eq,← l]
  exact h _ (I.tok _)
 ·subst ey
  cases (show u=Value.ref b from ry)
  obtain ⟨z,hd,xs,rel,dd⟩:=dt_rd I.hok e
  refine wpAny_in_heap (tupleKind_room_in1 hu) (key_of I.hok eb) hd dd ?_
  have q:=(rel.val k).isSome_eq
  rw [Option.isSome_map] at q
  rw [← q,← l]
  exact h _ (I.tok _)
theorem d_write {h':Heap} {t':Nat} {ob:HO} (I:Inv X pins σ H s) (mu:Mut (H a)) (hs:Heap.SameBut a s.heap h') (he:∃ q,h'.get? a=some q) (new:ObjOk X.prog X.w (upd H a ob) h' a ob) :
  Inv X pins σ (upd H a ob) { s with heap:=h',toks:=t' } :=
 I.write (x:=a) (e:=a) mu (.inl rfl) (fun b q hb z=>(hs.2 b hb).trans z) he new
theorem dk_new {P:Program} {w:World} {H':Hp} {h':Heap} {kvs:List (Key×V)} {vs:List (Key×Value)} (z:kvs.length≤sizeLine) (hd:(a==sysModules)=false) (rel:KV kvs vs) (dd:h'.DictOf (mixKind P w) a vs) :
  ObjOk P w H' h' a (.dK kvs):=⟨z,hd,vs,rel,dd⟩
theorem d_setItem {H':Hp} {Q:Unit→Shared→Prop} (hu:A.units+1<cLine) (I:Inv X pins σ H s) (g:DPut H a y v H') (ry:RelV y u) (rv:RelV v r) (h:∀ s',Inv X pins σ H' s'→Q () s') :
  wpAny (model X.prog X.w) A (setItem (.ref a) u r) Q E s:=by
 rcases g with ⟨kvs,k,e,ey,l,eH⟩ | ⟨kvs,k,b,e,ey,eb,l,eH⟩
 ·subst ey eH
  obtain ⟨z,hd,vs,rel,dd⟩:=dk_of I.hok e
  have hz:vs.length≤sizeLine:=by rw [← rel.length]; exact z
  have hl:(putK kvs k v).length≤sizeLine:=by have:=length_putK kvs k v; omega
  refine wpAny_setItem_pairs (hsz:=hz) (kV_is ry) dd fun h' dd' hs=>h _ ?_
  have he:∃ q,h'.get? a=some q:=let ⟨q,_,_,hq,_⟩:=dd'; ⟨q,hq⟩
  exact d_write I (by rw [e]; exact True.intro) hs he (dk_new hl hd (rel.put k rv) dd')
 ·subst ey eH
  cases (show u=Value.ref b from ry)
  obtain ⟨z,hd,xs,rel,dd⟩:=dt_of I.hok e
  have hz:xs.length≤sizeLine:=by rw [← Paired.length rel]; exact z
  have hl:(putK kvs k v).length≤sizeLine:=by have:=length_putK kvs k v; omega
  refine wpAny_setItem_heap (hsz:=hz) (tupleKind_room_in1 hu) (key_of I.hok eb) dd fun h' dd' hs=>h _ ?_
  obtain ⟨q,es,ep,hq,h2,h3,h4,_,h5⟩:=dd'
  refine d_write I (by rw [e]; exact True.intro) hs ⟨q,hq⟩ ⟨hl,hd,_,(rel.put k eb rv).keeps fun c ys ec=>?_,q,es,ep,hq,h2,h3,h4,h5⟩
  rw [upd_ne (ne_of ec e (fun z=>nomatch z))]
  exact ec
end
section
variable {X:Cx} {pins:List (Addr×Obj)} {σ:St} {H:Hp} {s:Shared} {a:Addr} {kvs:List (Key×V)} {k:Key} {u:Value} {A:Around} {E:Value→Shared→Prop}
end
def tDIn (ty td:TE):TE:=fun σ H Q=>ty σ H fun y H1=>td σ H1 fun x H2=>∃ a o,x=.ref a∧DGet H2 a y o∧Q (.bl o.isSome) H2
def sDPut (td ty tv:TE):TS:=fun D σ H=>tv σ H fun v H1=>td σ H1 fun x H2=>ty σ H2 fun y H3=>∃ a H4,x=.ref a∧DPut H3 a y v H4∧D.nx σ H4
section
variable {X:Cx} {o i e value:Expr} {pos pos' tpos:Pos} {td ty tv:TE}
theorem pc_din (hu:X.A.units+1<cLine) (hi:PE X i ty) (ho:PE X o td):PC X .In i o (tDIn ty td):=by
 intro pins s σ H Q I h
 refine thn (hi pins s σ H _ I h) fun iv s1 ⟨y,H1,I1,ry,q1⟩=>thn (ho pins s1 σ H1 _ I1 q1) fun u s2 ⟨x,H2,I2,rx,a,ov,ex,g,q2⟩=>?_
 subst ex
 obtain rfl:u=Value.ref a:=rx
 exact d_in hu I2 g ry fun s3 I3=>⟨.bl ov.isSome,H2,I3,rfl,q2⟩
theorem ps_dput (hu:X.A.units+1<cLine) (ho:PE X o td) (hi:PE X i ty) (hv:PE X value tv) (hs:swapsWith value (some (.Subscript o i pos')) pos.line X.env=pure false) :
  PS X (.Assign [.Subscript o i pos'] value pos) (sDPut td ty tv):=by
 intro pins s σ H D I h
 refine wpAny_Assign_Subscript (thn (hv pins s σ H _ I h) fun r s1 ⟨v,H1,I1,rv,q1⟩=>thn (ho pins s1 σ H1 _ I1 q1) fun u s2 ⟨x,H2,I2,rx,q2⟩=>thn (hi pins s2 σ H2 _ I2 q2) fun iv s3 ⟨y,H3,I3,ry,a,H4,ex,g,q3⟩=>?_) hs
 subst ex
 obtain rfl:u=Value.ref a:=rx
 exact d_setItem hu I3 g ry rv fun s4 I4=>⟨σ,H4,I4,q3⟩
end
theorem dk_empty {P:Program} {w:World} {H:Hp} (h:Heap) (hb:sysModules<h.objs.size):ObjOk P w H (h.push { cls:=.type "dict",data:=.dict #[] }) h.objs.size (.dK []) :=
 ⟨Nat.zero_le _,beq_eq_false_iff_ne.mpr (Ne.symm (Nat.ne_of_lt hb)),[],.nil,Heap.DictOf.new h⟩
theorem dt_empty {P:Program} {w:World} {H:Hp} (h:Heap) (hb:sysModules<h.objs.size):ObjOk P w H (h.push { cls:=.type "dict",data:=.dict #[] }) h.objs.size (.dT []) :=
 ⟨Nat.zero_le _,beq_eq_false_iff_ne.mpr (Ne.symm (Nat.ne_of_lt hb)),[],.nil,_,#[],0,Heap.get?_push_size _ rfl,⟨rfl,rfl,rfl⟩,rfl,rfl,List.nodup_nil⟩
def tDNewK:TE:=fun _ H Q=>∀ p,H p=none→Q (.ref p) (upd H p (.dK []))
def tDNewT:TE:=fun _ H Q=>∀ p,H p=none→Q (.ref p) (upd H p (.dT []))
section
variable {X:Cx} {pos:Pos}
theorem pe_dnewK:PE X (.Dict [] [] pos) tDNewK:=fun pins s σ H Q I h =>
 wpAny_Dict_empty ⟨.ref s.heap.objs.size,_,I.laid (a:=s.heap.objs.size) (o:=.dK []) (t':=s.toks) (fun _ _ q=>Heap.get?_push_of_some _ q) (Nat.le_refl _) (dk_empty s.heap I.big),rfl,h _ (I.hok.fresh (Nat.le_refl _))⟩
theorem pe_dnewT:PE X (.Dict [] [] pos) tDNewT:=fun pins s σ H Q I h =>
 wpAny_Dict_empty ⟨.ref s.heap.objs.size,_,I.laid (a:=s.heap.objs.size) (o:=.dT []) (t':=s.toks) (fun _ _ q=>Heap.get?_push_of_some _ q) (Nat.le_refl _) (dt_empty s.heap I.big),rfl,h _ (I.hok.fresh (Nat.le_refl _))⟩
end
structure M2 (X:Cx) (o:Expr) (m:Str) (apos:Pos) (e f:Expr) (cpos:Pos):Prop where
 base:attributeBase o m X.env (eval o X.env)=eval o X.env
 few:((backTo cpos (starEach [e,f] X.env)).all (fun x=>!x.1)&&(backToKw cpos (keywordEach [] X.env)).all (fun x=>x.1.isSome)
  && decide (([e,f]:List Expr).length+([]:List Keyword).length+(if ([]:List Keyword).isEmpty then 0 else 1)<30))=true
 line:(apos.endLine==cpos.line)=true
 trees:backTo cpos (starEach [e,f] X.env)=[(false,eval e X.env),(false,eval f X.env)]
def IsD (H:Hp) (a:Addr):Prop:=(∃ kvs,Rd H a (.dK kvs))∨∃ kvs,Rd H a (.dT kvs)
theorem isD_at {X:Cx} {pins:List (Addr×Obj)} {σ:St} {H:Hp} {s:Shared} {a:Addr} (I:Inv X pins σ H s) (d:IsD H a) :
  s.TypeIs (.ref a) "dict"∧(∀ b,Value.ref a=.ref b→∃ ob,s.heap.get? b=some ob∧ob.dict=none)∧(a==sysModules)=false:=by
 rcases d with ⟨kvs,e⟩ | ⟨kvs,e⟩
 ·obtain ⟨_,hd,vs,_,dd⟩:=dk_rd I.hok e
  refine ⟨dd.typeIs,fun b q=>?_,hd⟩
  cases q
  obtain ⟨ob,_,_,h1,h2,_⟩:=dd
  exact ⟨ob,h1,h2.2.1⟩
 ·obtain ⟨_,hd,xs,_,dd⟩:=dt_rd I.hok e
  refine ⟨dd.typeIs,fun b q=>?_,hd⟩
  cases q
  obtain ⟨ob,_,_,h1,h2,_⟩:=dd
  exact ⟨ob,h1,h2.2.1⟩
section
variable {X:Cx} {pins:List (Addr×Obj)} {σ:St} {H:Hp} {s:Shared} {a:Addr} {y d:V} {u r:Value} {o:Option V} {A:Around} {E:Value→Shared→Prop}
end
section
variable {X:Cx} {o e f:Expr} {apos cpos:Pos} {td ty tx:TE}
end
section
variable {X:Cx} {pins:List (Addr×Obj)} {σ:St} {H:Hp} {s:Shared} {a:Addr} {kvs:List (Key×V)} {A:Around} {E:Value→Shared→Prop}
end
section
variable {X:Cx} {pins:List (Addr×Obj)} {σ:St} {H:Hp} {s:Shared} {a:Addr} {y:V} {u:Value} {A:Around} {E:Value→Shared→Prop}
end
end L2
set_option Elab.async false
set_option linter.all false
set_option maxRecDepth 100000
set_option maxHeartbeats 4000000
namespace L2
open PySem PySem.Spec PyProof.Rows
def It2 (lo:Int) (n:Nat):It:=⟨fun i _=>i<n,fun i H x H'=>H'=H∧x=.int (lo+i*2),fun i _=>n≤i⟩
theorem turn_range2 {P:Program} {w:World} {K:PySem.W.Frag} {tg:Expr} (it:Addr) (lo:Int) (n:Nat):Turn P w K tg (It2 lo n) [it] it (fun i h=>IsRangeIter h it (lo+(i:Nat)*2) ((n:Int) - (i:Nat)) 2) where
 mem:=by simp
 obj:=fun i h st b hb=>by
  have e:b=it:=by simpa using hb
  subst e
  exact ⟨_,st,fun v z=>by
   have z':Data.fields _=Data.cell v:=z
   cases z'⟩
 keep:=fun i h h' st k=>k it (by simp) _ st
 item:=by
  intro X hP hw hK hc i pins s σ H E I hf st hg
  subst hP hw hK
  obtain ⟨f0,f1,f2,f3,f4,f5⟩:=hf it (by simp)
  have W:=Walks.range (prog:=X.prog) (w:=X.w) (I.ok.hd hc) it lo 2 n
  refine W.item i s _ _ hg st fun v h' tk hv st' kk=>?_
  obtain ⟨t,rfl⟩:=hv
  have I1:Inv X pins σ H { s with heap:=h',toks:=tk }:=I.turned (fun b o hb e=>kk b o (by simpa using hb) e) f0 f1 f3 f4 f5
  exact ⟨_,rfl,go_of (s:={ s with heap:=h',toks:=tk }) (n:="range_iterator") st' rfl rfl (by decide) ⟨.int (lo+i*2),H,I1,⟨t,rfl⟩,⟨rfl,rfl⟩,st',fun b hb=>(hf b hb).1⟩⟩
 done:=by
  intro X hP hw hK hc i pins s σ H E I hf st hg
  subst hP hw hK
  obtain ⟨f0,f1,f2,f3,f4,f5⟩:=hf it (by simp)
  exact wpAny_pyNext_range_end (I.ok.hd hc) st (by have:n≤i:=hg; omega) fun h' eb=>⟨rfl,I.turned (t':=s.toks) (fun b o hb e=>eb b o hb e) f0 f1 f3 f4 f5⟩
 self:=fun _ _ _ _ _ st h=>wpAny_pyIter_rangeiter st h
def cnt2 (i j:Int):Nat:=((j - i+1) / 2).toNat
theorem size_two {i j:Int} (h:i≤j):Builtin.Range.rangeSize i j 2=((cnt2 i j:Nat):Int):=by
 unfold Builtin.Range.rangeSize cnt2
 rw [if_pos (by decide:(2:Int) > 0)]
 split<;>omega
theorem small_two {i j:Int} (h0:0≤i) (h:i≤j) (hj:j<2 ^ 40):Builtin.Range.small i j 2=true:=by
 unfold Builtin.Range.small
 rw [size_two h]
 unfold cnt2
 simp only [Builtin.Range.rangeFitsLong,Bool.and_eq_true,Bool.or_eq_true,decide_eq_true_eq,beq_iff_eq,if_pos (by decide:(2:Int) > 0)]
 omega
def iRng3 (ta:TA):TI:=fun σ H R=>ta σ H fun vs H1=>∃ i j:Int,vs=[.int i,.int j,.int 2]∧0≤i∧i≤j∧j<2 ^ 40∧R (It2 i (cnt2 i j)) H1
section
variable {X:Cx} {tg:Expr}
theorem pi_range3 {a b c:Expr} {ta:TA} {p pos:Pos} (hg:Gl X "range") (hm:X.mg "range"=none) (ha:PA X [a,b,c] ta) (hs:starEach [a,b,c] X.env=(false,eval a X.env)::starEach [b,c] X.env:=by rfl)
  (hpl:(backTo pos (starEach [b,c] X.env)).any (·.1)=false:=by rfl):PI X tg (.Call (.Name "range" p) [a,b,c] [] pos) (iRng3 ta):=by
 intro pins s σ H R I h
 refine Call_ (ld_blt I hg hm boot_range (PyProof.Rows.callWith_type1 (thn (ha pos pins s σ H _ I h) fun us s1 ⟨vs,H1,I1,r1,q1⟩=>?_) hs hpl))
 obtain ⟨i,j,e,h0,h1,h2,q⟩:=q1
 subst e
 cases r1 with
 | cons ra rr =>
  cases rr with
  | cons rb rr =>
   cases rr with
   | cons rc rr =>
    cases rr
    obtain ⟨t,rfl⟩:=ra
    obtain ⟨u,rfl⟩:=rb
    obtain ⟨v,rfl⟩:=rc
    refine call_range_3 (by decide) ?_ (.inl (PyProof.noPylong_small (by omega)))
    refine wpAny_pyIter_range (IsRange.new ..) (small_two h0 h1 h2) ?_
    have I2:Inv X pins σ H1 { s1 with heap:=s1.heap.push { cls:=.type "range",data:=.fields #[.int i t,.int j u,.int 2 v] },toks:=s1.toks }:=I1.kept fun b o e=>Heap.get?_push_of_some _ e
    refine ⟨_,[(s1.heap.push { cls:=.type "range",data:=.fields #[.int i t,.int j u,.int 2 v] }).objs.size],_,_,H1,rfl,I2.kept (t':=s1.toks) fun b o e=>Heap.get?_push_of_some _ e,turn_range2 _ i (cnt2 i j),?_,fun b hb=>?_,q⟩
    ·have e1:i+((0:Nat):Int)*2=i:=by simp
     have e2:((cnt2 i j:Nat):Int) - ((0:Nat):Int)=Builtin.Range.rangeSize i j 2:=by rw [size_two h1]; simp
     show IsRangeIter _ _ (i+((0:Nat):Int)*2) (((cnt2 i j:Nat):Int) - ((0:Nat):Int)) 2
     rw [e1,e2]
     exact Heap.get?_push_size _ rfl
    ·have e:b=(s1.heap.push { cls:=.type "range",data:=.fields #[.int i t,.int j u,.int 2 v] }).objs.size:=by simpa using hb
     subst e
     exact I2.fpOk (Nat.le_refl _) (I2.hok.fresh (Nat.le_refl _))
end
theorem rd_rng3 {ta:TA} {σ:St} {H:Hp} {R:It→Hp→Prop} (h:ta σ H fun vs H1=>∃ i j:Int,vs=[.int i,.int j,.int 2]∧0≤i∧i≤j∧j<2 ^ 40∧R (It2 i (cnt2 i j)) H1):iRng3 ta σ H R:=h
theorem forW_range2 {lo:Int} {n:Nat} {g:TG} {tb:TS} {D:Ends} {σ:St} {H:Hp} (Pv:Nat→St→Hp→Prop) (h0:Pv 0 σ H)
  (hs:∀ i σ H,i<n→Pv i σ H→g (.int (lo+i*2)) σ H fun σ2 H2=>tb { D with nx:=Pv (i+1),ct:=Pv (i+1),bk:=D.nx } σ2 H2) (hd:∀ σ H,Pv n σ H→D.nx σ H):ForW (It2 lo n) g tb D σ H:=by
 refine ⟨fun i m σ H=>i≤n∧m=n - i∧Pv i σ H,⟨_,Nat.zero_le _,rfl,h0⟩,fun i m σ H ⟨hi,hm,p⟩=>?_⟩
 by_cases h:i<n
 ·refine .inr ⟨h,Pv (i+1),fun σ' H' p'=>⟨n - (i+1),by omega,by omega,rfl,p'⟩,fun x H' y=>?_⟩
  obtain ⟨rfl,rfl⟩:=y
  exact hs i σ _ h p
 ·have e:i=n:=by omega
  subst e
  exact .inl ⟨Nat.le_refl _,hd σ H p⟩
theorem shp2 (x y:Int):SeqAt.shaped (.tuple [.int x,.int y])=true:=by rfl
theorem eqv2 (x y x' y':Int):PyData.eqv (.tuple [.int x,.int y]) (.tuple [.int x',.int y'])=decide ((x,y)=(x',y')):=by
 simp only [PyData.eqv,PyData.eqvAll]
 by_cases h1:x=x'<;>by_cases h2:y=y'<;>simp [h1,h2]
theorem rep2 {H:Hp} {a:Addr} {x y:Int} (h:H a=some (.tup [.int x,.int y])):Rep H (.tuple [.int x,.int y]) (.ref a):=by
 simp only [Rep,RepL]
 exact ⟨a,_,rfl,h,_,_,rfl,rfl,_,_,rfl,rfl,rfl⟩
theorem rd_neP {H:Hp} {Q:VK} {a b:Addr} {x y x' y':Int} (ha:H a=some (.tup [.int x,.int y])) (hb:H b=some (.tup [.int x',.int y'])) (q:Q (.bl (!decide ((x,y)=(x',y')))) H):rEqD true (.ref a) (.ref b) H Q :=
 ⟨_,_,rep2 ha,rep2 hb,shp2 _ _,shp2 _ _,by rw [if_pos rfl,eqv2]; exact q⟩
theorem rd_dnewT {σ:St} {H:Hp} {Q:VK} (h:∀ p,H p=none→Q (.ref p) (upd H p (.dT []))):tDNewT σ H Q:=h
theorem rd_dput {td ty tv:TE} {D:Ends} {σ:St} {H:Hp} (h:tv σ H fun v H1=>td σ H1 fun x H2=>ty σ H2 fun y H3=>∃ a H4,x=.ref a∧DPut H3 a y v H4∧D.nx σ H4):sDPut td ty tv D σ H:=h
theorem rd_din {ty td:TE} {σ:St} {H:Hp} {Q:VK} (h:ty σ H fun y H1=>td σ H1 fun x H2=>∃ a o,x=.ref a∧DGet H2 a y o∧Q (.bl o.isSome) H2):tDIn ty td σ H Q:=h
end L2
set_option Elab.async false
set_option linter.all false
set_option maxRecDepth 100000
namespace L2
open PySem PySem.Spec PyProof.Rows
section
variable {X:Cx} {pins:List (Addr×Obj)} {σ:St} {H:Hp} {s:Shared} {fp:List Addr} {scope:Scope} {N:List Str} {cap:List (Option Nat)}
end
section
variable {X:Cx} {elt tg iter:Expr} {ifs:List Expr} {scope:Scope} {pos:Pos} {N:List Str} {cap:List (Option Nat)} {wi:TI} {g:TG} {tt:TT} {te:TE}
end
end L2
set_option Elab.async false
set_option linter.all false
set_option maxRecDepth 100000
set_option maxHeartbeats 4000000
namespace L2
open PySem PySem.Spec PyProof.Rows
theorem nolen_rv:typeLookup (.type "list_reverseiterator") "__len__"=pure none:=by rw [typeLookup_type,builtinLookup_eq_fast]; kernel_rfl
theorem hint_rv:typeLookup (.type "list_reverseiterator") "__length_hint__"=pure (some (.builtin "list_reverseiterator.__length_hint__")):=by rw [typeLookup_type,builtinLookup_eq_fast]; kernel_rfl
section
variable {prog:Program} {w:World} {A:Around} {E:Value→Shared→Prop} {s:Shared} {R:Result→Shared→Prop} {I:Addr} {fp wr:List Addr} {G:Array GenState→Array GenState→Prop} {n:Nat} {P:Nat→Value→Prop} {St:Nat→Shared→Prop}
theorem ext_rv (W:WalksS prog w A.in1 I fp wr G n P St) (hT:∀ i s,St i s→s.TypeIs (.ref I) "list_reverseiterator") (S:Addr) (res:Value) (c₀:Nat) (st0:St 0 s) (nS:S∉fp) (hI:I∈fp) (oS:s.heap.get? S=some { cls:=.type "list",data:=.seq #[] c₀ }) (hn:n≤sizeLine)
  (k:∀ s' acc' c',Moved (S::wr) G s s'→s'.heap.get? S=some { cls:=.type "list",dict:=none,data:=.seq acc' c',slots:=#[] }→ItemsOf P acc' n→R (.ok (.ret res)) s') :
  wpAny (model prog w) A.in1 (Builtin.List.listExtendWith (.ref S) (.ref I) res) (fun fin s'=>match fin with | .done f=>R (.ok f) s' | .again c'=>c'.quiet=true∧codeAny (model prog w) A c' R s') (fun e s'=>R (.error e) s') s:=by
 have nSI:S≠I:=fun e=>nS (e ▸ hI)
 (unfold Builtin.List.listExtendWith; refine wpAny_bind (wpAny_typeOf (hT 0 _ st0) ?_))
 have b1:Builtin.List.listSameRef (.ref S) (.ref I)=false:=by simp [Builtin.List.listSameRef,nSI]
 have b2:(Value.type "list_reverseiterator"==Value.type "list")=false:=by decide
 have b3:(Value.type "list_reverseiterator"==Value.type "tuple")=false:=by decide
 (simp only [b1,b2,b3,Bool.or_false,Bool.false_eq_true,if_false]; refine wpAny_bind (W.self 0 _ _ _ st0 (wpAny_bind (wpAny_holding ?_))))
 (unfold Builtin.List.listLengthHint; refine wpAny_bind (wpAny_specialOf (hT 0 _ st0) nolen_rv ?_); show wpAny _ A.in1 (specialOf (Value.ref I) (Str.ofString "__length_hint__") >>= _) _ _ _; refine wpAny_bind (wpAny_specialOf (hT 0 _ st0) hint_rv ?_))
 generalize hid:("list_reverseiterator.__length_hint__":String)=id0
 (wp_delta; rw [show splitId id0=some ("list_reverseiterator","__length_hint__") from by subst hid; decide +kernel]; subst hid)
 (refine wpAny_bind (wpAny_isInstance (T:="list_reverseiterator") (b:=true) (hT 0 _ st0) (by rw [isSubtype_type]; kernel_rfl) ?_); refine wpAny_pure ?_; rw [if_neg (by decide)])
 exact wpAny_pure ⟨plainId_quiet F.plain_extend_loop _,codeAny_extend_loopS W hn _ nS _ n 0 _ _ _ rfl (Nat.zero_le _) st0 oS (ItemsOf.nil P) fun s' acc' c' hm hS' hacc=>k s' acc' c' hm hS' hacc⟩
theorem init_rv (W:WalksS prog w A.in1 I fp wr G n P St) (hT:∀ i s,St i s→s.TypeIs (.ref I) "list_reverseiterator") (S:Addr) (st0:St 0 s) (nS:S∉fp) (hI:I∈fp) (oS:s.heap.get? S=some { cls:=.type "list",data:=.seq #[] }) (hn:n≤sizeLine)
  (k:∀ s' acc' c',Moved (S::wr) G s s'→s'.heap.get? S=some { cls:=.type "list",dict:=none,data:=.seq acc' c',slots:=#[] }→ItemsOf P acc' n→R (.ok (.ret .none)) s') :
  wpAny (model prog w) A.in1 (Builtin.«list.__init__» ⟨[.ref S,.ref I],[]⟩) (fun fin s'=>match fin with | .done f=>R (.ok f) s' | .again c'=>c'.quiet=true∧codeAny (model prog w) A c' R s') (fun e s'=>R (.error e) s') s:=by
 (show wpAny _ A.in1 (do let old ← Builtin.List.listItems (.ref S); Builtin.List.listUpdate (.ref S) (fun _=>#[]); letGo old.toList.reverse; Builtin.List.listExtendWith (.ref S) (.ref I) .none) _ _ s; refine wpAny_bind ?_; unfold Builtin.List.listItems; refine wpAny_bind (wpAny_seqItems oS rfl (wpAny_pure ?_)))
 (show wpAny _ A.in1 (updateSeq S (fun _=>#[]) >>= fun _=>letGo (#[]:Array Value).toList.reverse >>= fun _=>Builtin.List.listExtendWith (.ref S) (.ref I) .none) _ _ s; refine wpAny_bind (wpAny_updateSeq oS rfl ?_))
 have oS2:=Heap.get?_update_self (Obj.mapSeq (fun _=>(#[]:Array Value))) oS rfl
 have rest:∀ b o,b≠S→s.heap.get? b=some o→(s.heap.update S (Obj.mapSeq (fun _=>(#[]:Array Value)))).get? b=some o:=fun b o hb e=>(Heap.get?_update_other _ _ (Ne.symm hb)).trans e
 refine wpAny_bind (wpAny_letGo (ext_rv W hT S .none _ (W.frame 0 s _ s.toks st0 (Nat.le_refl _) fun b hb o e=>rest b o (fun h=>nS (h ▸ hb)) e) nS hI oS2 hn fun s' acc' c' hm hS' hacc=>?_))
 exact k s' acc' c' (Moved.trans W.gtrans ((Moved.refl W.grefl).then_heap (Nat.le_refl _) fun b o hb e=>rest b o (fun h=>hb (h ▸ List.mem_cons_self)) e) hm) hS' hacc
theorem call_list_rv {Q:Value→Shared→Prop} (W:WalksS prog w A.in1.in1 I fp wr G n P St) (hT:∀ i s,St i s→s.TypeIs (.ref I) "list_reverseiterator") (st0:St 0 s) (hfp:∀ b∈fp,b<s.heap.objs.size) (hI:I∈fp) (hn:n≤sizeLine)
  (k:∀ s' acc' c',Moved (s.heap.objs.size::wr) G { s with heap:=s.heap.push { cls:=.type "list",data:=.seq #[] } } s'→s'.heap.get? s.heap.objs.size=some { cls:=.type "list",dict:=none,data:=.seq acc' c',slots:=#[] }→ItemsOf P acc' n→Q (.ref s.heap.objs.size) s') :
  wpAny (model prog w) A (call (.type "list") [.ref I]) Q E s:=by
 have nS:s.heap.objs.size∉fp:=fun hm=>Nat.lt_irrefl _ (hfp _ hm)
 refine callType_codes (Q₁:=fun obj s₁=>obj=.ref s.heap.objs.size∧s₁={ s with heap:=s.heap.push { cls:=.type "list",data:=.seq #[] } }) F.called_list (F.typeCall_list_1 _) F.entry_list_init (code_list_new _ ⟨rfl,rfl⟩) fun obj s₁ h₁=>?_
 obtain ⟨rfl,rfl⟩:=h₁
 have oS:(s.heap.push { cls:=.type "list",data:=.seq #[] }).get? s.heap.objs.size=some { cls:=.type "list",data:=.seq #[] }:=Heap.get?_push_size _ rfl
 refine ⟨⟨_,oS,rfl⟩,F.args_list_init_2 _ _,init_rv W hT _ (W.frame 0 s _ s.toks st0 (Nat.le_refl _) fun b _ o e=>Heap.get?_push_of_some _ e) nS hI oS hn fun s' acc' c' hm hS' hacc=>⟨rfl,k s' acc' c' hm hS' hacc⟩⟩
end
def tRevL (K:PySem.W.Frag) (te:TE):TE:=fun σ H Q=>te σ H fun x H1=>∃ p ys,x=.ref p∧SqL K H1 p ys∧∀ l,H1 l=none→Q (.ref l) (upd H1 l (.lst ys.reverse))
theorem items_rev {its:List Value} {acc:Array Value} (h:ItemsOf (fun i v=>its.toArray[its.toArray.size - 1 - i]?=some v) acc its.toArray.size):acc.toList=its.reverse:=by
 obtain ⟨h1,h2⟩:=h
 apply List.ext_getElem?
 intro i
 by_cases hi:i<its.length
 ·have hs:i<acc.size:=by rw [h1]; simpa using hi
  have:=h2 i acc[i] (by simp [hs])
  rw [List.getElem?_reverse hi,Array.getElem?_toList,Array.getElem?_eq_getElem hs,← this]
  simp
 ·rw [List.getElem?_eq_none (by rw [Array.length_toList,h1]; simp; omega),List.getElem?_eq_none (by rw [List.length_reverse]; omega)]
def rRev (K:PySem.W.Frag) (x:V) (H:Hp) (Q:VK):Prop:=∃ p ys,x=.ref p∧SqL K H p ys∧∀ l,H l=none→Q (.ref l) (upd H l (.lst ys.reverse))
theorem rd_revh {K:PySem.W.Frag} {te:TE} {σ:St} {H:Hp} {Q:VK} (h:te σ H fun x H1=>rRev K x H1 Q):tRevL K te σ H Q:=h
theorem rd_rev {K:PySem.W.Frag} {a:Addr} {ys:List V} {H:Hp} {Q:VK} (e:H a=some (.lst ys)) (h:∀ l,H l=none→Q (.ref l) (upd H l (.lst ys.reverse))):rRev K (.ref a) H Q:=⟨a,ys,rfl,SqL.of e,h⟩
section
variable {X:Cx}
theorem _root_.L2.Vals.rev {xs:List V} {vs:List Value} (h:Vals xs vs):Vals xs.reverse vs.reverse:=by
 induction h with
 | nil=>exact .nil
 | cons a b ih=>rw [List.reverse_cons,List.reverse_cons]; exact ih.append (.cons a .nil)
theorem pe_revL {e:Expr} {te:TE} {p p2 pos pos2:Pos} (K:PySem.W.Frag) (hK:X.K=K) (hc:X.calm=true) (hg:Gl X "list") (hm:X.mg "list"=none) (hg2:Gl X "reversed") (hm2:X.mg "reversed"=none) (ha:PE X e te)
  (hs:starEach [.Call (.Name "reversed" p2) [e] [] pos2] X.env=[(false,eval (.Call (.Name "reversed" p2) [e] [] pos2) X.env)]:=by rfl) (hs2:starEach [e] X.env=[(false,eval e X.env)]:=by rfl) :
  PE X (.Call (.Name "list" p) [.Call (.Name "reversed" p2) [e] [] pos2] [] pos) (tRevL K te):=by
 subst hK
 intro pins s σ H Q I h
 refine wpAny_Call_Name_kw (ld_blt I hg hm (by rfl) ?_ (by decide) (by decide))
 refine PyProof.Rows.callWith_type1 ?_ hs (by rfl)
 rw [hs]
 refine Calls.spliced_cons (wpAny_Call_Name_kw (ld_blt I hg2 hm2 (by rfl) ?_ (by decide) (by decide)))
 refine PyProof.Rows.callWith_type1 ?_ hs2 (by rfl)
 rw [hs2]
 refine Calls.spliced_cons (thn (ha pins s σ H _ I h) fun v s1 ⟨x,H1,I1,r1,a,ys,hx,hl,q1⟩=>Calls.spliced_nil ?_)
 subst hx
 cases r1
 obtain ⟨its,r,pl,hz⟩:=I1.list hl
 have hlen:=r.length
 refine call_reversed_list pl.isList (Calls.spliced_nil ?_)
 have alt:a<s1.heap.objs.size:=by obtain ⟨o,ho,_⟩:=pl.isList; exact Heap.lt_size ho
 have I2:Inv X pins σ H1 { s1 with heap:=s1.heap.push (revObj a ((its.toArray.size:Int) - 1)) }:=I1.kept (t':=s1.toks) fun b ob q=>Heap.get?_push_of_some _ q
 have hne:a≠s1.heap.objs.size:=Nat.ne_of_lt alt
 refine call_list_rv (Walks.listRev (A:=X.A.in1.in1) (I.ok.hd hc) s1.heap.objs.size a hne its.toArray).toS (fun i s' st=>st.2.1.typeIs) ?_ ?_ (by simp) (by simp only [List.size_toArray]; omega) ?_
 ·refine ⟨Nat.zero_le _,⟨_,Heap.get?_push_size _ rfl,rfl,?_⟩,?_⟩
  ·simp [revObj]
  ·exact pl.isList.at fun o e=>Heap.get?_push_of_some _ e
 ·intro b hb
  show b<(s1.heap.push _).objs.size
  rw [Heap.size_push]
  rcases List.mem_cons.mp hb with z | z
  ·rw [z]; exact Nat.lt_succ_self _
  ·rw [show b=a from by simpa using z]; exact Nat.lt_succ_of_lt alt
 ·intro s' acc' c' hm' hS' hacc
  have hi:=items_rev hacc
  have e1:=hm'.gens
  have e2:=hm'.drawn
  have e3:=hm'.os
  have kp:=hm'.heap
  obtain ⟨h',g',d',t',o'⟩:=s'
  dsimp only at e1 e2 e3 kp hS' ⊢
  subst e1 e2 e3
  have es:(s1.heap.push (revObj a ((its.toArray.size:Int) - 1))).objs.size=s1.heap.objs.size+1:=Heap.size_push ..
  rw [es] at hS' kp ⊢
  have keep:∀ b u,s1.heap.get? b=some u→h'.get? b=some u:=fun b u e=>by
   have hb:=Heap.lt_size e
   refine kp b u (fun z=>?_) (Heap.get?_push_of_some _ (Heap.get?_push_of_some _ e))
   rcases List.mem_cons.mp z with z | z
   ·rw [z] at hb; exact absurd hb (Nat.not_lt.mpr (Nat.le_succ _))
   ·rw [show b=s1.heap.objs.size from by simpa using z] at hb; exact Nat.lt_irrefl _ hb
  refine ⟨.ref _,_,I1.laid (t':=t') (o:=.lst ys.reverse) keep (Nat.le_succ _) ?_,rfl,q1 _ (I1.hok.fresh (Nat.le_succ _))⟩
  refine ⟨by rw [List.length_reverse]; exact hz,its.reverse,c',r.rev,?_⟩
  rw [← hi]
  exact hS'
end
end L2
set_option Elab.async false
set_option linter.all false
set_option maxHeartbeats 1000000
namespace NR
def sm:Nat→(Nat→Int)→Int
 | 0,_=>0
 | n+1,f=>sm n f+f n
def ib (p:Prop) [Decidable p]:Int:=if p then 1 else 0
theorem sm_congr {n:Nat} {f g:Nat→Int} (h:∀ i,i<n→f i=g i):sm n f=sm n g:=by
 induction n with
 | zero=>rfl
 | succ n ih=>rw [sm,sm,ih fun i hi=>h i (by omega),h n (by omega)]
theorem sm_zero (n:Nat):sm n (fun _=>0)=0:=by
 induction n with
 | zero=>rfl
 | succ n ih=>rw [sm,ih]; rfl
theorem sm_add (n:Nat) (f g:Nat→Int):sm n (fun i=>f i+g i)=sm n f+sm n g:=by
 induction n with
 | zero=>rfl
 | succ n ih=>rw [sm,sm,sm,ih]; omega
theorem sm_sub (n:Nat) (f g:Nat→Int):sm n (fun i=>f i - g i)=sm n f - sm n g:=by
 induction n with
 | zero=>rfl
 | succ n ih=>rw [sm,sm,sm,ih]; omega
theorem sm_const (n:Nat) (c:Int):sm n (fun _=>c)=n*c:=by
 induction n with
 | zero=>simp [sm]
 | succ n ih=>rw [sm,ih,show ((n+1:Nat):Int)=(n:Int)+1 by omega,Int.add_mul,Int.one_mul]
theorem sm_first (n:Nat) (f:Nat→Int):sm (n+1) f=f 0+sm n (fun i=>f (i+1)):=by
 induction n with
 | zero=>simp [sm]
 | succ n ih=>rw [sm,ih,sm]; omega
theorem sm_pairs (n:Nat) (F:Nat→Nat→Int):sm n (fun k=>sm n fun i=>F i k)=sm n (fun k=>sm k fun i=>F i k+F k i)+sm n (fun i=>F i i):=by
 induction n with
 | zero=>rfl
 | succ n ih =>
  rw [sm,sm_congr (f:=fun k=>sm (n+1) fun i=>F i k) (g:=fun k=>(sm n fun i=>F i k)+F n k) fun _ _=>rfl,sm_add,ih,sm,sm,sm,sm_add]
  omega
theorem sm_even {n:Nat} {f:Nat→Int} (h:∀ i,i<n→f i%2=0):sm n f%2=0:=by
 induction n with
 | zero=>rfl
 | succ n ih=>rw [sm]; have:=ih fun i hi=>h i (by omega); have:=h n (by omega); omega
theorem sm_mod {n:Nat} {f g:Nat→Int} (h:∀ i,i<n→(f i - g i)%2=0):(sm n f - sm n g)%2=0:=by
 rw [← sm_sub]; exact sm_even h
theorem sm_round {n:Nat} {f:Nat→Int} (h:f n=f 0):sm n (fun i=>f (i+1))=sm n f:=by
 cases n with
 | zero=>rfl
 | succ n=>rw [sm_first n f,sm,h]; omega
structure Orb (n:Nat) (e d:Int→Int) (X Y:Nat→Int):Prop where
 pos:0<n
 he:∀ y,e y=1∨e y=-1
 hd:∀ x,d x=1∨d x=-1
 sx:∀ i,X (i+1)=X i+e (Y i)
 sy:∀ i,Y (i+1)=Y i+d (X (i+1))
 cx:X n=X 0
 cy:Y n=Y 0
 dist:∀ i k,i<n→k<n→X i=X k→Y i=Y k→i=k
section
variable {n:Nat} {e d:Int→Int} {X Y:Nat→Int}
theorem Orb.par (o:Orb n e d X Y) (i:Nat):(X i+Y i - (X 0+Y 0))%2=0:=by
 induction i with
 | zero=>omega
 | succ i ih=>rw [o.sy,o.sx]; have:=o.he (Y i); have:=o.hd (X i+e (Y i)); omega
theorem Orb.low (o:Orb n e d X Y) (i:Nat):Y 0 - (i:Int)≤Y i:=by
 induction i with
 | zero=>omega
 | succ i ih=>rw [o.sy]; have:=o.hd (X (i+1)); omega
theorem sm_tele (n:Nat) (f:Nat→Int):sm n (fun i=>f (i+1) - f i)=f n - f 0:=by
 induction n with
 | zero=>rw [sm]; omega
 | succ n ih=>rw [sm,ih]; omega
theorem Orb.level (o:Orb n e d X Y) (F:Int→Int):sm n (fun i=>if d (X (i+1))=1 then F (Y i) else 0)=sm n (fun i=>if d (X (i+1))=1 then 0 else F (Y (i+1))):=by
 have h:=sm_tele n fun i=>sm (Y i - (Y 0 - n)).toNat fun j=>F (Y 0 - n+j)
 rw [o.cy,Int.sub_self] at h
 have:sm n (fun i=>(if d (X (i+1))=1 then F (Y i) else 0) - (if d (X (i+1))=1 then 0 else F (Y (i+1))))=0:=by
  rw [← h]
  refine sm_congr fun i hi=>?_
  have l1:=o.low i
  have l2:=o.low (i+1)
  have sy:=o.sy i
  rcases o.hd (X (i+1)) with q | q
  ·rw [if_pos q,if_pos q]
   rw [q] at sy
   rw [sy,show (Y i+1 - (Y 0 - n)).toNat=(Y i - (Y 0 - n)).toNat+1 by omega,sm,show Y 0 - (n:Int)+(((Y i - (Y 0 - n)).toNat:Nat):Int)=Y i by omega]
   omega
  ·have q1:¬ d (X (i+1))=1:=by rw [q]; decide
   rw [if_neg q1,if_neg q1]
   rw [q] at sy
   rw [show Y i=Y (i+1)+1 by omega,show (Y (i+1)+1 - (Y 0 - n)).toNat=(Y (i+1) - (Y 0 - n)).toNat+1 by omega,sm,show Y 0 - (n:Int)+(((Y (i+1) - (Y 0 - n)).toNat:Nat):Int)=Y (i+1) by omega]
   omega
 rw [sm_sub] at this
 omega
def s1 (X Y:Nat→Int) (i k:Nat):Int:=ib (Y (i+1)<Y (k+1)∨(Y (i+1)=Y (k+1)∧X (i+1)<X (k+1)))
def s2 (X Y:Nat→Int) (i k:Nat):Int:=ib (Y i<Y k∨(Y i=Y k∧X (i+1)<X (k+1)))
theorem Orb.s12 (o:Orb n e d X Y) (i k:Nat):s2 X Y (i+1) (k+1)=s1 X Y i k:=by
 unfold s1 s2 ib
 rw [o.sx (i+1),o.sx (k+1)]
 by_cases h:Y (i+1)=Y (k+1)
 ·rw [h]
  split<;>split<;>omega
 ·split<;>split<;>omega
theorem Orb.round (o:Orb n e d X Y) (k:Nat):s2 X Y n k=s2 X Y 0 k:=by
 unfold s2
 rw [o.sx n,o.cx,o.cy,← o.sx 0]
theorem Orb.tot (o:Orb n e d X Y) {i k:Nat} (hi:i<n) (hk:k<n) (h:i≠k):s1 X Y i k+s1 X Y k i=1:=by
 unfold s1 ib
 have a:=o.sy i
 have b:=o.sy k
 have c:=o.sx i
 have f:=o.sx k
 by_cases hy:Y (i+1)=Y (k+1)
 ·by_cases hx:X (i+1)=X (k+1)
  ·rw [hx] at a
   have y0:Y i=Y k:=by omega
   rw [y0] at c
   exact absurd (o.dist i k hi hk (by omega) y0) h
  ·split<;>split<;>omega
 ·split<;>split<;>omega
theorem Orb.swaps (o:Orb n e d X Y):(sm n (fun k=>sm k fun i=>s1 X Y i k - s2 X Y i k) - ((n:Int) - 1))%2=0:=by
 obtain ⟨m,rfl⟩:∃ m,n=m+1:=⟨n - 1,by have:=o.pos; omega⟩
 rw [sm_congr (g:=fun k=>(sm k fun i=>s1 X Y i k) - sm k fun i=>s2 X Y i k) fun k _=>sm_sub k _ _,sm_sub]
 have h2:sm (m+1) (fun k=>sm k fun i=>s2 X Y i k)=sm m (fun k=>s1 X Y m k)+sm m (fun k=>sm k fun i=>s1 X Y i k):=by
  rw [sm_first,← sm_add]
  show 0+_=_
  rw [Int.zero_add]
  refine sm_congr fun k hk=>?_
  rw [sm_first,← o.round,o.s12]
  congr 1
  exact sm_congr fun i _=>o.s12 i k
 rw [h2,sm]
 have h3:(sm m (fun i=>s1 X Y i m) - sm m (fun k=>s1 X Y m k) - (m:Int))%2=0:=by
  have:=sm_mod (n:=m) (f:=fun i=>s1 X Y i m - s1 X Y m i) (g:=fun _=>1) fun i hi=>by
   have:=o.tot (show i<m+1 by omega) (show m<m+1 by omega) (by omega)
   omega
  rw [sm_sub,sm_const,Int.mul_one] at this
  exact this
 omega
def Up (d:Int→Int) (X:Nat→Int) (i:Nat):Prop:=d (X (i+1))=1
instance (d:Int→Int) (X:Nat→Int) (i:Nat):Decidable (Up d X i):=inferInstanceAs (Decidable (_=_))
theorem Orb.up (o:Orb n e d X Y) {i:Nat} (h:Up d X i):Y (i+1)=Y i+1:=by rw [o.sy,h]
theorem Orb.dn (o:Orb n e d X Y) {i:Nat} (h:¬ Up d X i):Y (i+1)=Y i - 1:=by
 rcases o.hd (X (i+1)) with q | q
 ·exact absurd q h
 ·rw [o.sy,q]; omega
theorem Orb.apart (o:Orb n e d X Y) {i k:Nat} (hi:Up d X i) (hk:¬ Up d X k):X (i+1)≠X (k+1):=fun z=>hk (by unfold Up; rw [← z]; exact hi)
theorem Orb.own (o:Orb n e d X Y) {i k:Nat} (hi:i<n) (hk:k<n) (hx:X (i+1)=X (k+1)) (hy:Y i=Y k):i=k:=by
 have c:=o.sx i
 have f:=o.sx k
 rw [hy] at c
 exact o.dist i k hi hk (by omega) hy
theorem ib_one {n k:Nat} (hk:k<n):sm n (fun i=>ib (i=k))=1:=by
 induction n with
 | zero=>omega
 | succ n ih =>
  rw [sm]
  by_cases h:k=n
  ·subst h
   have z:sm k (fun i=>ib (i=k))=0:=(sm_congr fun i hi=>(by unfold ib; exact if_neg (by omega))).trans (sm_zero k)
   rw [z,ib,if_pos rfl]; rfl
  ·rw [ih (by omega),ib,if_neg (by omega)]; rfl
theorem Orb.flow (o:Orb n e d X Y) (r t:Int):sm n (fun i=>ib (Y i=r∧X (i+1)<t))=sm n (fun i=>ib (Y (i+1)=r∧X (i+1)+e r<t)):=by
 rw [← sm_round (f:=fun i=>ib (Y i=r∧X (i+1)<t)) (by rw [o.sx n,o.cx,o.cy,← o.sx 0])]
 refine sm_congr fun i _=>?_
 unfold ib
 rw [o.sx (i+1)]
 by_cases h:Y (i+1)=r
 ·rw [h]
 ·rw [if_neg fun z=>h z.1,if_neg fun z=>h z.1]
theorem Orb.hit (o:Orb n e d X Y) {k:Nat} (hk:k<n):sm n (fun i=>ib (Y (i+1)=Y k∧X (i+1)+e (Y k)=X (k+1)))=1:=by
 have h:sm n (fun i=>ib (Y i=Y k∧X (i+1)=X (k+1)))=1:=by
  refine Eq.trans (sm_congr fun i hi=>?_) (ib_one hk)
  unfold ib
  by_cases h:i=k
  ·subst h; rw [if_pos ⟨rfl,rfl⟩,if_pos rfl]
  ·rw [if_neg fun z=>h (o.own hi hk z.2 z.1),if_neg h]
 rw [← h,← sm_round (f:=fun i=>ib (Y i=Y k∧X (i+1)=X (k+1))) (by rw [o.sx n,o.cx,o.cy,← o.sx 0])]
 refine sm_congr fun i _=>?_
 unfold ib
 rw [o.sx (i+1)]
 by_cases h:Y (i+1)=Y k
 ·rw [h]
 ·rw [if_neg fun z=>h z.1,if_neg fun z=>h z.1]
theorem Orb.flow1 (o:Orb n e d X Y) {k:Nat} (hk:k<n):sm n (fun i=>ib (Y i=Y k∧X (i+1)<X (k+1))) - sm n (fun i=>ib (Y (i+1)=Y k∧X (i+1)<X (k+1)))=- ib (e (Y k)=1):=by
 rw [o.flow,← sm_sub]
 have pk:=o.par k
 have sk:=o.sx k
 have ht:=o.hit hk
 rcases o.he (Y k) with q | q
 ·rw [q] at ht ⊢
  rw [sm_congr (g:=fun i=>0 - ib (Y (i+1)=Y k∧X (i+1)+1=X (k+1))) fun i _=>?_,sm_sub,sm_zero,ht]
  ·rfl
  ·unfold ib
   split<;>split<;>split<;>omega
 ·rw [q]
  rw [sm_congr (g:=fun i=>0) fun i _=>?_,sm_zero]
  ·rfl
  ·have pi:=o.par (i+1)
   unfold ib
   rw [q] at sk
   split<;>split<;>omega
theorem Orb.flow2 (o:Orb n e d X Y) {k:Nat} (hk:k<n):sm n (fun i=>ib (Y i=Y (k+1)∧X (i+1)<X (k+1))) - sm n (fun i=>ib (Y (i+1)=Y (k+1)∧X (i+1)<X (k+1)))=ib (e (Y (k+1))=-1):=by
 rw [o.flow,← sm_sub]
 have pk:=o.par (k+1)
 rcases o.he (Y (k+1)) with q | q
 ·rw [q]
  rw [sm_congr (g:=fun i=>0) fun i _=>?_,sm_zero]
  ·rfl
  ·have pi:=o.par (i+1)
   unfold ib
   split<;>split<;>omega
 ·rw [q]
  rw [sm_congr (g:=fun i=>ib (i=k)) fun i hi=>?_,ib_one hk]
  ·rfl
  ·have yi:=o.sy i
   have yk:=o.sy k
   unfold ib
   by_cases h:Y (i+1)=Y (k+1)∧X (i+1)=X (k+1)
   ·rw [h.2] at yi
    have:i=k:=o.own hi hk h.2 (by omega)
    subst this
    rw [if_pos ⟨rfl,by omega⟩,if_neg (by omega),if_pos rfl]; rfl
   ·have:i≠k:=fun z=>h (by rw [z]; exact ⟨rfl,rfl⟩)
    rw [if_neg this]
    split<;>split<;>omega
theorem Orb.tot2 (o:Orb n e d X Y) {i k:Nat} (hi:i<n) (hk:k<n) (h:i≠k):s2 X Y i k+s2 X Y k i=1:=by
 unfold s2 ib
 by_cases hy:Y i=Y k
 ·by_cases hx:X (i+1)=X (k+1)
  ·exact absurd (o.own hi hk hx hy) h
  ·split<;>split<;>omega
 ·split<;>split<;>omega
theorem Orb.mixed (o:Orb n e d X Y):(sm n (fun k=>sm n fun i=>if Up d X i∧¬ Up d X k then s1 X Y i k - s2 X Y i k else 0) - sm n (fun k=>sm k fun i=>s1 X Y i k - s2 X Y i k))%2=0:=by
 rw [sm_pairs n fun i k=>if Up d X i∧¬ Up d X k then s1 X Y i k - s2 X Y i k else 0]
 have dz:sm n (fun i=>if Up d X i∧¬ Up d X i then s1 X Y i i - s2 X Y i i else 0)=0:=(sm_congr fun i _=>if_neg fun z=>z.2 z.1).trans (sm_zero n)
 rw [dz,Int.add_zero]
 refine sm_mod fun k hk=>sm_mod fun i hi=>?_
 have t1:=o.tot (show i<n by omega) hk (by omega)
 have t2:=o.tot2 (show i<n by omega) hk (by omega)
 by_cases a:Up d X i<;>by_cases b:Up d X k
 ·rw [if_neg fun z=>z.2 b,if_neg fun z=>z.2 a]
  have ea:=o.up a
  have eb:=o.up b
  have:s1 X Y i k=s2 X Y i k:=by
   unfold s1 s2 ib
   rw [ea,eb]
   split<;>split<;>omega
  omega
 ·rw [if_pos ⟨a,b⟩,if_neg fun z=>z.2 a]
  omega
 ·rw [if_neg fun z=>z.2 b,if_pos ⟨b,a⟩]
  omega
 ·rw [if_neg fun z=>a z.1,if_neg fun z=>b z.1]
  have ea:=o.dn a
  have eb:=o.dn b
  have:s1 X Y i k=s2 X Y i k:=by
   unfold s1 s2 ib
   rw [ea,eb]
   split<;>split<;>omega
  omega
theorem Orb.pair (o:Orb n e d X Y) {i k:Nat} (a:Up d X i) (b:¬ Up d X k) :
  (s1 X Y i k - s2 X Y i k - (ib (Y i=Y k∧X (i+1)<X (k+1)) - ib (Y (i+1)=Y (k+1)∧X (i+1)<X (k+1))+ib (Y (i+1)=Y (k+1))+ib (Y i=Y (k+1))))%2=0:=by
 have ea:=o.up a
 have eb:=o.dn b
 have hx:=o.apart a b
 unfold s1 s2 ib
 rw [ea,eb]
 (repeat' split)<;>omega
theorem Orb.met (o:Orb n e d X Y) {k:Nat} (hk:k<n) (b:¬ Up d X k) :
    sm n (fun i=>if Up d X i then ib (Y i=Y k∧X (i+1)<X (k+1)) - ib (Y (i+1)=Y (k+1)∧X (i+1)<X (k+1))+ib (Y (i+1)=Y (k+1))+ib (Y i=Y (k+1)) else 0) =
    sm n (fun i=>if Up d X i then 0 else ib (Y (i+1)=Y k∧X (i+1)<X (k+1)) - ib (Y i=Y (k+1)∧X (i+1)<X (k+1))+ib (Y i=Y (k+1))+ib (Y (i+1)=Y (k+1))) - ib (e (Y k)=1)+ib (e (Y (k+1))=-1):=by
  have f1:=o.flow1 hk
  have f2:=o.flow2 hk
  have eb:=o.dn b
  have l1:sm n (fun i=>if Up d X i then ib (Y (i+1)=Y (k+1)) else 0)=sm n (fun i=>if Up d X i then 0 else ib (Y i=Y (k+1))):=by
    refine Eq.trans (sm_congr fun i _=>?_) ((o.level fun m=>ib (m+1=Y (k+1))).trans (sm_congr fun i _=>?_))
    · by_cases a:Up d X i
      · rw [if_pos a,if_pos (show d (X (i+1))=1 from a),o.up a]
      · rw [if_neg a,if_neg (show ¬ d (X (i+1))=1 from a)]
    · by_cases a:Up d X i
      · rw [if_pos a,if_pos (show d (X (i+1))=1 from a)]
      · rw [if_neg a,if_neg (show ¬ d (X (i+1))=1 from a),o.dn a,Int.sub_add_cancel]
  have l2:sm n (fun i=>if Up d X i then ib (Y i=Y (k+1)) else 0)=sm n (fun i=>if Up d X i then 0 else ib (Y (i+1)=Y (k+1))):=o.level fun m=>ib (m=Y (k+1))
  have fl:sm n (fun i=>if Up d X i then ib (Y i=Y k∧X (i+1)<X (k+1)) - ib (Y (i+1)=Y (k+1)∧X (i+1)<X (k+1)) else 0) =
      sm n (fun i=>if Up d X i then 0 else ib (Y (i+1)=Y k∧X (i+1)<X (k+1)) - ib (Y i=Y (k+1)∧X (i+1)<X (k+1))) - ib (e (Y k)=1)+ib (e (Y (k+1))=-1):=by
    rw [← sm_sub] at f1 f2
    have f12:=congr (congrArg HAdd.hAdd f1) f2
    rw [← sm_add] at f12
    have:sm n (fun i=>(if Up d X i then ib (Y i=Y k∧X (i+1)<X (k+1)) - ib (Y (i+1)=Y (k+1)∧X (i+1)<X (k+1)) else 0) - (if Up d X i then 0 else ib (Y (i+1)=Y k∧X (i+1)<X (k+1)) - ib (Y i=Y (k+1)∧X (i+1)<X (k+1))))=- ib (e (Y k)=1)+ib (e (Y (k+1))=-1):=by
      rw [← f12]
      refine sm_congr fun i _=>?_
      by_cases a:Up d X i
      · have ea:=o.up a
        have:ib (Y (i+1)=Y k∧X (i+1)<X (k+1))=ib (Y i=Y (k+1)∧X (i+1)<X (k+1)):=by
          unfold ib
          rw [ea,eb]
          split<;>split<;>omega
        rw [if_pos a,if_pos a]
        omega
      · have ea:=o.dn a
        have:ib (Y (i+1)=Y (k+1)∧X (i+1)<X (k+1))=ib (Y i=Y k∧X (i+1)<X (k+1)):=by
          unfold ib
          rw [ea,eb]
          split<;>split<;>omega
        rw [if_neg a,if_neg a]
        omega
    rw [sm_sub] at this
    omega
  have split1:sm n (fun i=>if Up d X i then ib (Y i=Y k∧X (i+1)<X (k+1)) - ib (Y (i+1)=Y (k+1)∧X (i+1)<X (k+1))+ib (Y (i+1)=Y (k+1))+ib (Y i=Y (k+1)) else 0) =
      sm n (fun i=>if Up d X i then ib (Y i=Y k∧X (i+1)<X (k+1)) - ib (Y (i+1)=Y (k+1)∧X (i+1)<X (k+1)) else 0)+sm n (fun i=>if Up d X i then ib (Y (i+1)=Y (k+1)) else 0)+sm n (fun i=>if Up d X i then ib (Y i=Y (k+1)) else 0):=by
    rw [← sm_add,← sm_add]
    refine sm_congr fun i _=>?_
    by_cases a:Up d X i
    · simp only [if_pos a]
    · simp only [if_neg a]; omega
  have split2:sm n (fun i=>if Up d X i then 0 else ib (Y (i+1)=Y k∧X (i+1)<X (k+1)) - ib (Y i=Y (k+1)∧X (i+1)<X (k+1))+ib (Y i=Y (k+1))+ib (Y (i+1)=Y (k+1))) =
      sm n (fun i=>if Up d X i then 0 else ib (Y (i+1)=Y k∧X (i+1)<X (k+1)) - ib (Y i=Y (k+1)∧X (i+1)<X (k+1)))+sm n (fun i=>if Up d X i then 0 else ib (Y i=Y (k+1)))+sm n (fun i=>if Up d X i then 0 else ib (Y (i+1)=Y (k+1))):=by
    rw [← sm_add,← sm_add]
    refine sm_congr fun i _=>?_
    by_cases a:Up d X i
    · simp only [if_pos a]; omega
    · simp only [if_neg a]
  rw [split1,split2,fl,l1,l2]
  omega
theorem ib_cut {p:Prop} [Decidable p] {a b:Int} (h:p→a≠b):ib (p∧a<b)+ib (p∧b<a)=ib p:=by
 unfold ib
 by_cases c:p
 ·have:=h c
  by_cases l:a<b
  ·rw [if_pos ⟨c,l⟩,if_neg (by omega),if_pos c]; rfl
  ·rw [if_neg fun z=>l z.2,if_pos ⟨c,by omega⟩,if_pos c]; rfl
 ·rw [if_neg fun z=>c z.1,if_neg fun z=>c z.1,if_neg c]; rfl
theorem ib_iff {p q:Prop} [Decidable p] [Decidable q] (h:p↔q):ib p=ib q:=by
 unfold ib
 by_cases c:p
 ·rw [if_pos c,if_pos (h.mp c)]
 ·rw [if_neg c,if_neg fun z=>c (h.mpr z)]
theorem Orb.odd (o:Orb n e d X Y):n%4=2:=by
  have hA:=o.swaps
  have hB:=o.mixed
  -- the pairs
  have hC:(sm n (fun k=>sm n fun i=>if Up d X i∧¬ Up d X k then s1 X Y i k - s2 X Y i k else 0) -
      sm n (fun k=>if Up d X k then 0 else sm n (fun i=>if Up d X i then ib (Y i=Y k∧X (i+1)<X (k+1)) - ib (Y (i+1)=Y (k+1)∧X (i+1)<X (k+1))+ib (Y (i+1)=Y (k+1))+ib (Y i=Y (k+1)) else 0)))%2=0:=by
    refine sm_mod fun k hk=>?_
    by_cases b:Up d X k
    · rw [if_pos b,sm_congr (g:=fun _=>0) fun i _=>if_neg fun z=>z.2 b,sm_zero]; rfl
    · rw [if_neg b]
      refine sm_mod fun i hi=>?_
      by_cases a:Up d X i
      · rw [if_pos ⟨a,b⟩,if_pos a]; exact o.pair a b
      · rw [if_neg fun z=>a z.1,if_neg a]; rfl
  -- met
  have hD:sm n (fun k=>if Up d X k then 0 else sm n (fun i=>if Up d X i then ib (Y i=Y k∧X (i+1)<X (k+1)) - ib (Y (i+1)=Y (k+1)∧X (i+1)<X (k+1))+ib (Y (i+1)=Y (k+1))+ib (Y i=Y (k+1)) else 0)) =
      sm n (fun k=>sm n fun i=>if Up d X i∨Up d X k then 0 else ib (Y (i+1)=Y k∧X (i+1)<X (k+1)) - ib (Y i=Y (k+1)∧X (i+1)<X (k+1))+ib (Y i=Y (k+1))+ib (Y (i+1)=Y (k+1))) +
      sm n (fun k=>if Up d X k then 0 else ib (e (Y (k+1))=-1) - ib (e (Y k)=1)):=by
    rw [← sm_add]
    refine sm_congr fun k hk=>?_
    by_cases b:Up d X k
    · rw [if_pos b,if_pos b,sm_congr (g:=fun _=>0) fun i _=>if_pos (.inr b),sm_zero]; rfl
    · rw [if_neg b,if_neg b,o.met hk b,sm_congr (f:=fun i=>if Up d X i∨Up d X k then (0:Int) else _) (g:=fun i=>if Up d X i then 0 else ib (Y (i+1)=Y k∧X (i+1)<X (k+1)) - ib (Y i=Y (k+1)∧X (i+1)<X (k+1))+ib (Y i=Y (k+1))+ib (Y (i+1)=Y (k+1))) fun i _=>?_]
      · omega
      · by_cases a:Up d X i
        · rw [if_pos (.inl a),if_pos a]
        · rw [if_neg (fun z=>z.elim a b),if_neg a]
  -- downward pairs
  have hE:(sm n (fun k=>sm n fun i=>if Up d X i∨Up d X k then 0 else ib (Y (i+1)=Y k∧X (i+1)<X (k+1)) - ib (Y i=Y (k+1)∧X (i+1)<X (k+1))+ib (Y i=Y (k+1))+ib (Y (i+1)=Y (k+1))) -
      sm n (fun k=>if Up d X k then 0 else 1))%2=0:=by
    rw [sm_pairs n fun i k=>if Up d X i∨Up d X k then 0 else ib (Y (i+1)=Y k∧X (i+1)<X (k+1)) - ib (Y i=Y (k+1)∧X (i+1)<X (k+1))+ib (Y i=Y (k+1))+ib (Y (i+1)=Y (k+1))]
    have h1:sm n (fun k=>sm k fun i=>(if Up d X i∨Up d X k then 0 else ib (Y (i+1)=Y k∧X (i+1)<X (k+1)) - ib (Y i=Y (k+1)∧X (i+1)<X (k+1))+ib (Y i=Y (k+1))+ib (Y (i+1)=Y (k+1))) +
        (if Up d X k∨Up d X i then 0 else ib (Y (k+1)=Y i∧X (k+1)<X (i+1)) - ib (Y k=Y (i+1)∧X (k+1)<X (i+1))+ib (Y k=Y (i+1))+ib (Y (k+1)=Y (i+1))))%2=0:=by
      refine sm_even fun k hk=>sm_even fun i hi=>?_
      by_cases b:Up d X k
      · rw [if_pos (.inr b),if_pos (.inl b)]; rfl
      · by_cases a:Up d X i
        · rw [if_pos (.inl a),if_pos (.inr a)]; rfl
        · rw [if_neg (fun z=>z.elim a b),if_neg (fun z=>z.elim b a)]
          have ea:=o.dn a
          have eb:=o.dn b
          have pa:=o.par (i+1)
          have pb:=o.par (k+1)
          have q1:=ib_cut (p:=Y (i+1)=Y k) (a:=X (i+1)) (b:=X (k+1)) fun z z2=>by omega
          have q2:=ib_cut (p:=Y i=Y (k+1)) (a:=X (i+1)) (b:=X (k+1)) fun z z2=>by omega
          rw [ib_iff (p:=Y (k+1)=Y i∧X (k+1)<X (i+1)) (q:=Y i=Y (k+1)∧X (k+1)<X (i+1)) ⟨fun z=>⟨z.1.symm,z.2⟩,fun z=>⟨z.1.symm,z.2⟩⟩,
            ib_iff (p:=Y k=Y (i+1)∧X (k+1)<X (i+1)) (q:=Y (i+1)=Y k∧X (k+1)<X (i+1)) ⟨fun z=>⟨z.1.symm,z.2⟩,fun z=>⟨z.1.symm,z.2⟩⟩,
            ib_iff (p:=Y k=Y (i+1)) (q:=Y (i+1)=Y k) eq_comm,ib_iff (p:=Y (k+1)=Y (i+1)) (q:=Y (i+1)=Y (k+1)) eq_comm]
          omega
    have h2:sm n (fun i=>if Up d X i∨Up d X i then 0 else ib (Y (i+1)=Y i∧X (i+1)<X (i+1)) - ib (Y i=Y (i+1)∧X (i+1)<X (i+1))+ib (Y i=Y (i+1))+ib (Y (i+1)=Y (i+1)))=sm n (fun k=>if Up d X k then 0 else 1):=by
      refine sm_congr fun i _=>?_
      by_cases a:Up d X i
      · rw [if_pos (.inl a),if_pos a]
      · rw [if_neg (fun z=>z.elim a a),if_neg a]
        have ea:=o.dn a
        unfold ib
        rw [if_neg fun z=>Int.lt_irrefl _ z.2,if_neg fun z=>Int.lt_irrefl _ z.2,if_neg (by omega),if_pos rfl]; rfl
    rw [h2]
    omega
  -- the rows
  have hF:sm n (fun k=>if Up d X k then 0 else ib (e (Y (k+1))=-1) - ib (e (Y k)=1))=sm n (fun k=>if Up d X k then 0 else 1) - sm n (fun k=>ib (e (Y k)=1)):=by
    have l:=o.level fun m=>ib (e m=1)
    have e1:sm n (fun k=>ib (e (Y k)=1))=sm n (fun k=>if Up d X k then ib (e (Y k)=1) else 0)+sm n (fun k=>if Up d X k then 0 else ib (e (Y k)=1)):=by
      rw [← sm_add]
      refine sm_congr fun k _=>?_
      by_cases b:Up d X k
      · rw [if_pos b,if_pos b]; omega
      · rw [if_neg b,if_neg b]; omega
    have e2:sm n (fun k=>if Up d X k then ib (e (Y k)=1) else 0)=sm n (fun k=>if Up d X k then 0 else ib (e (Y (k+1))=1)):=l
    rw [e1,e2,← sm_add,← sm_sub]
    refine sm_congr fun k _=>?_
    by_cases b:Up d X k
    · simp only [if_pos b]; rfl
    · simp only [if_neg b]
      have:=o.he (Y (k+1))
      unfold ib
      (repeat' split)<;>omega
  -- as many to the right as to the left
  have hG:2*sm n (fun k=>ib (e (Y k)=1))=n:=by
    have h:=sm_tele n X
    rw [o.cx,Int.sub_self,sm_congr (g:=fun k=>(ib (e (Y k)=1)+ib (e (Y k)=1)) - 1) fun k _=>?_,sm_sub,sm_add,sm_const] at h
    · omega
    · rw [o.sx]
      have:=o.he (Y k)
      unfold ib
      split<;>omega
  rw [hD,hF] at hC
  omega
end
end NR
set_option linter.all false
set_option Elab.async false
set_option maxHeartbeats 4000000
namespace Ts
open PySem PyProof.Rows
def gallop':Bool→Keyed→Array Keyed→Nat→Nat→Nat→StateT SortSt Sem (Option Nat):=sortPriv% PySem.Builtin.gallop
def mergeLo':Array Keyed→Array Keyed→StateT SortSt Sem (Array Keyed):=sortPriv% PySem.Builtin.mergeLo
def mergeHi':Array Keyed→Array Keyed→StateT SortSt Sem (Array Keyed):=sortPriv% PySem.Builtin.mergeHi
structure Less (lt:Keyed→Keyed→Bool):Prop where
 asym:∀ {x y},lt x y=true→lt y x=false
 tr:∀ {x y z},lt y x=false→lt z y=false→lt z x=false
def Le (lt:Keyed→Keyed→Bool) (x y:Keyed):Prop:=lt y x=false
theorem Less.le_refl {lt:Keyed→Keyed→Bool} (L:Less lt) (x:Keyed):Le lt x x:=by
 unfold Le
 cases h:lt x x with
 | false=>rfl
 | true=>rw [L.asym h] at h; cases h
theorem Less.of_lt {lt:Keyed→Keyed→Bool} (L:Less lt) {x y:Keyed} (h:lt x y=true):Le lt x y:=L.asym h
theorem Less.trans {lt:Keyed→Keyed→Bool} (L:Less lt) {x y z:Keyed} (h:Le lt x y) (h':Le lt y z):Le lt x z:=L.tr h h'
section
variable {M:Model} {A:Around} {E:Value→Shared→Prop} {s:Shared}
def Asks (M:Model) (A:Around) (E:Value→Shared→Prop) (s:Shared) (κ:SortKind) (S:Keyed→Prop) (lt:Keyed→Keyed→Bool):Prop :=
 ∀ (x y:Keyed) (st:SortSt) (Q:Option Bool→SortSt→Prop),S x→S y→kindOf st=κ→Q (some (lt x y)) st→wpS M A E s (lt' x y) Q st
theorem wpS_elem {arr:Array Keyed} {i:Nat} {x:Keyed} {Q:Keyed→SortSt→Prop} {st:SortSt} (h:arr[i]?=some x) (q:Q x st):wpS M A E s (elem' arr i) Q st:=by
 rw [elem'_eq,h]
 exact wpS_pure q
structure Cut (b:Nat→Bool) (n k:Nat):Prop where
 le:k≤n
 yes:∀ i,i<k→b i=true
 no:∀ i,k≤i→i<n→b i=false
theorem wpS_gallop {κ:SortKind} {S:Keyed→Prop} {lt:Keyed→Keyed→Bool} (H:Asks M A E s κ S lt) {left:Bool} {key:Keyed} {arr:Array Keyed} {b n hint:Nat} {Q:Option Nat→SortSt→Prop} {st:SortSt} {at_:Nat→Keyed}
    (hk:kindOf st=κ) (sk:S key) (ha:∀ i,i<n→arr[b+i]?=some (at_ i)∧S (at_ i)) (hh:hint<n)
    (anti:∀ i j,i≤j→j<n→(if left then lt (at_ j) key else !lt key (at_ j))=true→(if left then lt (at_ i) key else !lt key (at_ i))=true)
    (h:∀ k,Cut (fun i=>if left then lt (at_ i) key else !lt key (at_ i)) n k→Q (some k) st):wpS M A E s (gallop' left key arr b n hint) Q st:=by
  unfold gallop'
  have bey:∀ (i:Nat) (Q:Option Bool→SortSt→Prop),i<n→Q (some (if left then lt (at_ i) key else !lt key (at_ i))) st→wpS M A E s (do
      let x ← elem' arr (b+i)
      if left then lt' x key else return (← lt' key x).map (!·)) Q st:=by
    intro i Q hi q
    refine wpS_bind (wpS_elem (ha i hi).1 ?_)
    cases left with
    | true=>exact H _ _ _ _ (ha i hi).2 sk hk q
    | false=>exact wpS_bind (H _ _ _ _ sk (ha i hi).2 hk (wpS_pure q))
  generalize hB:(fun i=>if left then lt (at_ i) key else !lt key (at_ i))=B at h
  have hB':∀ i,(if left then lt (at_ i) key else !lt key (at_ i))=B i:=fun i=>by rw [← hB]
  simp only [hB'] at bey anti
  refine wpS_bind (bey hint _ hh ?_)
  dsimp only
  by_cases hr:B hint=true
  · rw [if_pos hr]
    refine wpS_bind (wpS_mono (wpS_forRange (I:=fun x (c:Option (Option Nat)×Nat×Nat) st'=>st=st'∧c.1=none∧x+1≤c.2.2∧c.2.1<c.2.2∧c.2.1<n - hint∧B (hint+c.2.1)=true)
      (Q:=fun (c:Option (Option Nat)×Nat×Nat) st'=>st=st'∧c.1=none∧c.2.1<c.2.2∧c.2.1<n - hint∧B (hint+c.2.1)=true∧(c.2.2<n - hint→B (hint+c.2.2)=false)) ?step ?fin ⟨rfl,rfl,Nat.le_refl _,Nat.zero_lt_one,by show 0<n - hint; omega,hr⟩) ?post)
    case fin =>
      rintro ⟨c1,l,o⟩ st' ⟨rfl,e,h1,h2,h3,h4⟩
      dsimp only at e h1 h2 h3 h4 ⊢
      exact ⟨rfl,e,h2,h3,h4,fun z=>by omega⟩
    case step =>
      rintro x ⟨c1,l,o⟩ st' _ hx ⟨rfl,e,h1,h2,h3,h4⟩
      dsimp only at e h1 h2 h3 h4 ⊢
      by_cases ho:o≥n - hint
      · rw [if_pos ho]
        exact wpS_pure ⟨rfl,rfl,h2,h3,h4,fun z=>by dsimp only at z; omega⟩
      · rw [if_neg ho]
        refine wpS_bind (bey _ _ (by omega) ?_)
        dsimp only
        cases hb:B (hint+o) with
        | false=>exact wpS_pure ⟨rfl,rfl,h2,h3,h4,fun _=>hb⟩
        | true=>exact wpS_pure ⟨rfl,rfl,by show x+1+1≤2*o+1; omega,by show o<2*o+1; omega,by show o<n - hint; omega,hb⟩
    case post =>
      rintro ⟨c1,l,o⟩ st' ⟨rfl,e,h2,h3,h4,h5⟩
      dsimp only at e h2 h3 h4 h5 ⊢
      subst e
      dsimp only
      refine wpS_bind (wpS_mono (wpS_forRange (I:=fun x (c:Option (Option Nat)×Nat×Nat) st'=>st=st'∧c.1=none∧c.2.1≤c.2.2∧c.2.2≤n∧c.2.2 - c.2.1+x≤n∧(∀ i,i<c.2.1→B i=true)∧(∀ i,c.2.2≤i→i<n→B i=false))
        (Q:=fun (c:Option (Option Nat)×Nat×Nat) st'=>st=st'∧c.1=none∧c.2.1=c.2.2∧c.2.2≤n∧(∀ i,i<c.2.1→B i=true)∧(∀ i,c.2.2≤i→i<n→B i=false)) ?step ?fin ?init) ?post)
      case init =>
        refine ⟨rfl,rfl,by dsimp only; omega,by dsimp only; omega,by dsimp only; omega,fun i hi=>?_,fun i hi hn=>?_⟩
        · dsimp only at hi
          exact anti i (hint+l) (by omega) (by omega) h4
        · dsimp only at hi
          have h6:=h5 (by omega)
          cases hb:B i with
          | false=>rfl
          | true=>rw [anti (hint+o) i (by omega) hn hb] at h6; cases h6
      case fin =>
        rintro ⟨c1,lo,hi⟩ st' ⟨rfl,e,h1,h2,h3,h4,h5⟩
        dsimp only at e h1 h2 h3 h4 h5 ⊢
        exact ⟨rfl,e,by omega,h2,h4,h5⟩
      case step =>
        rintro x ⟨c1,lo,hi⟩ st' _ hx ⟨rfl,e,h1,h2,h3,h4,h5⟩
        dsimp only at e h1 h2 h3 h4 h5 ⊢
        by_cases hd:lo≥hi
        · rw [if_pos hd]
          exact wpS_pure ⟨rfl,rfl,by show lo=hi; omega,h2,h4,h5⟩
        · rw [if_neg hd]
          refine wpS_bind (bey _ _ (by omega) ?_)
          dsimp only
          cases hb:B (lo+(hi - lo) / 2) with
          | true =>
            refine wpS_pure ⟨rfl,rfl,by show lo+(hi - lo) / 2+1≤hi; omega,h2,by show hi - (lo+(hi - lo) / 2+1)+(x+1)≤n; omega,fun i hi'=>?_,h5⟩
            dsimp only at hi'
            exact anti i _ (by omega) (by omega) hb
          | false =>
            refine wpS_pure ⟨rfl,rfl,by show lo≤lo+(hi - lo) / 2; omega,by show lo+(hi - lo) / 2≤n; omega,by show lo+(hi - lo) / 2 - lo+(x+1)≤n; omega,h4,fun i hi' hn=>?_⟩
            dsimp only at hi'
            cases hb2:B i with
            | false=>rfl
            | true=>rw [anti _ i (by omega) hn hb2] at hb; cases hb
      case post =>
        rintro ⟨c1,lo,hi⟩ st' ⟨rfl,e,h1,h2,h4,h5⟩
        dsimp only at e h1 h2 h4 h5 ⊢
        subst e h1
        exact wpS_pure (h _ ⟨h2,h4,h5⟩)
  · rw [if_neg hr]
    have hr':B hint=false:=by simpa using hr
    refine wpS_bind (wpS_mono (wpS_forRange (I:=fun x (c:Option (Option Nat)×Nat×Nat) st'=>st=st'∧c.1=none∧x+1≤c.2.2∧c.2.1<c.2.2∧c.2.1≤hint∧B (hint - c.2.1)=false)
      (Q:=fun (c:Option (Option Nat)×Nat×Nat) st'=>st=st'∧c.1=none∧c.2.1<c.2.2∧c.2.1≤hint∧B (hint - c.2.1)=false∧(c.2.2≤hint→B (hint - c.2.2)=true)) ?step ?fin ⟨rfl,rfl,Nat.le_refl _,Nat.zero_lt_one,by show 0≤hint; omega,hr'⟩) ?post)
    case fin =>
      rintro ⟨c1,l,o⟩ st' ⟨rfl,e,h1,h2,h3,h4⟩
      dsimp only at e h1 h2 h3 h4 ⊢
      exact ⟨rfl,e,h2,h3,h4,fun z=>by omega⟩
    case step =>
      rintro x ⟨c1,l,o⟩ st' _ hx ⟨rfl,e,h1,h2,h3,h4⟩
      dsimp only at e h1 h2 h3 h4 ⊢
      by_cases ho:o≥hint+1
      · rw [if_pos ho]
        exact wpS_pure ⟨rfl,rfl,h2,h3,h4,fun z=>by dsimp only at z; omega⟩
      · rw [if_neg ho]
        refine wpS_bind (bey _ _ (by omega) ?_)
        dsimp only
        cases hb:B (hint - o) with
        | true=>exact wpS_pure ⟨rfl,rfl,h2,h3,h4,fun _=>hb⟩
        | false=>exact wpS_pure ⟨rfl,rfl,by show x+1+1≤2*o+1; omega,by show o<2*o+1; omega,by show o≤hint; omega,hb⟩
    case post =>
      rintro ⟨c1,l,o⟩ st' ⟨rfl,e,h2,h3,h4,h5⟩
      dsimp only at e h2 h3 h4 h5 ⊢
      subst e
      dsimp only
      refine wpS_bind (wpS_mono (wpS_forRange (I:=fun x (c:Option (Option Nat)×Nat×Nat) st'=>st=st'∧c.1=none∧c.2.1≤c.2.2∧c.2.2≤n∧c.2.2 - c.2.1+x≤n∧(∀ i,i<c.2.1→B i=true)∧(∀ i,c.2.2≤i→i<n→B i=false))
        (Q:=fun (c:Option (Option Nat)×Nat×Nat) st'=>st=st'∧c.1=none∧c.2.1=c.2.2∧c.2.2≤n∧(∀ i,i<c.2.1→B i=true)∧(∀ i,c.2.2≤i→i<n→B i=false)) ?step ?fin ?init) ?post)
      case init =>
        refine ⟨rfl,rfl,by dsimp only; omega,by dsimp only; omega,by dsimp only; omega,fun i hi=>?_,fun i hi hn=>?_⟩
        · dsimp only at hi
          have h6:=h5 (by omega)
          exact anti i (hint - o) (by omega) (by omega) h6
        · dsimp only at hi
          cases hb:B i with
          | false=>rfl
          | true=>rw [anti (hint - l) i (by omega) hn hb] at h4; cases h4
      case fin =>
        rintro ⟨c1,lo,hi⟩ st' ⟨rfl,e,h1,h2,h3,h4,h5⟩
        dsimp only at e h1 h2 h3 h4 h5 ⊢
        exact ⟨rfl,e,by omega,h2,h4,h5⟩
      case step =>
        rintro x ⟨c1,lo,hi⟩ st' _ hx ⟨rfl,e,h1,h2,h3,h4,h5⟩
        dsimp only at e h1 h2 h3 h4 h5 ⊢
        by_cases hd:lo≥hi
        · rw [if_pos hd]
          exact wpS_pure ⟨rfl,rfl,by show lo=hi; omega,h2,h4,h5⟩
        · rw [if_neg hd]
          refine wpS_bind (bey _ _ (by omega) ?_)
          dsimp only
          cases hb:B (lo+(hi - lo) / 2) with
          | true =>
            refine wpS_pure ⟨rfl,rfl,by show lo+(hi - lo) / 2+1≤hi; omega,h2,by show hi - (lo+(hi - lo) / 2+1)+(x+1)≤n; omega,fun i hi'=>?_,h5⟩
            dsimp only at hi'
            exact anti i _ (by omega) (by omega) hb
          | false =>
            refine wpS_pure ⟨rfl,rfl,by show lo≤lo+(hi - lo) / 2; omega,by show lo+(hi - lo) / 2≤n; omega,by show lo+(hi - lo) / 2 - lo+(x+1)≤n; omega,h4,fun i hi' hn=>?_⟩
            dsimp only at hi'
            cases hb2:B i with
            | false=>rfl
            | true=>rw [anti _ i (by omega) hn hb2] at hb; cases hb
      case post =>
        rintro ⟨c1,lo,hi⟩ st' ⟨rfl,e,h1,h2,h4,h5⟩
        dsimp only at e h1 h2 h4 h5 ⊢
        subst e h1
        exact wpS_pure (h _ ⟨h2,h4,h5⟩)
end
end Ts
set_option linter.all false
set_option Elab.async false
set_option maxHeartbeats 4000000
namespace Ts
open PySem PyProof.Rows
section
variable {M:Model} {A:Around} {E:Value→Shared→Prop} {s:Shared}
theorem wpS_gal {κ:SortKind} {S:Keyed→Prop} {lt:Keyed→Keyed→Bool} (L:Less lt) (H:Asks M A E s κ S lt) {left:Bool} {key:Keyed} {arr:Array Keyed} {b n hint:Nat} {Q:Option Nat→SortSt→Prop} {st:SortSt}
  (hk:kindOf st=κ) (sk:S key) (hn:b+n≤arr.size) (hS:∀ x∈(arr.toList.drop b).take n,S x) (hs:((arr.toList.drop b).take n).Pairwise (Le lt)) (hh:hint<n)
  (h:∀ k,k≤n→(∀ x∈(arr.toList.drop b).take k,Le lt x key)→(∀ x∈((arr.toList.drop b).take n).drop k,Le lt key x)→Q (some k) st):wpS M A E s (gallop' left key arr b n hint) Q st:=by
 have hlen:((arr.toList.drop b).take n).length=n:=by rw [List.length_take,List.length_drop,Array.length_toList]; omega
 have hat:∀ i,i<n→arr[b+i]?=((arr.toList.drop b).take n)[i]?:=by
  intro i hi
  rw [List.getElem?_take_of_lt hi,List.getElem?_drop,Array.getElem?_toList]
 generalize hX:(arr.toList.drop b).take n=X at hS hs hlen hat h
 have hat':∀ i (hi:i<n),X[i]?=some (X[i]?.getD key):=fun i hi=>by rw [List.getElem?_eq_getElem (by omega)]; rfl
 have mono:∀ i j,i≤j→j<n→Le lt (X[i]?.getD key) (X[j]?.getD key):=by
  intro i j hij hj
  rcases Nat.lt_or_eq_of_le hij with hlt | rfl
  ·have:=(List.pairwise_iff_getElem.mp hs) i j (by omega) (by omega) hlt
   rw [List.getElem?_eq_getElem (by omega),List.getElem?_eq_getElem (by omega)]
   exact this
  ·exact L.le_refl _
 refine wpS_gallop H (at_:=fun i=>X[i]?.getD key) hk sk (fun i hi=>⟨by rw [hat i hi]; exact hat' i hi,hS _ (List.mem_of_getElem? (hat' i hi))⟩) hh ?_ ?_
 ·intro i j hij hj
  cases left with
  | true =>
   show lt _ key=true→lt _ key=true
   intro z
   cases hb:lt (X[i]?.getD key) key with
   | true=>rfl
   | false =>
    have:lt (X[j]?.getD key) key=false:=L.trans hb (mono i j hij hj)
    rw [this] at z; cases z
  | false =>
   show (!lt key _)=true→(!lt key _)=true
   intro z
   have z:lt key (X[j]?.getD key)=false:=by simpa using z
   have:lt key (X[i]?.getD key)=false:=L.trans (mono i j hij hj) z
   rw [this]; rfl
 ·intro k c
  refine h k c.le (fun x hx=>?_) (fun x hx=>?_)
  ·obtain ⟨i,hi⟩:=List.mem_iff_getElem?.mp hx
   have hik:i<k:=by
    have:=(List.getElem?_eq_some_iff.mp hi).1
    rw [List.length_take] at this; omega
   have e:X[i]?=some x:=by rw [← hX,List.getElem?_take_of_lt (by have:=c.le; omega),← hi,List.getElem?_take_of_lt hik]
   have:=c.yes i hik
   cases left with
   | true =>
    have this:lt (X[i]?.getD key) key=true:=this
    rw [e] at this
    exact L.asym this
   | false =>
    have this:(!lt key (X[i]?.getD key))=true:=this
    rw [e] at this
    show lt key x=false
    simpa using this
  ·obtain ⟨i,hi⟩:=List.mem_iff_getElem?.mp hx
   rw [List.getElem?_drop] at hi
   have hin:k+i<n:=by rw [← hlen]; exact (List.getElem?_eq_some_iff.mp hi).1
   have:=c.no (k+i) (by omega) hin
   cases left with
   | true =>
    have this:lt (X[k+i]?.getD key) key=false:=this
    rw [hi] at this
    exact this
   | false =>
    have this:(!lt key (X[k+i]?.getD key))=false:=this
    rw [hi] at this
    exact L.asym (by simpa using this)
end
structure Mg (lt:Keyed→Keyed→Bool) (a b out:List Keyed) (ia ib:Nat):Prop where
 perm:(out++(a.drop ia++b.drop ib)).Perm (a++b)
 srt:out.Pairwise (Le lt)
 le_:∀ x∈out,∀ y∈a.drop ia++b.drop ib,Le lt x y
def Res (lt:Keyed→Keyed→Bool) (a b r:List Keyed):Prop:=r.Perm (a++b)∧r.Pairwise (Le lt)
theorem Mg.a {lt:Keyed→Keyed→Bool} {a b out:List Keyed} {ia ib:Nat} (m:Mg lt a b out ia ib) (hA:a.Pairwise (Le lt)) (k:Nat) (h:∀ x∈(a.drop ia).take k,∀ y∈b.drop ib,Le lt x y) :
  Mg lt a b (out++(a.drop ia).take k) (ia+k) ib:=by
 have e:a.drop ia=(a.drop ia).take k++a.drop (ia+k):=by rw [← List.drop_drop,List.take_append_drop]
 have hA':=List.Pairwise.sublist (List.drop_sublist ia a) hA
 rw [e,List.pairwise_append] at hA'
 refine ⟨?_,?_,?_⟩
 ·have:=m.perm
  rw [e] at this
  rw [List.append_assoc]
  rw [List.append_assoc] at this
  exact this
 ·rw [List.pairwise_append]
  refine ⟨m.srt,hA'.1,fun x hx y hy=>m.le_ x hx y (List.mem_append_left _ (List.mem_of_mem_take hy))⟩
 ·intro x hx y hy
  rcases List.mem_append.mp hx with hx | hx
  ·refine m.le_ x hx y ?_
   rcases List.mem_append.mp hy with hy | hy
   ·exact List.mem_append_left _ (by rw [e]; exact List.mem_append_right _ hy)
   ·exact List.mem_append_right _ hy
  ·rcases List.mem_append.mp hy with hy | hy
   ·exact hA'.2.2 x hx y hy
   ·exact h x hx y hy
theorem Mg.b {lt:Keyed→Keyed→Bool} {a b out:List Keyed} {ia ib:Nat} (m:Mg lt a b out ia ib) (hB:b.Pairwise (Le lt)) (k:Nat) (h:∀ x∈(b.drop ib).take k,∀ y∈a.drop ia,Le lt x y) :
  Mg lt a b (out++(b.drop ib).take k) ia (ib+k):=by
 have e:b.drop ib=(b.drop ib).take k++b.drop (ib+k):=by rw [← List.drop_drop,List.take_append_drop]
 have hB':=List.Pairwise.sublist (List.drop_sublist ib b) hB
 rw [e,List.pairwise_append] at hB'
 refine ⟨?_,?_,?_⟩
 ·have:=m.perm
  refine List.Perm.trans ?_ this
  rw [List.append_assoc]
  refine List.Perm.append_left _ ?_
  refine (List.perm_append_comm_assoc _ _ _).trans ?_
  rw [← e]
 ·rw [List.pairwise_append]
  refine ⟨m.srt,hB'.1,fun x hx y hy=>m.le_ x hx y (List.mem_append_right _ (List.mem_of_mem_take hy))⟩
 ·intro x hx y hy
  rcases List.mem_append.mp hx with hx | hx
  ·refine m.le_ x hx y ?_
   rcases List.mem_append.mp hy with hy | hy
   ·exact List.mem_append_left _ hy
   ·exact List.mem_append_right _ (by rw [e]; exact List.mem_append_right _ hy)
  ·rcases List.mem_append.mp hy with hy | hy
   ·exact h x hx y hy
   ·exact hB'.2.2 x hx y hy
theorem Mg.endB {lt:Keyed→Keyed→Bool} {a b out:List Keyed} {ia ib:Nat} (m:Mg lt a b out ia ib) (hA:a.Pairwise (Le lt)) (h:b.length≤ib):Res lt a b (out++a.drop ia++b.drop ib):=by
 have p:=m.perm
 have q:=m.le_
 rw [List.drop_of_length_le h,List.append_nil] at p q
 rw [List.drop_of_length_le h,List.append_nil]
 exact ⟨p,List.pairwise_append.mpr ⟨m.srt,List.Pairwise.sublist (List.drop_sublist _ _) hA,q⟩⟩
theorem Mg.endA {lt:Keyed→Keyed→Bool} {a b out:List Keyed} {ia ib:Nat} (m:Mg lt a b out ia ib) (hB:b.Pairwise (Le lt)) (h:a.length≤ia):Res lt a b (out++a.drop ia++b.drop ib):=by
 have p:=m.perm
 have q:=m.le_
 rw [List.drop_of_length_le h,List.nil_append] at p q
 rw [List.drop_of_length_le h,List.append_nil]
 exact ⟨p,List.pairwise_append.mpr ⟨m.srt,List.Pairwise.sublist (List.drop_sublist _ _) hB,q⟩⟩
theorem Mg.last {lt:Keyed→Keyed→Bool} {a b out:List Keyed} {ia ib:Nat} (m:Mg lt a b out ia ib) (hA:a.Pairwise (Le lt)) (hB:b.Pairwise (Le lt)) (h:∀ y∈b.drop ib,∀ x∈a.drop ia,Le lt y x):Res lt a b (out++b.drop ib++a.drop ia):=by
 refine ⟨?_,?_⟩
 ·rw [List.append_assoc]
  exact (List.Perm.append_left _ List.perm_append_comm).trans m.perm
 ·rw [List.append_assoc,List.pairwise_append,List.pairwise_append]
  refine ⟨m.srt,⟨List.Pairwise.sublist (List.drop_sublist _ _) hB,List.Pairwise.sublist (List.drop_sublist _ _) hA,h⟩,fun x hx y hy=>m.le_ x hx y ?_⟩
  rcases List.mem_append.mp hy with hy | hy
  ·exact List.mem_append_right _ hy
  ·exact List.mem_append_left _ hy
structure Sim (st st':SortSt):Prop where
 kind:kindOf st'=kindOf st
 arr:arrOf st'=arrOf st
 pend:pendingOf st'=pendingOf st
 failed:failedOf st'=failedOf st
theorem Sim.refl (st:SortSt):Sim st st:=⟨rfl,rfl,rfl,rfl⟩
theorem Sim.trans {a b c:SortSt} (x:Sim a b) (y:Sim b c):Sim a c:=⟨y.kind.trans x.kind,y.arr.trans x.arr,y.pend.trans x.pend,y.failed.trans x.failed⟩
theorem drop_at {l:List Keyed} {i:Nat} (h:i<l.length):(l.drop i).take 1=[l[i]]:=by
 rw [List.drop_eq_getElem_cons h,List.take_succ_cons,List.take_zero]
theorem ext_toList (a:Array Keyed) (i k:Nat) (h:i+k≤a.size):(a.extract i (i+k)).toList=(a.toList.drop i).take k:=by
 rw [Array.toList_extract,List.extract_eq_drop_take]
 congr 1
 omega
theorem ext_end (a:Array Keyed) (i:Nat):(a.extract i a.size).toList=a.toList.drop i:=by
 rw [Array.toList_extract,List.extract_eq_drop_take,List.take_of_length_le]
 rw [List.length_drop,Array.length_toList]; omega
end Ts
set_option linter.all false
set_option Elab.async false
set_option maxHeartbeats 4000000
namespace Ts
open PySem PyProof.Rows
theorem head_le {lt:Keyed→Keyed→Bool} (L:Less lt) {l:List Keyed} (hl:l.Pairwise (Le lt)) {i:Nat} (h:i<l.length) {x:Keyed} (hx:Le lt x l[i]):∀ y∈l.drop i,Le lt x y:=by
 intro y hy
 have h2:=List.Pairwise.sublist (List.drop_sublist i l) hl
 rw [List.drop_eq_getElem_cons h] at h2 hy
 rcases List.mem_cons.mp hy with rfl | hy
 ·exact hx
 ·exact L.trans hx ((List.pairwise_cons.mp h2).1 y hy)
theorem Mg.pushA {lt:Keyed→Keyed→Bool} (L:Less lt) {a b out:List Keyed} {ia ib:Nat} (m:Mg lt a b out ia ib) (hA:a.Pairwise (Le lt)) (h:ia<a.length) (hle:∀ y∈b.drop ib,Le lt a[ia] y):Mg lt a b (out++[a[ia]]) (ia+1) ib:=by
 have:=m.a hA 1 (by
  intro x hx y hy
  rw [drop_at h] at hx
  rw [List.mem_singleton.mp hx]
  exact hle y hy)
 rw [drop_at h] at this
 exact this
theorem Mg.pushB {lt:Keyed→Keyed→Bool} (L:Less lt) {a b out:List Keyed} {ia ib:Nat} (m:Mg lt a b out ia ib) (hB:b.Pairwise (Le lt)) (h:ib<b.length) (hle:∀ y∈a.drop ia,Le lt b[ib] y):Mg lt a b (out++[b[ib]]) ia (ib+1):=by
 have:=m.b hB 1 (by
  intro x hx y hy
  rw [drop_at h] at hx
  rw [List.mem_singleton.mp hx]
  exact hle y hy)
 rw [drop_at h] at this
 exact this
abbrev CS1:=Option (Array Keyed)×Array Keyed×Nat×Nat×Nat
abbrev CS2:=Option (Array Keyed)×Array Keyed×Nat×Nat×Nat×Nat
abbrev CS3:=Option (Array Keyed)×Array Keyed×Nat×Nat×Nat×Nat×Nat
section
variable {M:Model} {A:Around} {E:Value→Shared→Prop} {s:Shared}
theorem wpS_mergeLo {κ:SortKind} {S:Keyed→Prop} {lt:Keyed→Keyed→Bool} (L:Less lt) (H:Asks M A E s κ S lt) {a b:Array Keyed} {Q:Array Keyed→SortSt→Prop} {st:SortSt} (hk:kindOf st=κ)
  (hA:a.toList.Pairwise (Le lt)) (hB:b.toList.Pairwise (Le lt)) (sA:∀ x∈a.toList,S x) (sB:∀ x∈b.toList,S x) (na:0<a.size) (nb:0<b.size)
  (h0:∀ x∈a.toList,Le lt b[0] x) (hl:∀ y∈b.toList,∀ x∈a.toList.drop (a.size - 1),Le lt y x)
  (h:∀ r st',Sim st st'→Res lt a.toList b.toList r.toList→Q r st'):wpS M A E s (mergeLo' a b) Q st:=by
 have lA:a.toList.length=a.size:=Array.length_toList
 have lB:b.toList.length=b.size:=Array.length_toList
 have atA:∀ i (hi:i<a.size),a[i]?=some a[i]:=fun i hi=>getElem?_pos a i hi
 have atB:∀ i (hi:i<b.size),b[i]?=some b[i]:=fun i hi=>getElem?_pos b i hi
 have memA:∀ i (hi:i<a.size),S a[i]:=fun i hi=>sA _ (Array.getElem_mem_toList hi)
 have memB:∀ i (hi:i<b.size),S b[i]:=fun i hi=>sB _ (Array.getElem_mem_toList hi)
 have m0:Mg lt a.toList b.toList [b[0]] 0 1:=by
  have:=Mg.pushB L (lt:=lt) (a:=a.toList) (b:=b.toList) (out:=[]) (ia:=0) (ib:=0) ⟨List.Perm.refl _,List.Pairwise.nil,fun x hx=>nomatch hx⟩ hB (by omega) (fun y hy=>h0 y hy)
  exact this
 have last:∀ {out:List Keyed} {ia ib:Nat},Mg lt a.toList b.toList out ia ib→ia+1=a.size→Res lt a.toList b.toList (out++b.toList.drop ib++a.toList.drop ia):=by
  intro out ia ib m e
  refine m.last hA hB fun y hy x hx=>hl y (List.mem_of_mem_drop hy) x ?_
  rw [← e,Nat.add_sub_cancel]; exact hx
 unfold mergeLo'
 refine wpS_bind (wpS_lift (wpAny_rule ⟨rfl,?_⟩))
 dsimp only
 refine wpS_bind (wpS_elem (atB 0 nb) ?_)
 by_cases c1:(1==b.size)=true
 ·rw [if_pos c1]
  refine wpS_pure (h _ _ (Sim.refl _) ?_)
  rw [Array.toList_append,Array.toList_append,ext_end,ext_end]
  exact m0.endB hA (by have:=beq_iff_eq.mp c1; omega)
 rw [if_neg c1]
 have c1:1≠b.size:=fun e=>c1 (beq_iff_eq.mpr e)
 by_cases c2:(0+1==a.size)=true
 ·rw [if_pos c2]
  refine wpS_pure (h _ _ (Sim.refl _) ?_)
  rw [Array.toList_append,Array.toList_append,ext_end,ext_end]
  exact last m0 (beq_iff_eq.mp c2)
 rw [if_neg c2]
 have c2:0+1≠a.size:=fun e=>c2 (beq_iff_eq.mpr e)
 refine wpS_bind (wpS_get ?_)
 refine wpS_bind (wpS_mono (wpS_forRange
  (I:=fun X (c:CS1) st'=>Sim st st'∧c.1=none∧Mg lt a.toList b.toList c.2.1.toList c.2.2.1 c.2.2.2.1∧c.2.2.1+1<a.size∧c.2.2.2.1<b.size∧X+1≤c.2.2.1+c.2.2.2.1)
  (Q:=fun (c:CS1) st'=>Sim st st'∧∃ r,c.1=some r∧Res lt a.toList b.toList r.toList) ?step ?fin ⟨Sim.refl _,rfl,m0,by show 0+1<a.size; omega,by show 1<b.size; omega,Nat.le_refl _⟩) ?post)
 case post =>
  rintro ⟨c,out,ia,ib,g⟩ st' ⟨sm,r,e,hr⟩
  dsimp only at e ⊢
  subst e
  exact wpS_pure (h r _ sm hr)
 case fin =>
  rintro ⟨c,out,ia,ib,g⟩ st' ⟨sm,e,m,h1,h2,h3⟩
  dsimp only at h1 h2 h3
  exfalso
  omega
 case step =>
  rintro X ⟨c,out,ia,ib,g⟩ st1 _ hX ⟨sm,e,m,h1,h2,h3⟩
  dsimp only at e m h1 h2 h3 ⊢
  -- one at a time
  refine wpS_bind (wpS_mono (wpS_forRange
   (I:=fun x (c:CS2) st'=>Sim st st'∧c.1=none∧Mg lt a.toList b.toList c.2.1.toList c.2.2.1 c.2.2.2.1∧c.2.2.1+1<a.size∧c.2.2.2.1<b.size∧ia+ib+x≤c.2.2.1+c.2.2.2.1)
   (Q:=fun (c:CS2) st'=>Sim st st'∧((∃ r,c.1=some r∧Res lt a.toList b.toList r.toList)∨(c.1=none∧Mg lt a.toList b.toList c.2.1.toList c.2.2.1 c.2.2.2.1∧c.2.2.1+1<a.size∧c.2.2.2.1<b.size∧ia+ib+1≤c.2.2.1+c.2.2.2.1))) ?step ?fin ⟨sm,rfl,m,h1,h2,Nat.le_refl _⟩) ?post)
  case fin =>
   rintro ⟨c,out,ia',ib',ac,bc⟩ st' ⟨sm,e,m,k1,k2,k3⟩
   dsimp only at e m k1 k2 k3 ⊢
   exact ⟨sm,.inr ⟨e,m,k1,k2,by omega⟩⟩
  case step =>
   clear m h1 h2 sm
   rintro x ⟨c,out,ia',ib',ac,bc⟩ st2 _ hx ⟨sm,e,m,k1,k2,k3⟩
   dsimp only at e m k1 k2 k3 ⊢
   refine wpS_bind (wpS_elem (atB ib' k2) ?_)
   refine wpS_bind (wpS_elem (atA ia' (by omega)) ?_)
   refine wpS_bind (H _ _ _ _ (memB _ k2) (memA _ (by omega)) (sm.kind.trans hk) ?_)
   dsimp only
   cases hb:lt b[ib'] a[ia'] with
   | true =>
    rw [if_pos rfl]
    refine wpS_bind (wpS_elem (atB ib' k2) ?_)
    have m2:Mg lt a.toList b.toList (out.push b[ib']).toList ia' (ib'+1):=by
     rw [Array.toList_push]
     exact m.pushB L hB (by omega) (head_le L hA (by omega) (L.of_lt hb))
    by_cases d1:(ib'+1==b.size)=true
    ·rw [if_pos d1]
     refine wpS_pure ⟨sm,.inl ⟨_,rfl,?_⟩⟩
     rw [Array.toList_append,Array.toList_append,ext_end,ext_end]
     exact m2.endB hA (by have:=beq_iff_eq.mp d1; omega)
    ·rw [if_neg d1]
     have d1:ib'+1≠b.size:=fun e=>d1 (beq_iff_eq.mpr e)
     split
     ·exact wpS_pure ⟨sm,.inr ⟨rfl,m2,k1,by show ib'+1<b.size; omega,by show ia+ib+1≤ia'+(ib'+1); omega⟩⟩
     ·exact wpS_pure ⟨sm,rfl,m2,k1,by show ib'+1<b.size; omega,by show ia+ib+(x+1)≤ia'+(ib'+1); omega⟩
   | false =>
    rw [if_neg (by simp)]
    refine wpS_bind (wpS_elem (atA ia' (by omega)) ?_)
    have m2:Mg lt a.toList b.toList (out.push a[ia']).toList (ia'+1) ib':=by
     rw [Array.toList_push]
     exact m.pushA L hA (by omega) (head_le L hB (by omega) hb)
    by_cases d1:(ia'+1+1==a.size)=true
    ·rw [if_pos d1]
     refine wpS_pure ⟨sm,.inl ⟨_,rfl,?_⟩⟩
     rw [Array.toList_append,Array.toList_append,ext_end,ext_end]
     exact last m2 (beq_iff_eq.mp d1)
    ·rw [if_neg d1]
     have d1:ia'+1+1≠a.size:=fun e=>d1 (beq_iff_eq.mpr e)
     split
     ·exact wpS_pure ⟨sm,.inr ⟨rfl,m2,by show ia'+1+1<a.size; omega,k2,by show ia+ib+1≤ia'+1+ib'; omega⟩⟩
     ·exact wpS_pure ⟨sm,rfl,m2,by show ia'+1+1<a.size; omega,k2,by show ia+ib+(x+1)≤ia'+1+ib'; omega⟩
  case post =>
   clear m h1 h2 sm
   rintro ⟨c,out,ia',ib',ac,bc⟩ st2 ⟨sm,⟨r,e,hr⟩ | ⟨e,m,k1,k2,k3⟩⟩
   ·dsimp only at e ⊢
    subst e
    exact wpS_pure ⟨sm,r,rfl,hr⟩
   ·dsimp only at e m k1 k2 k3 ⊢
    subst e
    refine wpS_bind (wpS_lift (wpAny_rule ⟨rfl,?_⟩))
    refine wpS_bind (wpS_mono (wpS_forRange
     (I:=fun x (c:CS3) st'=>Sim st st'∧c.1=none∧Mg lt a.toList b.toList c.2.1.toList c.2.2.1 c.2.2.2.1∧c.2.2.1+1<a.size∧c.2.2.2.1<b.size∧ia'+ib'≤c.2.2.1+c.2.2.2.1)
     (Q:=fun (c:CS3) st'=>Sim st st'∧((∃ r,c.1=some r∧Res lt a.toList b.toList r.toList)∨(c.1=none∧Mg lt a.toList b.toList c.2.1.toList c.2.2.1 c.2.2.2.1∧c.2.2.1+1<a.size∧c.2.2.2.1<b.size∧ia'+ib'≤c.2.2.1+c.2.2.2.1))) ?step ?fin ⟨sm,rfl,m,k1,k2,Nat.le_refl _⟩) ?post)
    case fin =>
     rintro ⟨c,out,ja,jb,g',ac,bc⟩ st' ⟨sm,e,m,k1,k2,k3⟩
     exact ⟨sm,.inr ⟨e,m,k1,k2,k3⟩⟩
    case post =>
     clear m k1 k2 sm
     rintro ⟨c,out,ja,jb,g',ac,bc⟩ st3 ⟨sm,⟨r,e,hr⟩ | ⟨e,m,k1,k2,k4⟩⟩
     ·dsimp only at e ⊢
      subst e
      exact wpS_pure ⟨sm,r,rfl,hr⟩
     ·dsimp only at e m k1 k2 k4 ⊢
      subst e
      refine wpS_bind (wpS_modify ?_)
      exact wpS_pure ⟨sm.trans ⟨rfl,rfl,rfl,rfl⟩,rfl,m,k1,k2,by show X+1+1≤ja+jb; omega⟩
    case step =>
     clear m k1 k2 sm
     rintro x ⟨c,out,ja,jb,g',ac,bc⟩ st3 _ hx ⟨sm,e,m,k1,k2,k4⟩
     dsimp only at e m k1 k2 k4 ⊢
     by_cases gg:g' > 1
     rw [if_pos gg]
     rotate_left
     rw [if_neg gg]
     all_goals
      refine wpS_bind (wpS_modify ?_)
      refine wpS_bind (wpS_elem (atB jb k2) ?_)
      refine wpS_bind (wpS_gal (b:=ja) (n:=a.size - ja) L H (sm.kind.trans hk) (memB jb k2) (by omega) (fun x hx=>sA x (List.mem_of_mem_drop (List.mem_of_mem_take hx))) (List.Pairwise.sublist ((List.take_sublist _ _).trans (List.drop_sublist _ _)) hA) (by omega) ?_)
      intro k kn hle hge
      rw [List.take_of_length_le (by rw [List.length_drop]; omega),List.drop_drop] at hge
      dsimp only
      have m2:Mg lt a.toList b.toList (out++a.extract ja (ja+k)).toList (ja+k) jb:=by
       rw [Array.toList_append,ext_toList _ _ _ (by omega)]
       exact m.a hA k (fun x hx=>head_le L hB (by omega) (hle x hx))
      by_cases kp:k > 0
      ·rw [if_pos kp]
       by_cases d1:(ja+k+1==a.size)=true
       ·rw [if_pos d1]
        refine wpS_pure ⟨sm.trans ⟨rfl,rfl,rfl,rfl⟩,.inl ⟨_,rfl,?_⟩⟩
        rw [Array.toList_append,Array.toList_append,ext_end,ext_end]
        exact last m2 (beq_iff_eq.mp d1)
       rw [if_neg d1]
       have d1:ja+k+1≠a.size:=fun e=>d1 (beq_iff_eq.mpr e)
       by_cases d2:(ja+k==a.size)=true
       ·rw [if_pos d2]
        refine wpS_pure ⟨sm.trans ⟨rfl,rfl,rfl,rfl⟩,.inl ⟨_,rfl,?_⟩⟩
        rw [Array.toList_append,Array.toList_append,ext_end,ext_end]
        exact m2.endA hB (by have:=beq_iff_eq.mp d2; omega)
       rw [if_neg d2]
       have d2:ja+k≠a.size:=fun e=>d2 (beq_iff_eq.mpr e)
       have k1:ja+k+1<a.size:=by omega
       have k4:ia'+ib'≤ja+k+jb:=by omega
       clear m hle kn d1 d2 kp
       generalize out++a.extract ja (ja+k)=out2 at m2 ⊢
       generalize ja+k=ia2 at m2 hge k1 k4 ⊢
       refine wpS_bind (wpS_elem (atB jb k2) ?_)
       have m3:Mg lt a.toList b.toList (out2.push b[jb]).toList ia2 (jb+1):=by
        rw [Array.toList_push]
        exact m2.pushB L hB (by omega) hge
       by_cases d1:(jb+1==b.size)=true
       ·rw [if_pos d1]
        refine wpS_pure ⟨sm.trans ⟨rfl,rfl,rfl,rfl⟩,.inl ⟨_,rfl,?_⟩⟩
        rw [Array.toList_append,Array.toList_append,ext_end,ext_end]
        exact m3.endB hA (by have:=beq_iff_eq.mp d1; omega)
       rw [if_neg d1]
       have d1:jb+1≠b.size:=fun e=>d1 (beq_iff_eq.mpr e)
       refine wpS_bind (wpS_elem (atA ia2 (by omega)) ?_)
       refine wpS_bind (wpS_gal (b:=jb+1) (n:=b.size - (jb+1)) L H (sm.kind.trans hk) (memA ia2 (by omega)) (by omega) (fun x hx=>sB x (List.mem_of_mem_drop (List.mem_of_mem_take hx))) (List.Pairwise.sublist ((List.take_sublist _ _).trans (List.drop_sublist _ _)) hB) (by omega) ?_)
       intro k' kn hle hge'
       rw [List.take_of_length_le (by rw [List.length_drop]; omega),List.drop_drop] at hge'
       dsimp only
       have m4:Mg lt a.toList b.toList (out2.push b[jb]++b.extract (jb+1) (jb+1+k')).toList ia2 (jb+1+k'):=by
        rw [Array.toList_append,ext_toList _ _ _ (by omega)]
        exact m3.b hB k' (fun x hx=>head_le L hA (by omega) (hle x hx))
       by_cases kp:k' > 0
       ·rw [if_pos kp]
        by_cases d3:(jb+1+k'==b.size)=true
        ·rw [if_pos d3]
         refine wpS_pure ⟨sm.trans ⟨rfl,rfl,rfl,rfl⟩,.inl ⟨_,rfl,?_⟩⟩
         rw [Array.toList_append,Array.toList_append,ext_end,ext_end]
         exact m4.endB hA (by have:=beq_iff_eq.mp d3; omega)
        rw [if_neg d3]
        have d3:jb+1+k'≠b.size:=fun e=>d3 (beq_iff_eq.mpr e)
        refine wpS_bind (wpS_elem (atA ia2 (by omega)) ?_)
        have m6:Mg lt a.toList b.toList ((out2.push b[jb]++b.extract (jb+1) (jb+1+k')).push a[ia2]).toList (ia2+1) (jb+1+k'):=by
         rw [Array.toList_push]
         exact m4.pushA L hA (by omega) hge'
        by_cases d4:(ia2+1+1==a.size)=true
        ·rw [if_pos d4]
         refine wpS_pure ⟨sm.trans ⟨rfl,rfl,rfl,rfl⟩,.inl ⟨_,rfl,?_⟩⟩
         rw [Array.toList_append,Array.toList_append,ext_end,ext_end]
         exact last m6 (beq_iff_eq.mp d4)
        rw [if_neg d4]
        have d4:ia2+1+1≠a.size:=fun e=>d4 (beq_iff_eq.mpr e)
        split
        ·exact wpS_pure ⟨sm.trans ⟨rfl,rfl,rfl,rfl⟩,.inr ⟨rfl,m6,by show ia2+1+1<a.size; omega,by show jb+1+k'<b.size; omega,by show ia'+ib'≤ia2+1+(jb+1+k'); omega⟩⟩
        ·exact wpS_pure ⟨sm.trans ⟨rfl,rfl,rfl,rfl⟩,rfl,m6,by show ia2+1+1<a.size; omega,by show jb+1+k'<b.size; omega,by show ia'+ib'≤ia2+1+(jb+1+k'); omega⟩
       ·rw [if_neg kp]
        have k0:k'=0:=by omega
        subst k0
        refine wpS_bind (wpS_elem (atA ia2 (by omega)) ?_)
        have m6:Mg lt a.toList b.toList ((out2.push b[jb]).push a[ia2]).toList (ia2+1) (jb+1):=by
         rw [Array.toList_push]
         exact m3.pushA L hA (by omega) hge'
        by_cases d4:(ia2+1+1==a.size)=true
        ·rw [if_pos d4]
         refine wpS_pure ⟨sm.trans ⟨rfl,rfl,rfl,rfl⟩,.inl ⟨_,rfl,?_⟩⟩
         rw [Array.toList_append,Array.toList_append,ext_end,ext_end]
         exact last m6 (beq_iff_eq.mp d4)
        rw [if_neg d4]
        have d4:ia2+1+1≠a.size:=fun e=>d4 (beq_iff_eq.mpr e)
        split
        ·exact wpS_pure ⟨sm.trans ⟨rfl,rfl,rfl,rfl⟩,.inr ⟨rfl,m6,by show ia2+1+1<a.size; omega,by show jb+1<b.size; omega,by show ia'+ib'≤ia2+1+(jb+1); omega⟩⟩
        ·exact wpS_pure ⟨sm.trans ⟨rfl,rfl,rfl,rfl⟩,rfl,m6,by show ia2+1+1<a.size; omega,by show jb+1<b.size; omega,by show ia'+ib'≤ia2+1+(jb+1); omega⟩
      ·rw [if_neg kp]
       have k0:k=0:=by omega
       subst k0
       have m2:=m
       have hge:∀ x∈a.toList.drop ja,Le lt b[jb] x:=hge
       clear m hle kn kp
       generalize out=out2 at m2 ⊢
       generalize ja=ia2 at m2 hge k1 k4 ⊢
       refine wpS_bind (wpS_elem (atB jb k2) ?_)
       have m3:Mg lt a.toList b.toList (out2.push b[jb]).toList ia2 (jb+1):=by
        rw [Array.toList_push]
        exact m2.pushB L hB (by omega) hge
       by_cases d1:(jb+1==b.size)=true
       ·rw [if_pos d1]
        refine wpS_pure ⟨sm.trans ⟨rfl,rfl,rfl,rfl⟩,.inl ⟨_,rfl,?_⟩⟩
        rw [Array.toList_append,Array.toList_append,ext_end,ext_end]
        exact m3.endB hA (by have:=beq_iff_eq.mp d1; omega)
       rw [if_neg d1]
       have d1:jb+1≠b.size:=fun e=>d1 (beq_iff_eq.mpr e)
       refine wpS_bind (wpS_elem (atA ia2 (by omega)) ?_)
       refine wpS_bind (wpS_gal (b:=jb+1) (n:=b.size - (jb+1)) L H (sm.kind.trans hk) (memA ia2 (by omega)) (by omega) (fun x hx=>sB x (List.mem_of_mem_drop (List.mem_of_mem_take hx))) (List.Pairwise.sublist ((List.take_sublist _ _).trans (List.drop_sublist _ _)) hB) (by omega) ?_)
       intro k' kn hle hge'
       rw [List.take_of_length_le (by rw [List.length_drop]; omega),List.drop_drop] at hge'
       dsimp only
       have m4:Mg lt a.toList b.toList (out2.push b[jb]++b.extract (jb+1) (jb+1+k')).toList ia2 (jb+1+k'):=by
        rw [Array.toList_append,ext_toList _ _ _ (by omega)]
        exact m3.b hB k' (fun x hx=>head_le L hA (by omega) (hle x hx))
       by_cases kp:k' > 0
       ·rw [if_pos kp]
        by_cases d3:(jb+1+k'==b.size)=true
        ·rw [if_pos d3]
         refine wpS_pure ⟨sm.trans ⟨rfl,rfl,rfl,rfl⟩,.inl ⟨_,rfl,?_⟩⟩
         rw [Array.toList_append,Array.toList_append,ext_end,ext_end]
         exact m4.endB hA (by have:=beq_iff_eq.mp d3; omega)
        rw [if_neg d3]
        have d3:jb+1+k'≠b.size:=fun e=>d3 (beq_iff_eq.mpr e)
        refine wpS_bind (wpS_elem (atA ia2 (by omega)) ?_)
        have m6:Mg lt a.toList b.toList ((out2.push b[jb]++b.extract (jb+1) (jb+1+k')).push a[ia2]).toList (ia2+1) (jb+1+k'):=by
         rw [Array.toList_push]
         exact m4.pushA L hA (by omega) hge'
        by_cases d4:(ia2+1+1==a.size)=true
        ·rw [if_pos d4]
         refine wpS_pure ⟨sm.trans ⟨rfl,rfl,rfl,rfl⟩,.inl ⟨_,rfl,?_⟩⟩
         rw [Array.toList_append,Array.toList_append,ext_end,ext_end]
         exact last m6 (beq_iff_eq.mp d4)
        rw [if_neg d4]
        have d4:ia2+1+1≠a.size:=fun e=>d4 (beq_iff_eq.mpr e)
        split
        ·exact wpS_pure ⟨sm.trans ⟨rfl,rfl,rfl,rfl⟩,.inr ⟨rfl,m6,by show ia2+1+1<a.size; omega,by show jb+1+k'<b.size; omega,by show ia'+ib'≤ia2+1+(jb+1+k'); omega⟩⟩
        ·exact wpS_pure ⟨sm.trans ⟨rfl,rfl,rfl,rfl⟩,rfl,m6,by show ia2+1+1<a.size; omega,by show jb+1+k'<b.size; omega,by show ia'+ib'≤ia2+1+(jb+1+k'); omega⟩
       ·rw [if_neg kp]
        have k0:k'=0:=by omega
        subst k0
        refine wpS_bind (wpS_elem (atA ia2 (by omega)) ?_)
        have m6:Mg lt a.toList b.toList ((out2.push b[jb]).push a[ia2]).toList (ia2+1) (jb+1):=by
         rw [Array.toList_push]
         exact m3.pushA L hA (by omega) hge'
        by_cases d4:(ia2+1+1==a.size)=true
        ·rw [if_pos d4]
         refine wpS_pure ⟨sm.trans ⟨rfl,rfl,rfl,rfl⟩,.inl ⟨_,rfl,?_⟩⟩
         rw [Array.toList_append,Array.toList_append,ext_end,ext_end]
         exact last m6 (beq_iff_eq.mp d4)
        rw [if_neg d4]
        have d4:ia2+1+1≠a.size:=fun e=>d4 (beq_iff_eq.mpr e)
        split
        ·exact wpS_pure ⟨sm.trans ⟨rfl,rfl,rfl,rfl⟩,.inr ⟨rfl,m6,by show ia2+1+1<a.size; omega,by show jb+1<b.size; omega,by show ia'+ib'≤ia2+1+(jb+1); omega⟩⟩
        ·exact wpS_pure ⟨sm.trans ⟨rfl,rfl,rfl,rfl⟩,rfl,m6,by show ia2+1+1<a.size; omega,by show jb+1<b.size; omega,by show ia'+ib'≤ia2+1+(jb+1); omega⟩
end
end Ts
set_option linter.all false
set_option Elab.async false
set_option maxHeartbeats 4000000
namespace Ts
open PySem PyProof.Rows
structure Mh (lt:Keyed→Keyed→Bool) (a b out:List Keyed) (na nb:Nat):Prop where
 perm:(a.take na++b.take nb++out.reverse).Perm (a++b)
 srt:out.reverse.Pairwise (Le lt)
 le_:∀ x∈out,∀ y∈a.take na++b.take nb,Le lt y x
theorem take_split (l:List Keyed) {i n:Nat} (h:i≤n):l.take n=l.take i++(l.take n).drop i:=by
 have:=List.take_append_drop i (l.take n)
 rw [List.take_take,Nat.min_eq_left h] at this
 exact this.symm
theorem Mh.a {lt:Keyed→Keyed→Bool} {a b out:List Keyed} {na nb:Nat} (m:Mh lt a b out na nb) (hA:a.Pairwise (Le lt)) (i:Nat) (hi:i≤na) (h:∀ x∈(a.take na).drop i,∀ y∈b.take nb,Le lt y x) :
  Mh lt a b (out++((a.take na).drop i).reverse) i nb:=by
 have e:=take_split a hi
 have hA':=List.Pairwise.sublist (List.take_sublist na a) hA
 rw [e,List.pairwise_append] at hA'
 refine ⟨?_,?_,?_⟩
 ·refine List.Perm.trans ?_ m.perm
  rw [List.reverse_append,List.reverse_reverse,← List.append_assoc]
  refine List.Perm.append_right _ ?_
  conv=>rhs; rw [e]
  rw [List.append_assoc,List.append_assoc]
  exact List.Perm.append_left _ List.perm_append_comm
 ·rw [List.reverse_append,List.reverse_reverse,List.pairwise_append]
  exact ⟨hA'.2.1,m.srt,fun x hx y hy=>m.le_ y (List.mem_reverse.mp hy) x (List.mem_append_left _ (List.mem_of_mem_drop hx))⟩
 ·intro x hx y hy
  rcases List.mem_append.mp hx with hx | hx
  ·refine m.le_ x hx y ?_
   rcases List.mem_append.mp hy with hy | hy
   ·exact List.mem_append_left _ (by rw [e]; exact List.mem_append_left _ hy)
   ·exact List.mem_append_right _ hy
  ·have hx:=List.mem_reverse.mp hx
   rcases List.mem_append.mp hy with hy | hy
   ·exact hA'.2.2 y hy x hx
   ·exact h x hx y hy
theorem Mh.b {lt:Keyed→Keyed→Bool} {a b out:List Keyed} {na nb:Nat} (m:Mh lt a b out na nb) (hB:b.Pairwise (Le lt)) (i:Nat) (hi:i≤nb) (h:∀ x∈(b.take nb).drop i,∀ y∈a.take na,Le lt y x) :
  Mh lt a b (out++((b.take nb).drop i).reverse) na i:=by
 have e:=take_split b hi
 have hB':=List.Pairwise.sublist (List.take_sublist nb b) hB
 rw [e,List.pairwise_append] at hB'
 refine ⟨?_,?_,?_⟩
 ·refine List.Perm.trans ?_ m.perm
  rw [List.reverse_append,List.reverse_reverse,← List.append_assoc]
  refine List.Perm.append_right _ ?_
  conv=>rhs; rw [e]
  rw [List.append_assoc]
 ·rw [List.reverse_append,List.reverse_reverse,List.pairwise_append]
  exact ⟨hB'.2.1,m.srt,fun x hx y hy=>m.le_ y (List.mem_reverse.mp hy) x (List.mem_append_right _ (List.mem_of_mem_drop hx))⟩
 ·intro x hx y hy
  rcases List.mem_append.mp hx with hx | hx
  ·refine m.le_ x hx y ?_
   rcases List.mem_append.mp hy with hy | hy
   ·exact List.mem_append_left _ hy
   ·exact List.mem_append_right _ (by rw [e]; exact List.mem_append_left _ hy)
  ·have hx:=List.mem_reverse.mp hx
   rcases List.mem_append.mp hy with hy | hy
   ·exact h x hx y hy
   ·exact hB'.2.2 y hy x hx
theorem Mh.endA {lt:Keyed→Keyed→Bool} {a b out:List Keyed} {na nb:Nat} (m:Mh lt a b out na nb) (hB:b.Pairwise (Le lt)) (h:na=0):Res lt a b (a.take na++b.take nb++out.reverse):=by
 subst h
 refine ⟨m.perm,?_⟩
 rw [List.take_zero,List.nil_append,List.pairwise_append]
 exact ⟨List.Pairwise.sublist (List.take_sublist _ _) hB,m.srt,fun x hx y hy=>m.le_ y (List.mem_reverse.mp hy) x (List.mem_append_right _ hx)⟩
theorem Mh.endB {lt:Keyed→Keyed→Bool} {a b out:List Keyed} {na nb:Nat} (m:Mh lt a b out na nb) (hA:a.Pairwise (Le lt)) (h:nb=0):Res lt a b (a.take na++b.take nb++out.reverse):=by
 subst h
 refine ⟨m.perm,?_⟩
 rw [List.take_zero,List.append_nil,List.pairwise_append]
 exact ⟨List.Pairwise.sublist (List.take_sublist _ _) hA,m.srt,fun x hx y hy=>m.le_ y (List.mem_reverse.mp hy) x (List.mem_append_left _ hx)⟩
theorem Mh.first {lt:Keyed→Keyed→Bool} {a b out:List Keyed} {na nb:Nat} (m:Mh lt a b out na nb) (hA:a.Pairwise (Le lt)) (hB:b.Pairwise (Le lt)) (h:∀ y∈b.take nb,∀ x∈a.take na,Le lt y x):Res lt a b (b.take nb++a.take na++out.reverse):=by
 refine ⟨(List.Perm.append_right _ List.perm_append_comm).trans m.perm,?_⟩
 rw [List.pairwise_append,List.pairwise_append]
 refine ⟨⟨List.Pairwise.sublist (List.take_sublist _ _) hB,List.Pairwise.sublist (List.take_sublist _ _) hA,h⟩,m.srt,fun x hx y hy=>m.le_ y (List.mem_reverse.mp hy) x ?_⟩
 rcases List.mem_append.mp hx with hx | hx
 ·exact List.mem_append_right _ hx
 ·exact List.mem_append_left _ hx
theorem take_at {l:List Keyed} {i:Nat} (h:i<l.length):(l.take (i+1)).drop i=[l[i]]:=by
 rw [List.drop_take,show i+1 - i=1 by omega,drop_at h]
theorem last_ge {lt:Keyed→Keyed→Bool} (L:Less lt) {l:List Keyed} (hl:l.Pairwise (Le lt)) {i:Nat} (h:i<l.length) {x:Keyed} (hx:Le lt l[i] x):∀ y∈l.take (i+1),Le lt y x:=by
 intro y hy
 rw [take_split l (Nat.le_succ i),take_at h] at hy
 rcases List.mem_append.mp hy with hy | hy
 ·have h2:=List.Pairwise.sublist (List.take_sublist (i+1) l) hl
  rw [take_split l (Nat.le_succ i),take_at h,List.pairwise_append] at h2
  exact L.trans (h2.2.2 y hy _ (List.mem_singleton.mpr rfl)) hx
 ·rw [List.mem_singleton.mp hy]; exact hx
theorem Mh.pushA {lt:Keyed→Keyed→Bool} (L:Less lt) {a b out:List Keyed} {na nb:Nat} (m:Mh lt a b out (na+1) nb) (hA:a.Pairwise (Le lt)) (h:na<a.length) (hle:∀ y∈b.take nb,Le lt y a[na]):Mh lt a b (out++[a[na]]) na nb:=by
 have:=m.a hA na (Nat.le_succ _) (by
  intro x hx y hy
  rw [take_at h] at hx
  rw [List.mem_singleton.mp hx]
  exact hle y hy)
 rw [take_at h] at this
 exact this
theorem Mh.pushB {lt:Keyed→Keyed→Bool} (L:Less lt) {a b out:List Keyed} {na nb:Nat} (m:Mh lt a b out na (nb+1)) (hB:b.Pairwise (Le lt)) (h:nb<b.length) (hle:∀ y∈a.take na,Le lt y b[nb]):Mh lt a b (out++[b[nb]]) na nb:=by
 have:=m.b hB nb (Nat.le_succ _) (by
  intro x hx y hy
  rw [take_at h] at hx
  rw [List.mem_singleton.mp hx]
  exact hle y hy)
 rw [take_at h] at this
 exact this
theorem ext_zero (a:Array Keyed) (n:Nat):(a.extract 0 n).toList=a.toList.take n:=by
 rw [Array.toList_extract,List.extract_eq_drop_take,List.drop_zero]; rfl
theorem ext_rev (a:Array Keyed) (i n:Nat):(a.extract i n).reverse.toList=((a.toList.take n).drop i).reverse:=by
 rw [Array.toList_reverse,Array.toList_extract,List.extract_eq_drop_take,List.drop_take]
abbrev CH1:=Option (Array Keyed)×Nat×Nat×Array Keyed×Nat
abbrev CH2:=Option (Array Keyed)×Nat×Nat×Array Keyed×Nat×Nat
abbrev CH3:=Option (Array Keyed)×Nat×Nat×Array Keyed×Nat×Nat×Nat
section
variable {M:Model} {A:Around} {E:Value→Shared→Prop} {s:Shared}
theorem wpS_mergeHi {κ:SortKind} {S:Keyed→Prop} {lt:Keyed→Keyed→Bool} (L:Less lt) (H:Asks M A E s κ S lt) {a b:Array Keyed} {Q:Array Keyed→SortSt→Prop} {st:SortSt} (hk:kindOf st=κ)
  (hA:a.toList.Pairwise (Le lt)) (hB:b.toList.Pairwise (Le lt)) (sA:∀ x∈a.toList,S x) (sB:∀ x∈b.toList,S x) (na0:0<a.size) (nb0:0<b.size)
  (h0:∀ x∈a.toList,Le lt b[0] x) (hl:∀ y∈b.toList,∀ x∈a.toList.drop (a.size - 1),Le lt y x)
  (h:∀ r st',Sim st st'→Res lt a.toList b.toList r.toList→Q r st'):wpS M A E s (mergeHi' a b) Q st:=by
 have lA:a.toList.length=a.size:=Array.length_toList
 have lB:b.toList.length=b.size:=Array.length_toList
 have atA:∀ i (hi:i<a.size),a[i]?=some a[i]:=fun i hi=>getElem?_pos a i hi
 have atB:∀ i (hi:i<b.size),b[i]?=some b[i]:=fun i hi=>getElem?_pos b i hi
 have memA:∀ i (hi:i<a.size),S a[i]:=fun i hi=>sA _ (Array.getElem_mem_toList hi)
 have memB:∀ i (hi:i<b.size),S b[i]:=fun i hi=>sB _ (Array.getElem_mem_toList hi)
 have m0:Mh lt a.toList b.toList [a[a.size - 1]] (a.size - 1) b.size:=by
  have e1:a.size - 1+1=a.size:=by omega
  have:=Mh.pushA L (lt:=lt) (a:=a.toList) (b:=b.toList) (out:=[]) (na:=a.size - 1) (nb:=b.size) (by
   rw [e1]
   refine ⟨?_,List.Pairwise.nil,fun x hx=>nomatch hx⟩
   rw [List.take_of_length_le (by omega),List.take_of_length_le (by omega),List.reverse_nil,List.append_nil]) hA (by omega) (by
   intro y hy
   refine hl y (List.mem_of_mem_take hy) _ ?_
   rw [List.drop_eq_getElem_cons (by omega)]
   exact List.mem_cons_self)
  exact this
 have first:∀ {out:List Keyed} {na nb:Nat},Mh lt a.toList b.toList out na nb→nb=1→Res lt a.toList b.toList (b.toList.take nb++a.toList.take na++out.reverse):=by
  intro out na nb m e
  refine m.first hA hB fun y hy x hx=>?_
  subst e
  rw [show b.toList.take 1=[b[0]] by have:=drop_at (l:=b.toList) (i:=0) (by omega); exact this] at hy
  rw [List.mem_singleton.mp hy]
  exact h0 x (List.mem_of_mem_take hx)
 unfold mergeHi'
 refine wpS_bind (wpS_lift (wpAny_rule ⟨rfl,?_⟩))
 dsimp only
 refine wpS_bind (wpS_elem (atA (a.size - 1) (by omega)) ?_)
 by_cases c1:(a.size - 1==0)=true
 ·rw [if_pos c1]
  refine wpS_pure (h _ _ (Sim.refl _) ?_)
  rw [Array.toList_append,Array.toList_append,ext_zero,ext_zero,Array.toList_reverse]
  exact m0.endA hB (beq_iff_eq.mp c1)
 rw [if_neg c1]
 have c1:a.size - 1≠0:=fun e=>c1 (beq_iff_eq.mpr e)
 by_cases c2:(b.size==1)=true
 ·rw [if_pos c2]
  refine wpS_pure (h _ _ (Sim.refl _) ?_)
  rw [Array.toList_append,Array.toList_append,ext_zero,ext_zero,Array.toList_reverse]
  exact first m0 (beq_iff_eq.mp c2)
 rw [if_neg c2]
 have c2:b.size≠1:=fun e=>c2 (beq_iff_eq.mpr e)
 refine wpS_bind (wpS_get ?_)
 refine wpS_bind (wpS_mono (wpS_forRange
  (I:=fun X (c:CH1) st'=>Sim st st'∧c.1=none∧Mh lt a.toList b.toList c.2.2.2.1.toList c.2.1 c.2.2.1∧0<c.2.1∧c.2.1≤a.size∧1<c.2.2.1∧c.2.2.1≤b.size∧X+1+c.2.1+c.2.2.1≤a.size+b.size)
  (Q:=fun (c:CH1) st'=>Sim st st'∧∃ r,c.1=some r∧Res lt a.toList b.toList r.toList) ?step ?fin ⟨Sim.refl _,rfl,m0,by show 0<a.size - 1; omega,by show a.size - 1≤a.size; omega,by show 1<b.size; omega,Nat.le_refl _,by show 0+1+(a.size - 1)+b.size≤a.size+b.size; omega⟩) ?post)
 case post =>
  rintro ⟨c,na,nb,out,g⟩ st' ⟨sm,r,e,hr⟩
  dsimp only at e ⊢
  subst e
  exact wpS_pure (h r _ sm hr)
 case fin =>
  rintro ⟨c,na,nb,out,g⟩ st' ⟨sm,e,m,h1,h2,h3,h4,h5⟩
  dsimp only at h1 h2 h3 h4 h5
  exfalso
  omega
 case step =>
  rintro X ⟨c,na,nb,out,g⟩ st1 _ hX ⟨sm,e,m,h1,h2,h3,h4,h5⟩
  dsimp only at e m h1 h2 h3 h4 h5 ⊢
  refine wpS_bind (wpS_mono (wpS_forRange
   (I:=fun x (c:CH2) st'=>Sim st st'∧c.1=none∧Mh lt a.toList b.toList c.2.2.2.1.toList c.2.1 c.2.2.1∧0<c.2.1∧c.2.1≤a.size∧1<c.2.2.1∧c.2.2.1≤b.size∧x+c.2.1+c.2.2.1≤na+nb)
   (Q:=fun (c:CH2) st'=>Sim st st'∧((∃ r,c.1=some r∧Res lt a.toList b.toList r.toList)∨(c.1=none∧Mh lt a.toList b.toList c.2.2.2.1.toList c.2.1 c.2.2.1∧0<c.2.1∧c.2.1≤a.size∧1<c.2.2.1∧c.2.2.1≤b.size∧1+c.2.1+c.2.2.1≤na+nb))) ?step ?fin ⟨sm,rfl,m,h1,h2,h3,h4,by show 0+na+nb≤na+nb; omega⟩) ?post)
  case fin =>
   rintro ⟨c,na',nb',out,ac,bc⟩ st' ⟨sm,e,m,k1,k2,k3,k4,k5⟩
   dsimp only at e m k1 k2 k3 k4 k5 ⊢
   exact ⟨sm,.inr ⟨e,m,k1,k2,k3,k4,by omega⟩⟩
  case step =>
   clear m h1 h2 h3 h4 sm
   rintro x ⟨c,na',nb',out,ac,bc⟩ st2 _ hx ⟨sm,e,m,k1,k2,k3,k4,k5⟩
   dsimp only at e m k1 k2 k3 k4 k5 ⊢
   obtain ⟨pa,rfl⟩:∃ pa,na'=pa+1:=⟨na' - 1,by omega⟩
   obtain ⟨pb,rfl⟩:∃ pb,nb'=pb+1:=⟨nb' - 1,by omega⟩
   simp only [Nat.add_sub_cancel]
   refine wpS_bind (wpS_elem (atB pb (by omega)) ?_)
   refine wpS_bind (wpS_elem (atA pa (by omega)) ?_)
   refine wpS_bind (H _ _ _ _ (memB _ (by omega)) (memA _ (by omega)) (sm.kind.trans hk) ?_)
   dsimp only
   cases hb:lt b[pb] a[pa] with
   | true =>
    rw [if_pos rfl]
    refine wpS_bind (wpS_elem (atA pa (by omega)) ?_)
    have m2:Mh lt a.toList b.toList (out.push a[pa]).toList pa (pb+1):=by
     rw [Array.toList_push]
     exact m.pushA L hA (by omega) (last_ge L hB (by omega) (L.of_lt hb))
    by_cases d1:(pa==0)=true
    ·rw [if_pos d1]
     refine wpS_pure ⟨sm,.inl ⟨_,rfl,?_⟩⟩
     rw [Array.toList_append,Array.toList_append,ext_zero,ext_zero,Array.toList_reverse]
     exact m2.endA hB (beq_iff_eq.mp d1)
    ·rw [if_neg d1]
     have d1:pa≠0:=fun e=>d1 (beq_iff_eq.mpr e)
     split
     ·exact wpS_pure ⟨sm,.inr ⟨rfl,m2,by show 0<pa; omega,by show pa≤a.size; omega,k3,k4,by show 1+pa+(pb+1)≤na+nb; omega⟩⟩
     ·exact wpS_pure ⟨sm,rfl,m2,by show 0<pa; omega,by show pa≤a.size; omega,k3,k4,by show x+1+pa+(pb+1)≤na+nb; omega⟩
   | false =>
    rw [if_neg (by simp)]
    refine wpS_bind (wpS_elem (atB pb (by omega)) ?_)
    have m2:Mh lt a.toList b.toList (out.push b[pb]).toList (pa+1) pb:=by
     rw [Array.toList_push]
     exact m.pushB L hB (by omega) (last_ge L hA (by omega) hb)
    by_cases d1:(pb==1)=true
    ·rw [if_pos d1]
     refine wpS_pure ⟨sm,.inl ⟨_,rfl,?_⟩⟩
     rw [Array.toList_append,Array.toList_append,ext_zero,ext_zero,Array.toList_reverse]
     exact first m2 (beq_iff_eq.mp d1)
    ·rw [if_neg d1]
     have d1:pb≠1:=fun e=>d1 (beq_iff_eq.mpr e)
     split
     ·exact wpS_pure ⟨sm,.inr ⟨rfl,m2,k1,k2,by show 1<pb; omega,by show pb≤b.size; omega,by show 1+(pa+1)+pb≤na+nb; omega⟩⟩
     ·exact wpS_pure ⟨sm,rfl,m2,k1,k2,by show 1<pb; omega,by show pb≤b.size; omega,by show x+1+(pa+1)+pb≤na+nb; omega⟩
  case post =>
   clear m h1 h2 h3 h4 sm
   rintro ⟨c,na',nb',out,ac,bc⟩ st2 ⟨sm,⟨r,e,hr⟩ | ⟨e,m,k1,k2,k3,k4,k5⟩⟩
   ·dsimp only at e ⊢
    subst e
    exact wpS_pure ⟨sm,r,rfl,hr⟩
   ·dsimp only at e m k1 k2 k3 k4 k5 ⊢
    subst e
    refine wpS_bind (wpS_lift (wpAny_rule ⟨rfl,?_⟩))
    refine wpS_bind (wpS_mono (wpS_forRange
     (I:=fun x (c:CH3) st'=>Sim st st'∧c.1=none∧Mh lt a.toList b.toList c.2.2.2.1.toList c.2.1 c.2.2.1∧0<c.2.1∧c.2.1≤a.size∧1<c.2.2.1∧c.2.2.1≤b.size∧c.2.1+c.2.2.1≤na'+nb')
     (Q:=fun (c:CH3) st'=>Sim st st'∧((∃ r,c.1=some r∧Res lt a.toList b.toList r.toList)∨(c.1=none∧Mh lt a.toList b.toList c.2.2.2.1.toList c.2.1 c.2.2.1∧0<c.2.1∧c.2.1≤a.size∧1<c.2.2.1∧c.2.2.1≤b.size∧c.2.1+c.2.2.1≤na'+nb'))) ?step ?fin ⟨sm,rfl,m,k1,k2,k3,k4,Nat.le_refl _⟩) ?post)
    case fin =>
     rintro ⟨c,ja,jb,out,g',ac,bc⟩ st' ⟨sm,e,m,k⟩
     exact ⟨sm,.inr ⟨e,m,k⟩⟩
    case post =>
     clear m k1 k2 k3 k4 sm
     rintro ⟨c,ja,jb,out,g',ac,bc⟩ st3 ⟨sm,⟨r,e,hr⟩ | ⟨e,m,k1,k2,k3,k4,k6⟩⟩
     ·dsimp only at e ⊢
      subst e
      exact wpS_pure ⟨sm,r,rfl,hr⟩
     ·dsimp only at e m k1 k2 k3 k4 k6 ⊢
      subst e
      refine wpS_bind (wpS_modify ?_)
      exact wpS_pure ⟨sm.trans ⟨rfl,rfl,rfl,rfl⟩,rfl,m,k1,k2,k3,k4,by show X+1+1+ja+jb≤a.size+b.size; omega⟩
    case step =>
     clear m k1 k2 k3 k4 sm
     rintro x ⟨c,ja,jb,out,g',ac,bc⟩ st3 _ hx ⟨sm,e,m,k1,k2,k3,k4,k6⟩
     dsimp only at e m k1 k2 k3 k4 k6 ⊢
     obtain ⟨pb,rfl⟩:∃ pb,jb=pb+1:=⟨jb - 1,by omega⟩
     simp only [Nat.add_sub_cancel]
     by_cases gg:g' > 1
     rw [if_pos gg]
     rotate_left
     rw [if_neg gg]
     all_goals
      refine wpS_bind (wpS_modify ?_)
      refine wpS_bind (wpS_elem (atB pb (by omega)) ?_)
      refine wpS_bind (wpS_gal (b:=0) (n:=ja) L H (sm.kind.trans hk) (memB pb (by omega)) (by omega) (fun x hx=>sA x (List.mem_of_mem_drop (List.mem_of_mem_take hx))) (List.Pairwise.sublist ((List.take_sublist _ _).trans (List.drop_sublist _ _)) hA) (by omega) ?_)
      intro i kn hle hge
      rw [List.drop_zero] at hle hge
      dsimp only
      have m2:Mh lt a.toList b.toList (out++(a.extract i ja).reverse).toList i (pb+1):=by
       rw [Array.toList_append,ext_rev]
       exact m.a hA i kn (fun x hx=>last_ge L hB (by omega) (hge x hx))
      by_cases kp:ja - i > 0
      ·rw [if_pos kp]
       by_cases d1:(i==0)=true
       ·rw [if_pos d1]
        refine wpS_pure ⟨sm.trans ⟨rfl,rfl,rfl,rfl⟩,.inl ⟨_,rfl,?_⟩⟩
        rw [Array.toList_append,Array.toList_append,ext_zero,ext_zero,Array.toList_reverse]
        exact m2.endA hB (beq_iff_eq.mp d1)
       rw [if_neg d1]
       have d1:i≠0:=fun e=>d1 (beq_iff_eq.mpr e)
       have k1:0<i:=by omega
       have k2:i≤a.size:=by omega
       have k6:i+(pb+1)≤na'+nb':=by omega
       clear m hge d1
       generalize out++(a.extract i ja).reverse=out2 at m2 ⊢
       generalize ja - i=u1
       obtain ⟨pa,rfl⟩:∃ pa,i=pa+1:=⟨i - 1,by omega⟩
       simp only [Nat.add_sub_cancel]
       refine wpS_bind (wpS_elem (atB pb (by omega)) ?_)
       have m3:Mh lt a.toList b.toList (out2.push b[pb]).toList (pa+1) pb:=by
        rw [Array.toList_push]
        exact m2.pushB L hB (by omega) hle
       by_cases d1:(pb==1)=true
       ·rw [if_pos d1]
        refine wpS_pure ⟨sm.trans ⟨rfl,rfl,rfl,rfl⟩,.inl ⟨_,rfl,?_⟩⟩
        rw [Array.toList_append,Array.toList_append,ext_zero,ext_zero,Array.toList_reverse]
        exact first m3 (beq_iff_eq.mp d1)
       rw [if_neg d1]
       have d1:pb≠1:=fun e=>d1 (beq_iff_eq.mpr e)
       refine wpS_bind (wpS_elem (atA pa (by omega)) ?_)
       refine wpS_bind (wpS_gal (b:=0) (n:=pb) L H (sm.kind.trans hk) (memA pa (by omega)) (by omega) (fun x hx=>sB x (List.mem_of_mem_drop (List.mem_of_mem_take hx))) (List.Pairwise.sublist ((List.take_sublist _ _).trans (List.drop_sublist _ _)) hB) (by omega) ?_)
       intro i' kn' hle' hge'
       rw [List.drop_zero] at hle' hge'
       dsimp only
       have m4:Mh lt a.toList b.toList (out2.push b[pb]++(b.extract i' pb).reverse).toList (pa+1) i':=by
        rw [Array.toList_append,ext_rev]
        exact m3.b hB i' kn' (fun x hx=>last_ge L hA (by omega) (hge' x hx))
       by_cases kp':pb - i' > 0
       ·rw [if_pos kp']
        by_cases d3:(i'==1)=true
        ·rw [if_pos d3]
         refine wpS_pure ⟨sm.trans ⟨rfl,rfl,rfl,rfl⟩,.inl ⟨_,rfl,?_⟩⟩
         rw [Array.toList_append,Array.toList_append,ext_zero,ext_zero,Array.toList_reverse]
         exact first m4 (beq_iff_eq.mp d3)
        rw [if_neg d3]
        have d3:i'≠1:=fun e=>d3 (beq_iff_eq.mpr e)
        by_cases d5:(i'==0)=true
        ·rw [if_pos d5]
         refine wpS_pure ⟨sm.trans ⟨rfl,rfl,rfl,rfl⟩,.inl ⟨_,rfl,?_⟩⟩
         rw [Array.toList_append,Array.toList_append,ext_zero,ext_zero,Array.toList_reverse]
         exact m4.endB hA (beq_iff_eq.mp d5)
        rw [if_neg d5]
        have d5:i'≠0:=fun e=>d5 (beq_iff_eq.mpr e)
        refine wpS_bind (wpS_elem (atA pa (by omega)) ?_)
        have m6:Mh lt a.toList b.toList ((out2.push b[pb]++(b.extract i' pb).reverse).push a[pa]).toList pa i':=by
         rw [Array.toList_push]
         exact m4.pushA L hA (by omega) hle'
        by_cases d4:(pa==0)=true
        ·rw [if_pos d4]
         refine wpS_pure ⟨sm.trans ⟨rfl,rfl,rfl,rfl⟩,.inl ⟨_,rfl,?_⟩⟩
         rw [Array.toList_append,Array.toList_append,ext_zero,ext_zero,Array.toList_reverse]
         exact m6.endA hB (beq_iff_eq.mp d4)
        rw [if_neg d4]
        have d4:pa≠0:=fun e=>d4 (beq_iff_eq.mpr e)
        split
        ·exact wpS_pure ⟨sm.trans ⟨rfl,rfl,rfl,rfl⟩,.inr ⟨rfl,m6,by show 0<pa; omega,by show pa≤a.size; omega,by show 1<i'; omega,by show i'≤b.size; omega,by show pa+i'≤na'+nb'; omega⟩⟩
        ·exact wpS_pure ⟨sm.trans ⟨rfl,rfl,rfl,rfl⟩,rfl,m6,by show 0<pa; omega,by show pa≤a.size; omega,by show 1<i'; omega,by show i'≤b.size; omega,by show pa+i'≤na'+nb'; omega⟩
       ·rw [if_neg kp']
        have k0':i'=pb:=by omega
        subst k0'
        refine wpS_bind (wpS_elem (atA pa (by omega)) ?_)
        have m6:Mh lt a.toList b.toList ((out2.push b[i']).push a[pa]).toList pa i':=by
         rw [Array.toList_push]
         exact m3.pushA L hA (by omega) hle'
        by_cases d4:(pa==0)=true
        ·rw [if_pos d4]
         refine wpS_pure ⟨sm.trans ⟨rfl,rfl,rfl,rfl⟩,.inl ⟨_,rfl,?_⟩⟩
         rw [Array.toList_append,Array.toList_append,ext_zero,ext_zero,Array.toList_reverse]
         exact m6.endA hB (beq_iff_eq.mp d4)
        rw [if_neg d4]
        have d4:pa≠0:=fun e=>d4 (beq_iff_eq.mpr e)
        split
        ·exact wpS_pure ⟨sm.trans ⟨rfl,rfl,rfl,rfl⟩,.inr ⟨rfl,m6,by show 0<pa; omega,by show pa≤a.size; omega,by show 1<i'; omega,by show i'≤b.size; omega,by show pa+i'≤na'+nb'; omega⟩⟩
        ·exact wpS_pure ⟨sm.trans ⟨rfl,rfl,rfl,rfl⟩,rfl,m6,by show 0<pa; omega,by show pa≤a.size; omega,by show 1<i'; omega,by show i'≤b.size; omega,by show pa+i'≤na'+nb'; omega⟩
      ·rw [if_neg kp]
       have k0:i=ja:=by omega
       subst k0
       have m2:=m
       clear m hge
       generalize i - i=u1
       generalize out=out2 at m2 ⊢
       obtain ⟨pa,rfl⟩:∃ pa,i=pa+1:=⟨i - 1,by omega⟩
       simp only [Nat.add_sub_cancel]
       refine wpS_bind (wpS_elem (atB pb (by omega)) ?_)
       have m3:Mh lt a.toList b.toList (out2.push b[pb]).toList (pa+1) pb:=by
        rw [Array.toList_push]
        exact m2.pushB L hB (by omega) hle
       by_cases d1:(pb==1)=true
       ·rw [if_pos d1]
        refine wpS_pure ⟨sm.trans ⟨rfl,rfl,rfl,rfl⟩,.inl ⟨_,rfl,?_⟩⟩
        rw [Array.toList_append,Array.toList_append,ext_zero,ext_zero,Array.toList_reverse]
        exact first m3 (beq_iff_eq.mp d1)
       rw [if_neg d1]
       have d1:pb≠1:=fun e=>d1 (beq_iff_eq.mpr e)
       refine wpS_bind (wpS_elem (atA pa (by omega)) ?_)
       refine wpS_bind (wpS_gal (b:=0) (n:=pb) L H (sm.kind.trans hk) (memA pa (by omega)) (by omega) (fun x hx=>sB x (List.mem_of_mem_drop (List.mem_of_mem_take hx))) (List.Pairwise.sublist ((List.take_sublist _ _).trans (List.drop_sublist _ _)) hB) (by omega) ?_)
       intro i' kn' hle' hge'
       rw [List.drop_zero] at hle' hge'
       dsimp only
       have m4:Mh lt a.toList b.toList (out2.push b[pb]++(b.extract i' pb).reverse).toList (pa+1) i':=by
        rw [Array.toList_append,ext_rev]
        exact m3.b hB i' kn' (fun x hx=>last_ge L hA (by omega) (hge' x hx))
       by_cases kp':pb - i' > 0
       ·rw [if_pos kp']
        by_cases d3:(i'==1)=true
        ·rw [if_pos d3]
         refine wpS_pure ⟨sm.trans ⟨rfl,rfl,rfl,rfl⟩,.inl ⟨_,rfl,?_⟩⟩
         rw [Array.toList_append,Array.toList_append,ext_zero,ext_zero,Array.toList_reverse]
         exact first m4 (beq_iff_eq.mp d3)
        rw [if_neg d3]
        have d3:i'≠1:=fun e=>d3 (beq_iff_eq.mpr e)
        by_cases d5:(i'==0)=true
        ·rw [if_pos d5]
         refine wpS_pure ⟨sm.trans ⟨rfl,rfl,rfl,rfl⟩,.inl ⟨_,rfl,?_⟩⟩
         rw [Array.toList_append,Array.toList_append,ext_zero,ext_zero,Array.toList_reverse]
         exact m4.endB hA (beq_iff_eq.mp d5)
        rw [if_neg d5]
        have d5:i'≠0:=fun e=>d5 (beq_iff_eq.mpr e)
        refine wpS_bind (wpS_elem (atA pa (by omega)) ?_)
        have m6:Mh lt a.toList b.toList ((out2.push b[pb]++(b.extract i' pb).reverse).push a[pa]).toList pa i':=by
         rw [Array.toList_push]
         exact m4.pushA L hA (by omega) hle'
        by_cases d4:(pa==0)=true
        ·rw [if_pos d4]
         refine wpS_pure ⟨sm.trans ⟨rfl,rfl,rfl,rfl⟩,.inl ⟨_,rfl,?_⟩⟩
         rw [Array.toList_append,Array.toList_append,ext_zero,ext_zero,Array.toList_reverse]
         exact m6.endA hB (beq_iff_eq.mp d4)
        rw [if_neg d4]
        have d4:pa≠0:=fun e=>d4 (beq_iff_eq.mpr e)
        split
        ·exact wpS_pure ⟨sm.trans ⟨rfl,rfl,rfl,rfl⟩,.inr ⟨rfl,m6,by show 0<pa; omega,by show pa≤a.size; omega,by show 1<i'; omega,by show i'≤b.size; omega,by show pa+i'≤na'+nb'; omega⟩⟩
        ·exact wpS_pure ⟨sm.trans ⟨rfl,rfl,rfl,rfl⟩,rfl,m6,by show 0<pa; omega,by show pa≤a.size; omega,by show 1<i'; omega,by show i'≤b.size; omega,by show pa+i'≤na'+nb'; omega⟩
       ·rw [if_neg kp']
        have k0':i'=pb:=by omega
        subst k0'
        refine wpS_bind (wpS_elem (atA pa (by omega)) ?_)
        have m6:Mh lt a.toList b.toList ((out2.push b[i']).push a[pa]).toList pa i':=by
         rw [Array.toList_push]
         exact m3.pushA L hA (by omega) hle'
        by_cases d4:(pa==0)=true
        ·rw [if_pos d4]
         refine wpS_pure ⟨sm.trans ⟨rfl,rfl,rfl,rfl⟩,.inl ⟨_,rfl,?_⟩⟩
         rw [Array.toList_append,Array.toList_append,ext_zero,ext_zero,Array.toList_reverse]
         exact m6.endA hB (beq_iff_eq.mp d4)
        rw [if_neg d4]
        have d4:pa≠0:=fun e=>d4 (beq_iff_eq.mpr e)
        split
        ·exact wpS_pure ⟨sm.trans ⟨rfl,rfl,rfl,rfl⟩,.inr ⟨rfl,m6,by show 0<pa; omega,by show pa≤a.size; omega,by show 1<i'; omega,by show i'≤b.size; omega,by show pa+i'≤na'+nb'; omega⟩⟩
        ·exact wpS_pure ⟨sm.trans ⟨rfl,rfl,rfl,rfl⟩,rfl,m6,by show 0<pa; omega,by show pa≤a.size; omega,by show 1<i'; omega,by show i'≤b.size; omega,by show pa+i'≤na'+nb'; omega⟩
end
end Ts
set_option linter.all false
set_option Elab.async false
set_option maxHeartbeats 4000000
namespace Ts
open PySem PyProof.Rows
def seg (xs:Array Keyed) (i n:Nat):List Keyed:=(xs.toList.drop i).take n
theorem seg_len {xs:Array Keyed} {i n:Nat} (h:i+n≤xs.size):(seg xs i n).length=n:=by
 unfold seg
 rw [List.length_take,List.length_drop,Array.length_toList]; omega
theorem seg_cut {xs:Array Keyed} {i n k:Nat} (h:k≤n):seg xs i n=seg xs i k++seg xs (i+k) (n - k):=by
 unfold seg
 have:=List.take_append_drop k ((xs.toList.drop i).take n)
 rw [List.take_take,Nat.min_eq_left h,List.drop_take,List.drop_drop] at this
 exact this.symm
theorem split3 (xs:Array Keyed) (i n:Nat):xs.toList=xs.toList.take i++seg xs i n++xs.toList.drop (i+n):=by
 unfold seg
 have h1:=List.take_append_drop i xs.toList
 have h2:=List.take_append_drop n (xs.toList.drop i)
 rw [List.drop_drop] at h2
 rw [List.append_assoc,h2,h1]
theorem laid (sa:Nat):∀ (m:List Keyed) (n:Nat) (xs:Array Keyed),sa+n+m.length≤xs.size →
  ((m.zipIdx n).foldl (fun a (q:Keyed×Nat)=>a.setIfInBounds (sa+q.2) q.1) xs).toList=xs.toList.take (sa+n)++m++xs.toList.drop (sa+n+m.length)
 | [],n,xs,_=>by
  rw [List.zipIdx_nil,List.foldl_nil,List.append_nil,List.length_nil,Nat.add_zero,List.take_append_drop]
 | x::m,n,xs,h=>by
  rw [List.length_cons] at h
  rw [List.zipIdx_cons,List.foldl_cons,laid sa m (n+1) _ (by rw [Array.size_setIfInBounds]; omega)]
  rw [Array.toList_setIfInBounds]
  have hl:sa+n<xs.toList.length:=by rw [Array.length_toList]; omega
  have e1:(xs.toList.set (sa+n) x).take (sa+(n+1))=xs.toList.take (sa+n)++[x]:=by
   rw [← Nat.add_assoc,List.take_succ,List.take_set_of_le (Nat.le_refl _),List.getElem?_set_self hl]; rfl
  have e2:(xs.toList.set (sa+n) x).drop (sa+(n+1)+m.length)=xs.toList.drop (sa+n+(m.length+1)):=by
   rw [List.drop_set_of_lt (by omega)]
   congr 1
   omega
  rw [e1,e2,List.append_assoc,List.append_assoc,List.append_assoc]; rfl
section
variable {M:Model} {A:Around} {E:Value→Shared→Prop} {s:Shared}
theorem wpS_set {σ:Type} {x st:σ} {Q:PUnit→σ→Prop} (h:Q ⟨⟩ x):wpS M A E s (set x:StateT σ Sem PUnit) Q st:=by
 unfold wpS; rw [StateT.run_set]; exact wpAny_pure ⟨rfl,h⟩
def Chg (xs ys:Array Keyed) (i n:Nat) (m:List Keyed):Prop:=m.Perm (seg xs i n)∧ys.toList=xs.toList.take i++m++xs.toList.drop (i+n)
theorem wpS_mergeAt {κ:SortKind} {S:Keyed→Prop} {lt:Keyed→Keyed→Bool} (L:Less lt) (H:Asks M A E s κ S lt) {i sa na w1 nb w2:Nat} {Q:Bool→SortSt→Prop} {st:SortSt} (hk:kindOf st=κ) (hf:failedOf st=none)
    (h1:(pendingOf st)[i]?=some (sa,na,w1)) (h2:(pendingOf st)[i+1]?=some (sa+na,nb,w2)) (na0:0<na) (nb0:0<nb) (hz:sa+na+nb≤(arrOf st).size)
    (hA:(seg (arrOf st) sa na).Pairwise (Le lt)) (hB:(seg (arrOf st) (sa+na) nb).Pairwise (Le lt)) (hS:∀ x∈(arrOf st).toList,S x)
    (h:∀ st' m,kindOf st'=κ→failedOf st'=none→pendingOf st'=((pendingOf st).setIfInBounds i (sa,na+nb,w1)).eraseIdxIfInBounds (i+1)→Chg (arrOf st) (arrOf st') sa (na+nb) m→m.Pairwise (Le lt)→Q true st') :
    wpS M A E s (mergeAt' i) Q st:=by
  cases st
  rename_i kd xs pd g f
  dsimp only [arrOf,kindOf,pendingOf,failedOf] at hk hf h1 h2 hz hA hB hS h
  subst hk hf
  have memS:∀ i (hi:i<xs.size),S xs[i]:=fun i hi=>hS _ (Array.getElem_mem_toList hi)
  have at_:∀ i (hi:i<xs.size),xs[i]?=some xs[i]:=fun i hi=>getElem?_pos xs i hi
  have segS:∀ i n,∀ x∈seg xs i n,S x:=fun i n x hx=>hS x (List.mem_of_mem_drop (List.mem_of_mem_take hx))
  have stay:∀ st',kindOf st'=kd→failedOf st'=none→pendingOf st'=(pd.setIfInBounds i (sa,na+nb,w1)).eraseIdxIfInBounds (i+1)→arrOf st'=xs→(seg xs sa na++seg xs (sa+na) nb).Pairwise (Le lt)→Q true st':=by
    intro st' e1 e2 e3 e4 hs
    have e5:=seg_cut (xs:=xs) (i:=sa) (n:=na+nb) (k:=na) (by omega)
    rw [Nat.add_sub_cancel_left] at e5
    refine h st' _ e1 e2 e3 ⟨List.Perm.of_eq e5.symm,?_⟩ hs
    show (arrOf st').toList=_
    rw [e4,← e5]
    exact split3 xs sa (na+nb)
  have hb0:∀ {x:Keyed},Le lt x xs[sa+na]→∀ y∈seg xs (sa+na) nb,Le lt x y:=by
    intro x hx y hy
    have hlen:=seg_len (xs:=xs) (i:=sa+na) (n:=nb) (by omega)
    have e:(seg xs (sa+na) nb)[0]=xs[sa+na]:=by
      unfold seg
      rw [List.getElem_take,List.getElem_drop]
      rfl
    exact head_le L hB (i:=0) (by omega) (by rw [e]; exact hx) y hy
  unfold mergeAt'
  refine wpS_bind (wpS_get ?_)
  dsimp only
  rw [h1,h2]
  refine wpS_bind (wpS_set ?_)
  refine wpS_bind (wpS_elem (at_ (sa+na) (by omega)) ?_)
  refine wpS_bind (wpS_gal (b:=sa) (n:=na) L H rfl (memS _ (by omega)) (by omega) (segS sa na) hA na0 ?_)
  intro k kn hle hge
  dsimp only
  have hlenA:=seg_len (xs:=xs) (i:=sa) (n:=na) (by omega)
  have eA:=seg_cut (xs:=xs) (i:=sa) (n:=na) (k:=k) kn
  have hA2:=hA
  rw [eA,List.pairwise_append] at hA2
  have hge:∀ x∈seg xs (sa+k) (na - k),Le lt xs[sa+na] x:=by
    have:((xs.toList.drop sa).take na).drop k=seg xs (sa+k) (na - k):=by
      unfold seg; rw [List.drop_take,List.drop_drop]
    rw [this] at hge
    exact hge
  have hle:∀ x∈seg xs sa k,Le lt x xs[sa+na]:=hle
  by_cases c1:(na - k==0)=true
  · rw [if_pos c1]
    have c1:=beq_iff_eq.mp c1
    have:k=na:=by omega
    subst this
    refine wpS_pure (stay _ rfl rfl rfl rfl ?_)
    rw [List.pairwise_append]
    exact ⟨hA,hB,fun x hx=>hb0 (hle x hx)⟩
  rw [if_neg c1]
  have c1:na - k≠0:=fun e=>c1 (beq_iff_eq.mpr e)
  have el:sa+k+(na - k) - 1=sa+na - 1:=by omega
  rw [el]
  refine wpS_bind (wpS_elem (at_ (sa+na - 1) (by omega)) ?_)
  refine wpS_bind (wpS_gal (b:=sa+na) (n:=nb) L H rfl (memS _ (by omega)) (by omega) (segS (sa+na) nb) hB (by omega) ?_)
  intro k' kn' hle' hge'
  dsimp only
  have hge':∀ x∈seg xs (sa+na+k') (nb - k'),Le lt xs[sa+na - 1] x:=by
    have:((xs.toList.drop (sa+na)).take nb).drop k'=seg xs (sa+na+k') (nb - k'):=by
      unfold seg; rw [List.drop_take,List.drop_drop]
    rw [this] at hge'
    exact hge'
  have hle':∀ x∈seg xs (sa+na) k',Le lt x xs[sa+na - 1]:=hle'
  have lastA:∀ {y:Keyed},Le lt xs[sa+na - 1] y→∀ x∈seg xs sa na,Le lt x y:=by
    intro y hy x hx
    have e:(seg xs sa na)[na - 1]=xs[sa+na - 1]:=by
      unfold seg
      rw [List.getElem_take,List.getElem_drop,Array.getElem_toList]
      congr 1
      omega
    have:=last_ge L hA (i:=na - 1) (by omega) (by rw [e]; exact hy) x
    rw [show na - 1+1=na by omega,List.take_of_length_le (by omega)] at this
    exact this hx
  by_cases c2:(k'==0)=true
  · rw [if_pos c2]
    have c2:=beq_iff_eq.mp c2
    subst c2
    refine wpS_pure (stay _ rfl rfl rfl rfl ?_)
    rw [List.pairwise_append]
    exact ⟨hA,hB,fun x hx y hy=>lastA (hge' y hy) x hx⟩
  rw [if_neg c2]
  have c2:k'≠0:=fun e=>c2 (beq_iff_eq.mpr e)
  have eB:=seg_cut (xs:=xs) (i:=sa+na) (n:=nb) (k:=k') kn'
  have hB2:=hB
  rw [eB,List.pairwise_append] at hB2
  have exx:(xs.extract (sa+k) (sa+na)).toList=seg xs (sa+k) (na - k):=by
    have:=ext_toList xs (sa+k) (na - k) (by omega)
    rw [show sa+k+(na - k)=sa+na by omega] at this
    exact this
  have exy:(xs.extract (sa+na) (sa+na+k')).toList=seg xs (sa+na) k':=ext_toList xs (sa+na) k' (by omega)
  have sx:(xs.extract (sa+k) (sa+na)).size=na - k:=by rw [Array.size_extract]; omega
  have sy:(xs.extract (sa+na) (sa+na+k')).size=k':=by rw [Array.size_extract]; omega
  have fin:∀ (r:Array Keyed) (st':SortSt),Sim (SortSt.mk' kd xs ((pd.setIfInBounds i (sa,na+nb,w1)).eraseIdxIfInBounds (i+1)) g none) st'→Res lt (seg xs (sa+k) (na - k)) (seg xs (sa+na) k') r.toList →
      Q true (setArr st' (List.foldl (fun a (x:Keyed×Nat)=>a.setIfInBounds (sa+k+x.2) x.1) (arrOf st') r.toList.zipIdx)):=by
    intro r st' sm hr
    have lr:r.toList.length=na - k+k':=by rw [hr.1.length_eq,List.length_append,seg_len (by omega),seg_len (by omega)]
    refine h _ (seg xs sa k++r.toList++seg xs (sa+na+k') (nb - k')) sm.kind sm.failed sm.pend ⟨?_,?_⟩ ?_
    · have e5:=seg_cut (xs:=xs) (i:=sa) (n:=na+nb) (k:=na) (by omega)
      rw [Nat.add_sub_cancel_left,eA,eB] at e5
      rw [e5,List.append_assoc,List.append_assoc]
      refine List.Perm.append_left _ ?_
      rw [← List.append_assoc]
      exact List.Perm.append_right _ hr.1
    · show (List.foldl _ (arrOf st') _).toList=_
      rw [sm.arr]
      show (List.foldl _ xs _).toList=_
      have:=laid (sa+k) r.toList 0 xs (by omega)
      rw [Nat.add_zero,lr] at this
      refine this.trans ?_
      have e1:xs.toList.take (sa+k)=xs.toList.take sa++seg xs sa k:=by unfold seg; rw [List.take_add]
      have e2:xs.toList.drop (sa+k+(na - k+k'))=seg xs (sa+na+k') (nb - k')++xs.toList.drop (sa+(na+nb)):=by
        unfold seg
        have:=List.take_append_drop (nb - k') (xs.toList.drop (sa+na+k'))
        rw [List.drop_drop] at this
        rw [show sa+k+(na - k+k')=sa+na+k' by omega,show sa+(na+nb)=sa+na+k'+(nb - k') by omega]
        exact this.symm
      rw [e1,e2]
      simp only [List.append_assoc]
    · rw [List.append_assoc,List.pairwise_append,List.pairwise_append]
      have mem:∀ y∈r.toList,y∈seg xs (sa+k) (na - k)∨y∈seg xs (sa+na) k':=fun y hy=>List.mem_append.mp (hr.1.mem_iff.mp hy)
      refine ⟨hA2.1,⟨hr.2,hB2.2.1,fun x hx y hy=>?_⟩,fun x hx y hy=>?_⟩
      · rcases mem x hx with hx | hx
        · exact lastA (hge' y hy) x (by rw [eA]; exact List.mem_append_right _ hx)
        · exact hB2.2.2 x hx y hy
      · rcases List.mem_append.mp hy with hy | hy
        · rcases mem y hy with hy | hy
          · exact hA2.2.2 x hx y hy
          · exact hb0 (hle x hx) y (by rw [eB]; exact List.mem_append_left _ hy)
        · exact hb0 (hle x hx) y (by rw [eB]; exact List.mem_append_right _ hy)
  have e0:∀ (h0:0<(xs.extract (sa+na) (sa+na+k')).size),(xs.extract (sa+na) (sa+na+k'))[0]=xs[sa+na]:=fun h0=>by
    rw [Array.getElem_extract]; rfl
  have eL:∀ y∈seg xs (sa+na) k',∀ x∈(seg xs (sa+k) (na - k)).drop (na - k - 1),Le lt y x:=by
    intro y hy x hx
    have e:(seg xs (sa+k) (na - k)).drop (na - k - 1)=[xs[sa+na - 1]]:=by
      have hl:=seg_len (xs:=xs) (i:=sa+k) (n:=na - k) (by omega)
      rw [List.drop_eq_getElem_cons (by omega),List.drop_of_length_le (by omega)]
      congr 1
      unfold seg
      rw [List.getElem_take,List.getElem_drop,Array.getElem_toList]
      congr 1
      omega
    rw [e] at hx
    rw [List.mem_singleton.mp hx]
    exact hle' y hy
  by_cases c3:na - k≤k'
  · rw [if_pos c3]
    refine wpS_bind (wpS_mergeLo L H rfl (by rw [exx]; exact hA2.2.1) (by rw [exy]; exact hB2.1) (by rw [exx]; exact segS _ _) (by rw [exy]; exact segS _ _) (by rw [sx]; omega) (by rw [sy]; omega) (by rw [exx,e0]; exact hge) (by rw [exx,exy,sx]; exact eL) fun r st' sm hr=>?_)
    rw [exx,exy] at hr
    refine wpS_bind (wpS_modify ?_)
    refine wpS_bind (wpS_get ?_)
    have:=fin r st' sm hr
    refine wpS_pure ?_
    have ef:failedOf st'=none:=sm.failed
    show Q (Option.isNone (failedOf st')) _
    rw [ef]
    exact this
  · rw [if_neg c3]
    refine wpS_bind (wpS_mergeHi L H rfl (by rw [exx]; exact hA2.2.1) (by rw [exy]; exact hB2.1) (by rw [exx]; exact segS _ _) (by rw [exy]; exact segS _ _) (by rw [sx]; omega) (by rw [sy]; omega) (by rw [exx,e0]; exact hge) (by rw [exx,exy,sx]; exact eL) fun r st' sm hr=>?_)
    rw [exx,exy] at hr
    refine wpS_bind (wpS_modify ?_)
    refine wpS_bind (wpS_get ?_)
    have:=fin r st' sm hr
    refine wpS_pure ?_
    have ef:failedOf st'=none:=sm.failed
    show Q (Option.isNone (failedOf st')) _
    rw [ef]
    exact this
end
end Ts
set_option linter.all false
set_option Elab.async false
set_option maxHeartbeats 4000000
namespace Ts
open PySem PyProof.Rows
def at' (xs:Array Keyed) (i:Nat):Keyed:=(xs[i]?).getD (.none,.none)
theorem at_congr {xs ys:Array Keyed} {i j:Nat} (h:xs[i]?=ys[j]?):at' xs i=at' ys j:=by unfold at'; rw [h]
theorem at_get {xs:Array Keyed} {i:Nat} (h:i<xs.size):xs[i]?=some (at' xs i):=by unfold at'; rw [getElem?_pos xs i h]; rfl
def Up (lt:Keyed→Keyed→Bool) (xs:Array Keyed) (lo n:Nat):Prop:=∀ p q,p≤q→q<n→Le lt (at' xs (lo+p)) (at' xs (lo+q))
def Down (lt:Keyed→Keyed→Bool) (xs:Array Keyed) (lo n:Nat):Prop:=∀ p q,p≤q→q<n→Le lt (at' xs (lo+q)) (at' xs (lo+p))
structure Keep (xs ys:Array Keyed) (lo:Nat):Prop where
 perm:ys.Perm xs
 low:∀ j,j<lo→ys[j]?=xs[j]?
theorem Keep.refl (xs:Array Keyed) (lo:Nat):Keep xs xs lo:=⟨Array.Perm.refl _,fun _ _=>rfl⟩
theorem Keep.trans {xs ys zs:Array Keyed} {lo:Nat} (h:Keep xs ys lo) (h':Keep ys zs lo):Keep xs zs lo:=⟨h'.perm.trans h.perm,fun j hj=>(h'.low j hj).trans (h.low j hj)⟩
theorem Keep.size {xs ys:Array Keyed} {lo:Nat} (h:Keep xs ys lo):ys.size=xs.size:=h.perm.size_eq
theorem Keep.mem {xs ys:Array Keyed} {lo:Nat} {S:Keyed→Prop} (h:Keep xs ys lo) (hS:∀ x∈xs.toList,S x):∀ x∈ys.toList,S x:=fun x hx=>hS x ((Array.perm_iff_toList_perm.mp h.perm).mem_iff.mp hx)
theorem keep_mirror {xs:Array Keyed} {lo i j:Nat} (hi:lo≤i) (hj:j≤xs.size):Keep xs (mirror xs i j ((j - i) / 2)) lo:=by
 refine ⟨mirror_perm _ _ _ _,fun k hk=>?_⟩
 rw [getElem?_mirror_all hj,if_neg (by omega)]
theorem at_mirror {xs:Array Keyed} {i j:Nat} (hj:j≤xs.size) (k:Nat):at' (mirror xs i j ((j - i) / 2)) k=if i≤k∧k<j then at' xs (i+j - 1 - k) else at' xs k:=by
 have:=getElem?_mirror_all (i:=i) hj k
 by_cases h:i≤k∧k<j
 ·rw [if_pos h] at this ⊢; exact at_congr this
 ·rw [if_neg h] at this ⊢; exact at_congr this
theorem at_bubble {xs:Array Keyed} {src d:Nat} (hs:src<xs.size) (hd:d≤src) (k:Nat):at' (bubble xs src d) k=if k=src - d then at' xs src else if src - d<k∧k≤src then at' xs (k - 1) else at' xs k:=by
 have:=getElem?_bubble hs d hd k
 by_cases h:k=src - d
 ·rw [if_pos h] at this ⊢; exact at_congr this
 ·rw [if_neg h] at this ⊢
  by_cases h2:src - d<k∧k≤src
  ·rw [if_pos h2] at this ⊢; exact at_congr this
  ·rw [if_neg h2] at this ⊢; exact at_congr this
section
variable {M:Model} {A:Around} {E:Value→Shared→Prop} {s:Shared}
theorem wpS_ltI {κ:SortKind} {S:Keyed→Prop} {lt:Keyed→Keyed→Bool} (H:Asks M A E s κ S lt) {i j:Nat} {Q:Option Bool→SortSt→Prop} {st:SortSt} (hk:kindOf st=κ) (hS:∀ x∈(arrOf st).toList,S x) (hi:i<(arrOf st).size) (hj:j<(arrOf st).size)
  (h:Q (some (lt (at' (arrOf st) i) (at' (arrOf st) j))) st):wpS M A E s (ltAt' i j) Q st:=by
 rw [ltAt'_eq]
 refine wpS_bind (wpS_get ?_)
 refine wpS_bind (wpS_elem (at_get hi) ?_)
 refine wpS_bind (wpS_elem (at_get hj) ?_)
 have m:∀ {i},i<(arrOf st).size→S (at' (arrOf st) i):=fun {i} hi=>hS _ (by rw [← Array.mem_def]; exact Array.mem_of_getElem? (at_get hi))
 exact H _ _ _ _ (m hi) (m hj) hk h
theorem wpS_rev {i j:Nat} {Q:Unit→SortSt→Prop} {st:SortSt} (h:Q () (setArr st (mirror (arrOf st) i j ((j - i) / 2)))):wpS M A E s (reverseSlice' i j) Q st:=by
 rw [reverseSlice'_eq]; exact wpS_modify h
theorem wpS_mov {i j:Nat} {Q:Unit→SortSt→Prop} {st:SortSt} (h:Q () (setArr st (bubble (arrOf st) i (i - j)))):wpS M A E s (moveDown' i j) Q st:=by
 rw [moveDown'_eq]; exact wpS_modify h
structure Re (st st':SortSt) (lo:Nat):Prop where
 kind:kindOf st'=kindOf st
 failed:failedOf st'=failedOf st
 pend:pendingOf st'=pendingOf st
 keep:Keep (arrOf st) (arrOf st') lo
theorem Re.refl (st:SortSt) (lo:Nat):Re st st lo:=⟨rfl,rfl,rfl,Keep.refl _ _⟩
theorem Re.set {st st':SortSt} {lo:Nat} (h:Re st st' lo) {ys:Array Keyed} (k:Keep (arrOf st') ys lo):Re st (setArr st' ys) lo:=⟨h.kind,h.failed,h.pend,h.keep.trans k⟩
theorem wpS_binary {κ:SortKind} {S:Keyed→Prop} {lt:Keyed→Keyed→Bool} (L:Less lt) (H:Asks M A E s κ S lt) {lo n ok:Nat} {Q:Bool→SortSt→Prop} {st:SortSt} (hk:kindOf st=κ) (hS:∀ x∈(arrOf st).toList,S x) (hn:lo+n≤(arrOf st).size) (hok:ok≤n) (hu:Up lt (arrOf st) lo ok)
  (h:∀ st',Re st st' lo→Up lt (arrOf st') lo n→Q true st'):wpS M A E s (binarySort' lo n ok) Q st:=by
 unfold binarySort'
 refine wpS_bind (wpS_mono (wpS_forRange (I:=fun k (c:Option Bool×Unit) st'=>c.1=none∧Re st st' lo∧Up lt (arrOf st') lo (min k n)) (Q:=fun (c:Option Bool×Unit) st'=>c.1=none∧Re st st' lo∧Up lt (arrOf st') lo n) ?step ?fin ?init) ?post)
 case init =>
  refine ⟨rfl,Re.refl _ _,fun p q hpq hq=>?_⟩
  by_cases h0:q<ok
  ·exact hu p q hpq h0
  ·have e1:q=0:=by omega
   have e2:p=0:=by omega
   subst e1 e2
   exact L.le_refl _
 case fin =>
  rintro ⟨c,u⟩ st' ⟨e,r,hu'⟩
  refine ⟨e,r,?_⟩
  rw [show min (max (max ok 1) n) n=n by omega] at hu'
  exact hu'
 case post =>
  rintro ⟨c,u⟩ st' ⟨e,r,hu'⟩
  dsimp only at e ⊢
  subst e
  exact wpS_pure (h st' r hu')
 case step =>
  rintro k ⟨c,u⟩ st1 hk1 hkn ⟨e,r,hu1⟩
  dsimp only at e hu1 ⊢
  rw [show min k n=k by omega] at hu1
  have sz:=r.keep.size
  refine wpS_bind (wpS_mono (wpS_forRange (I:=fun x (c:Option Bool×Nat×Nat) st'=>c.1=none∧st1=st'∧c.2.1≤c.2.2∧c.2.2≤k∧c.2.2 - c.2.1+x≤k∧(∀ p,p<c.2.1→Le lt (at' (arrOf st1) (lo+p)) (at' (arrOf st1) (lo+k)))∧(∀ p,c.2.2≤p→p<k→Le lt (at' (arrOf st1) (lo+k)) (at' (arrOf st1) (lo+p))))
   (Q:=fun (c:Option Bool×Nat×Nat) st'=>c.1=none∧st1=st'∧c.2.1=c.2.2∧c.2.2≤k∧(∀ p,p<c.2.1→Le lt (at' (arrOf st1) (lo+p)) (at' (arrOf st1) (lo+k)))∧(∀ p,c.2.2≤p→p<k→Le lt (at' (arrOf st1) (lo+k)) (at' (arrOf st1) (lo+p)))) ?step ?fin ?init) ?post)
  case init=>exact ⟨rfl,rfl,Nat.zero_le _,Nat.le_refl _,by show k - 0+0≤k; omega,fun p hp=>absurd hp (by show ¬ p<0; omega),fun p hp hpk=>absurd hp (by show ¬ k≤p; omega)⟩
  case fin =>
   rintro ⟨c,l,r'⟩ st' ⟨e,e2,h1,h2,h3,h4,h5⟩
   dsimp only at e h1 h2 h3 h4 h5 ⊢
   exact ⟨e,e2,by omega,h2,h4,h5⟩
  case step =>
   rintro x ⟨c,l,r'⟩ st' _ hx ⟨e,rfl,h1,h2,h3,h4,h5⟩
   dsimp only at e h1 h2 h3 h4 h5 ⊢
   by_cases hd:l≥r'
   ·rw [if_pos hd]
    exact wpS_pure ⟨rfl,rfl,by show l=r'; omega,h2,h4,h5⟩
   ·rw [if_neg hd]
    refine wpS_bind (wpS_ltI H (r.kind.trans hk) (r.keep.mem hS) (by omega) (by omega) ?_)
    dsimp only
    cases hb:lt (at' (arrOf st1) (lo+k)) (at' (arrOf st1) (lo+(l+r') / 2)) with
    | true =>
     rw [if_pos rfl]
     refine wpS_pure ⟨rfl,rfl,by show l≤(l+r') / 2; omega,by show (l+r') / 2≤k; omega,by show (l+r') / 2 - l+(x+1)≤k; omega,h4,fun p hp hpk=>?_⟩
     exact L.trans (L.of_lt hb) (hu1 _ _ hp hpk)
    | false =>
     rw [if_neg (by simp)]
     refine wpS_pure ⟨rfl,rfl,by show (l+r') / 2+1≤r'; omega,h2,by show r' - ((l+r') / 2+1)+(x+1)≤k; omega,fun p hp=>?_,h5⟩
     have hp:p<(l+r') / 2+1:=hp
     exact L.trans (hu1 p ((l+r') / 2) (by omega) (by omega)) hb
  case post =>
   rintro ⟨c,l,r'⟩ st' ⟨e,rfl,h1,h2,h4,h5⟩
   dsimp only at e h1 h2 h4 h5 ⊢
   subst e h1
   dsimp only
   refine wpS_bind (wpS_mov ?_)
   have hd:lo+k - (lo+l)=k - l:=by omega
   refine wpS_pure ⟨rfl,r.set ⟨bubble_perm _ _ _,fun j hj=>?_⟩,fun p q hpq hq=>?_⟩
   ·rw [getElem?_bubble (by omega) _ (by omega),if_neg (by omega),if_neg (by omega)]
   ·have hq:q<k+1:=by omega
    show Le lt (at' (bubble _ _ _) _) (at' (bubble _ _ _) _)
    rw [at_bubble (by omega) (by omega),at_bubble (by omega) (by omega)]
    by_cases p1:p<l
    ·rw [if_neg (by omega),if_neg (by omega)]
     by_cases q1:q<l
     ·rw [if_neg (by omega),if_neg (by omega)]
      exact hu1 p q hpq (by omega)
     ·by_cases q2:q=l
      ·rw [if_pos (by omega)]
       exact h4 p p1
      ·rw [if_neg (by omega),if_pos (by omega),show lo+q - 1=lo+(q - 1) by omega]
       exact hu1 p (q - 1) (by omega) (by omega)
    ·by_cases p2:p=l
     ·rw [if_pos (by omega)]
      by_cases q2:q=l
      ·rw [if_pos (by omega)]; exact L.le_refl _
      ·rw [if_neg (by omega),if_pos (by omega),show lo+q - 1=lo+(q - 1) by omega]
       exact h5 (q - 1) (by omega) (by omega)
     ·rw [if_neg (by omega),if_pos (by omega),if_neg (by omega),if_pos (by omega),show lo+q - 1=lo+(q - 1) by omega,show lo+p - 1=lo+(p - 1) by omega]
      exact hu1 (p - 1) (q - 1) (by omega) (by omega)
end
end Ts
set_option linter.all false
set_option Elab.async false
set_option maxHeartbeats 4000000
namespace Ts
open PySem PyProof.Rows
theorem Up.one {lt:Keyed→Keyed→Bool} (L:Less lt) (xs:Array Keyed) (lo:Nat):Up lt xs lo 1:=fun p q hpq hq=>by
 have e1:q=0:=by omega
 have e2:p=0:=by omega
 subst e1 e2
 exact L.le_refl _
theorem Up.succ {lt:Keyed→Keyed→Bool} (L:Less lt) {xs:Array Keyed} {lo n:Nat} (h:Up lt xs lo (n+1)) (hb:Le lt (at' xs (lo+n)) (at' xs (lo+(n+1)))):Up lt xs lo (n+1+1):=fun p q hpq hq=>by
 by_cases hq1:q<n+1
 ·exact h p q hpq hq1
 ·have e:q=n+1:=by omega
  subst e
  by_cases hp:p=n+1
  ·subst hp; exact L.le_refl _
  ·exact L.trans (h p n (by omega) (by omega)) hb
theorem Down.succ {lt:Keyed→Keyed→Bool} (L:Less lt) {xs:Array Keyed} {lo n:Nat} (h:Down lt xs lo (n+1)) (hb:Le lt (at' xs (lo+(n+1))) (at' xs (lo+n))):Down lt xs lo (n+1+1):=fun p q hpq hq=>by
 by_cases hq1:q<n+1
 ·exact h p q hpq hq1
 ·have e:q=n+1:=by omega
  subst e
  by_cases hp:p=n+1
  ·subst hp; exact L.le_refl _
  ·exact L.trans hb (h p n (by omega) (by omega))
def Alike (lt:Keyed→Keyed→Bool) (xs:Array Keyed) (lo n e:Nat):Prop:=∀ p q,n≤p+(e+1)→n≤q+(e+1)→p<n→q<n→Le lt (at' xs (lo+p)) (at' xs (lo+q))
theorem down_mirror {lt:Keyed→Keyed→Bool} (L:Less lt) {xs:Array Keyed} {lo n e:Nat} (hn:lo+n≤xs.size) (he:e+1≤n) (hd:Down lt xs lo n) (ha:Alike lt xs lo n e) :
  Down lt (mirror xs (lo+n - (e+1)) (lo+n) ((lo+n - (lo+n - (e+1))) / 2)) lo n∧Alike lt (mirror xs (lo+n - (e+1)) (lo+n) ((lo+n - (lo+n - (e+1))) / 2)) lo n e ∧
  ∀ k,lo+n≤k→at' (mirror xs (lo+n - (e+1)) (lo+n) ((lo+n - (lo+n - (e+1))) / 2)) k=at' xs k:=by
 have A:∀ p,p<n→at' (mirror xs (lo+n - (e+1)) (lo+n) ((lo+n - (lo+n - (e+1))) / 2)) (lo+p)=if n≤p+(e+1) then at' xs (lo+(n+n - (e+1) - 1 - p)) else at' xs (lo+p):=by
  intro p hp
  rw [at_mirror (by omega)]
  by_cases c:n≤p+(e+1)
  ·rw [if_pos (by omega),if_pos c]; congr 1; omega
  ·rw [if_neg (by omega),if_neg c]
 refine ⟨fun p q hpq hq=>?_,fun p q h1 h2 h3 h4=>?_,fun k hk=>?_⟩
 ·rw [A p (by omega),A q (by omega)]
  by_cases c:n≤p+(e+1)
  ·rw [if_pos c,if_pos (by omega)]
   exact ha _ _ (by omega) (by omega) (by omega) (by omega)
  ·rw [if_neg c]
   by_cases c2:n≤q+(e+1)
   ·rw [if_pos c2]
    exact hd p _ (by omega) (by omega)
   ·rw [if_neg c2]
    exact hd p q hpq hq
 ·rw [A p h3,A q h4,if_pos h1,if_pos h2]
  exact ha _ _ (by omega) (by omega) (by omega) (by omega)
 ·rw [at_mirror (by omega),if_neg (by omega)]
section
variable {M:Model} {A:Around} {E:Value→Shared→Prop} {s:Shared}
theorem wpS_count {κ:SortKind} {S:Keyed→Prop} {lt:Keyed→Keyed→Bool} (L:Less lt) (H:Asks M A E s κ S lt) {lo nrem:Nat} {Q:Option Nat→SortSt→Prop} {st:SortSt} (hk:kindOf st=κ) (hS:∀ x∈(arrOf st).toList,S x) (hn:lo+nrem≤(arrOf st).size) (h1:1≤nrem)
    (h:∀ m st',1≤m→m≤nrem→Re st st' lo→Up lt (arrOf st') lo m→Q (some m) st'):wpS M A E s (countRun' lo nrem) Q st:=by
  unfold countRun'
  refine wpS_bind (wpS_mono (wpS_forRange (I:=fun x (c:Option (Option Nat)×Nat) st'=>c.1=none∧st=st'∧c.2=x∧Up lt (arrOf st) lo x∧1≤x)
    (Q:=fun (c:Option (Option Nat)×Nat) st'=>c.1=none∧st=st'∧1≤c.2∧c.2≤nrem∧Up lt (arrOf st) lo c.2∧(c.2<nrem→lt (at' (arrOf st) (lo+c.2)) (at' (arrOf st) (lo+(c.2 - 1)))=true)) ?step ?fin ⟨rfl,rfl,rfl,Up.one L _ _,Nat.le_refl _⟩) ?post)
  case fin =>
    rintro ⟨c,n⟩ st' ⟨e,rfl,e2,hu,hx⟩
    dsimp only at e e2 ⊢
    rw [show max 1 nrem=nrem by omega] at e2 hu
    subst e2
    exact ⟨e,rfl,h1,Nat.le_refl _,hu,fun z=>absurd z (Nat.lt_irrefl _)⟩
  case step =>
    rintro x ⟨c,n⟩ st' hx1 hx ⟨e,rfl,e2,hu,_⟩
    dsimp only at e e2 ⊢
    subst e2
    refine wpS_bind (wpS_ltI H hk hS (by omega) (by omega) ?_)
    dsimp only
    cases hb:lt (at' (arrOf st) (lo+n)) (at' (arrOf st) (lo+n - 1)) with
    | true=>exact wpS_pure ⟨rfl,rfl,hx1,by show n≤nrem; omega,hu,fun _=>by show lt _ (at' _ (lo+(n - 1)))=true; rw [show lo+(n - 1)=lo+n - 1 by omega]; exact hb⟩
    | false =>
      rw [if_neg (by simp)]
      obtain ⟨m,rfl⟩:∃ m,n=m+1:=⟨n - 1,by omega⟩
      exact wpS_pure ⟨rfl,rfl,rfl,hu.succ L hb,by omega⟩
  case post =>
    rintro ⟨c,n⟩ st' ⟨e,rfl,n1,n2,hu,hlt⟩
    dsimp only at e n1 n2 hu hlt ⊢
    subst e
    dsimp only
    by_cases c1:(n==nrem)=true
    · rw [if_pos c1]
      exact wpS_pure (h n st n1 n2 (Re.refl _ _) hu)
    rw [if_neg c1]
    have c1:n≠nrem:=fun e=>c1 (beq_iff_eq.mpr e)
    have hlt:=hlt (by omega)
    -- what comes behind the first two parts
    have desc:∀ st1,Re st st1 lo→Down lt (arrOf st1) lo (n+1)→wpS M A E s (do
        let mut cc:=n+1
        let mut dd:=0
        for _ in [cc:nrem] do
          let some uu ← ltAt' (lo+cc) (lo+cc - 1) | return none
          if uu then
            if dd > 0 then reverseSlice' (lo+cc - (dd+1)) (lo+cc)
            dd:=0
          else
            let some vv ← ltAt' (lo+cc - 1) (lo+cc) | return none
            if vv then break
            dd:=dd+1
          cc:=cc+1
        if dd > 0 then reverseSlice' (lo+cc - (dd+1)) (lo+cc)
        reverseSlice' lo (lo+cc)
        for _ in [cc:nrem] do
          let some uu ← ltAt' (lo+cc) (lo+cc - 1) | return none
          if uu then break
          cc:=cc+1
        return some cc) Q st1:=by
      intro st1 r1 hd1
      refine wpS_bind (wpS_mono (wpS_forRange (I:=fun x (c:Option (Option Nat)×Nat×Nat) st'=>c.1=none∧Re st st' lo∧c.2.1=x∧n+1≤x∧x≤nrem∧c.2.2+1≤x∧Down lt (arrOf st') lo x∧Alike lt (arrOf st') lo x c.2.2)
        (Q:=fun (c:Option (Option Nat)×Nat×Nat) st'=>c.1=none∧Re st st' lo∧n+1≤c.2.1∧c.2.1≤nrem∧c.2.2+1≤c.2.1∧Down lt (arrOf st') lo c.2.1∧Alike lt (arrOf st') lo c.2.1 c.2.2) ?step ?fin ⟨rfl,r1,rfl,Nat.le_refl _,by omega,by show 0+1≤n+1; omega,hd1,?init⟩) ?post)
      case init =>
        intro p q hp hq hp2 hq2
        have hp:n+1≤p+(0+1):=hp
        have hq:n+1≤q+(0+1):=hq
        have:p=q:=by omega
        subst this; exact L.le_refl _
      case fin =>
        rintro ⟨c,m,e⟩ st' ⟨e1,r,e2,x1,x2,x3,x4,x5⟩
        dsimp only at e1 e2 x3 x5 ⊢
        rw [show max (n+1) nrem=nrem by omega] at e2 x1 x2 x3 x4 x5
        subst e2
        exact ⟨e1,r,x1,Nat.le_refl _,x3,x4,x5⟩
      case step =>
        rintro x ⟨c,m,e⟩ st' hx1 hx2 ⟨e1,r,e2,x1,x2,x3,x4,x5⟩
        dsimp only at e1 e2 x3 x5 ⊢
        subst e2
        have sz:=r.keep.size
        obtain ⟨m',rfl⟩:∃ m',m=m'+1:=⟨m - 1,by omega⟩
        refine wpS_bind (wpS_ltI H (r.kind.trans hk) (r.keep.mem hS) (by omega) (by omega) ?_)
        dsimp only
        rw [show lo+(m'+1) - 1=lo+m' by omega]
        cases hb:lt (at' (arrOf st') (lo+(m'+1))) (at' (arrOf st') (lo+m')) with
        | true =>
          rw [if_pos rfl]
          have one:∀ xs:Array Keyed,Alike lt xs lo (m'+1+1) 0:=by
            intro xs p q hp hq hp2 hq2
            have:p=q:=by omega
            subst this; exact L.le_refl _
          by_cases c2:e > 0
          · rw [if_pos c2]
            refine wpS_bind (wpS_rev ?_)
            obtain ⟨g1,g2,g3⟩:=down_mirror L (xs:=arrOf st') (lo:=lo) (n:=m'+1) (e:=e) (by omega) x3 x4 x5
            refine wpS_pure ⟨rfl,r.set (keep_mirror (by omega) (by omega)),rfl,by omega,by omega,by show 0+1≤m'+1+1; omega,Down.succ L g1 ?_,one _⟩
            rw [g3 _ (by omega)]
            have:at' (mirror (arrOf st') (lo+(m'+1) - (e+1)) (lo+(m'+1)) ((lo+(m'+1) - (lo+(m'+1) - (e+1))) / 2)) (lo+m')=at' (arrOf st') (lo+(m'+1 - (e+1))):=by
              rw [at_mirror (by omega),if_pos (by omega)]; congr 1; omega
            rw [this]
            exact L.trans (L.of_lt hb) (x5 m' (m'+1 - (e+1)) (by omega) (by omega) (by omega) (by omega))
          · rw [if_neg c2]
            exact wpS_pure ⟨rfl,r,rfl,by omega,by omega,by show 0+1≤m'+1+1; omega,Down.succ L x4 (L.of_lt hb),one _⟩
        | false =>
          rw [if_neg (by simp)]
          refine wpS_bind (wpS_ltI H (r.kind.trans hk) (r.keep.mem hS) (by omega) (by omega) ?_)
          dsimp only
          cases hb2:lt (at' (arrOf st') (lo+m')) (at' (arrOf st') (lo+(m'+1))) with
          | true=>exact wpS_pure ⟨rfl,r,x1,x2,x3,x4,x5⟩
          | false =>
            rw [if_neg (by simp)]
            refine wpS_pure ⟨rfl,r,rfl,by omega,by omega,by show e+1+1≤m'+1+1; omega,Down.succ L x4 hb2,?_⟩
            intro p q hp hq hp2 hq2
            have hp:m'+1+1≤p+(e+1+1):=hp
            have hq:m'+1+1≤q+(e+1+1):=hq
            by_cases p1:p=m'+1
            · subst p1
              by_cases q1:q=m'+1
              · subst q1; exact L.le_refl _
              · exact L.trans hb2 (x5 m' q (by omega) (by omega) (by omega) (by omega))
            · by_cases q1:q=m'+1
              · subst q1
                exact L.trans (x5 p m' (by omega) (by omega) (by omega) (by omega)) hb
              · exact x5 p q (by omega) (by omega) (by omega) (by omega)
      case post =>
        rintro ⟨c,m,e⟩ st2 ⟨e1,r,x1,x2,x3,x4,x5⟩
        dsimp only at e1 x1 x2 x3 x4 x5 ⊢
        subst e1
        dsimp only
        have last:∀ st3,Re st st3 lo→Down lt (arrOf st3) lo m→wpS M A E s (do
            reverseSlice' lo (lo+m)
            let mut cc:=m
            for _ in [cc:nrem] do
              let some uu ← ltAt' (lo+cc) (lo+cc - 1) | return none
              if uu then break
              cc:=cc+1
            return some cc) Q st3:=by
          intro st3 r3 hd3
          have sz:=r3.keep.size
          refine wpS_bind (wpS_rev ?_)
          have r4:=r3.set (keep_mirror (xs:=arrOf st3) (lo:=lo) (i:=lo) (j:=lo+m) (Nat.le_refl _) (by omega))
          have u4:Up lt (mirror (arrOf st3) lo (lo+m) ((lo+m - lo) / 2)) lo m:=by
            intro p q hpq hq
            rw [at_mirror (by omega),at_mirror (by omega),if_pos (by omega),if_pos (by omega),show lo+(lo+m) - 1 - (lo+p)=lo+(m - 1 - p) by omega,show lo+(lo+m) - 1 - (lo+q)=lo+(m - 1 - q) by omega]
            exact hd3 _ _ (by omega) (by omega)
          generalize hst4:setArr st3 (mirror (arrOf st3) lo (lo+m) ((lo+m - lo) / 2))=st4 at r4
          have u4:Up lt (arrOf st4) lo m:=by rw [← hst4]; exact u4
          have sz4:=r4.keep.size
          refine wpS_bind (wpS_mono (wpS_forRange (I:=fun x (c:Option (Option Nat)×Nat) st'=>c.1=none∧st4=st'∧c.2=x∧Up lt (arrOf st4) lo x∧m≤x)
            (Q:=fun (c:Option (Option Nat)×Nat) st'=>c.1=none∧st4=st'∧1≤c.2∧c.2≤nrem∧Up lt (arrOf st4) lo c.2) ?step ?fin ⟨rfl,rfl,rfl,u4,Nat.le_refl _⟩) ?post)
          case fin =>
            rintro ⟨c,y⟩ st' ⟨e,rfl,e2,hu,hx⟩
            dsimp only at e e2 ⊢
            rw [show max m nrem=nrem by omega] at e2 hu
            subst e2
            exact ⟨e,rfl,h1,Nat.le_refl _,hu⟩
          case step =>
            rintro x ⟨c,y⟩ st' hx1 hx ⟨e,rfl,e2,hu,_⟩
            dsimp only at e e2 ⊢
            subst e2
            refine wpS_bind (wpS_ltI H (r4.kind.trans hk) (r4.keep.mem hS) (by omega) (by omega) ?_)
            dsimp only
            cases hb:lt (at' (arrOf st4) (lo+y)) (at' (arrOf st4) (lo+y - 1)) with
            | true=>exact wpS_pure ⟨rfl,rfl,by show 1≤y; omega,by show y≤nrem; omega,hu⟩
            | false =>
              rw [if_neg (by simp)]
              obtain ⟨y',rfl⟩:∃ m,y=m+1:=⟨y - 1,by omega⟩
              exact wpS_pure ⟨rfl,rfl,rfl,hu.succ L hb,by omega⟩
          case post =>
            rintro ⟨c,y⟩ st' ⟨e,rfl,y1,y2,hu⟩
            dsimp only at e y1 y2 hu ⊢
            subst e
            exact wpS_pure (h y st4 y1 y2 r4 hu)
        have sz:=r.keep.size
        by_cases c2:e > 0
        · rw [if_pos c2]
          refine wpS_bind (wpS_rev ?_)
          obtain ⟨g1,g2,g3⟩:=down_mirror L (xs:=arrOf st2) (lo:=lo) (n:=m) (e:=e) (by omega) x3 x4 x5
          exact last _ (r.set (keep_mirror (by omega) (by omega))) g1
        · rw [if_neg c2]
          exact last _ r x4
    by_cases c2:n > 1
    · rw [if_pos c2]
      refine wpS_bind (wpS_ltI H hk hS (by omega) (by omega) ?_)
      dsimp only
      cases hb:lt (at' (arrOf st) lo) (at' (arrOf st) (lo+n - 1)) with
      | true =>
        rw [if_pos rfl]
        exact wpS_pure (h n st n1 n2 (Re.refl _ _) hu)
      | false =>
        rw [if_neg (by simp)]
        refine wpS_bind (wpS_rev ?_)
        refine wpS_bind (wpS_lift (wpAny_rule ⟨rfl,?_⟩))
        have all:∀ p q,p<n→q<n→Le lt (at' (arrOf st) (lo+p)) (at' (arrOf st) (lo+q)):=by
          intro p q hp hq
          have hb':Le lt (at' (arrOf st) (lo+(n - 1))) (at' (arrOf st) (lo+0)):=by rw [show lo+(n - 1)=lo+n - 1 by omega]; exact hb
          exact L.trans (L.trans (hu p (n - 1) (by omega) (by omega)) hb') (hu 0 q (by omega) hq)
        refine desc _ ((Re.refl st lo).set (keep_mirror (Nat.le_refl _) (by omega))) ?_
        have A:∀ p,p<n→at' (mirror (arrOf st) lo (lo+n) ((lo+n - lo) / 2)) (lo+p)=at' (arrOf st) (lo+(n - 1 - p)):=by
          intro p hp
          rw [at_mirror (by omega),if_pos (by omega)]; congr 1; omega
        have An:at' (mirror (arrOf st) lo (lo+n) ((lo+n - lo) / 2)) (lo+n)=at' (arrOf st) (lo+n):=by
          rw [at_mirror (by omega),if_neg (by omega)]
        intro p q hpq hq
        show Le lt (at' (mirror _ _ _ _) _) (at' (mirror _ _ _ _) _)
        by_cases q1:q=n
        · subst q1
          by_cases p1:p=q
          · subst p1; exact L.le_refl _
          · rw [An,A p (by omega)]
            exact L.trans (L.of_lt hlt) (all _ _ (by omega) (by omega))
        · rw [A p (by omega),A q (by omega)]
          exact all _ _ (by omega) (by omega)
    · rw [if_neg c2]
      refine wpS_bind (wpS_lift (wpAny_rule ⟨rfl,?_⟩))
      refine desc _ (Re.refl st lo) ?_
      have e1:n=1:=by omega
      subst e1
      refine Down.succ L (fun p q hpq hq=>?_) (L.of_lt hlt)
      have e1:q=0:=by omega
      have e2:p=0:=by omega
      subst e1 e2
      exact L.le_refl _
end
end Ts
set_option linter.all false
set_option Elab.async false
set_option maxHeartbeats 4000000
namespace Ts
open PySem PyProof.Rows
theorem seg_get {xs:Array Keyed} {s n j:Nat}:(seg xs s n)[j]?=if j<n then xs[s+j]? else none:=by
 unfold seg
 by_cases h:j<n
 ·rw [if_pos h,List.getElem?_take_of_lt h,List.getElem?_drop,Array.getElem?_toList]
 ·rw [if_neg h,List.getElem?_take_eq_none (by omega)]
theorem seg_eq {xs ys:Array Keyed} {s n:Nat} (h:∀ j,s≤j→j<s+n→ys[j]?=xs[j]?):seg ys s n=seg xs s n:=by
 refine List.ext_getElem? fun j=>?_
 rw [seg_get,seg_get]
 by_cases c:j<n
 ·rw [if_pos c,if_pos c,h _ (by omega) (by omega)]
 ·rw [if_neg c,if_neg c]
theorem Up.seg {lt:Keyed→Keyed→Bool} {xs:Array Keyed} {lo n:Nat} (h:Up lt xs lo n) (hn:lo+n≤xs.size):(seg xs lo n).Pairwise (Le lt):=by
 rw [List.pairwise_iff_getElem]
 intro i j hi hj hij
 have hl:=seg_len hn
 have e:∀ i (hi:i<(Ts.seg xs lo n).length),(Ts.seg xs lo n)[i]=at' xs (lo+i):=by
  intro i hi
  have h1:(Ts.seg xs lo n)[i]?=some (Ts.seg xs lo n)[i]:=List.getElem?_eq_getElem hi
  rw [seg_get,if_pos (by omega),at_get (by omega)] at h1
  exact (Option.some.inj h1).symm
 rw [e i hi,e j hj]
 exact h i j (by omega) (by omega)
def Runs (lt:Keyed→Keyed→Bool) (xs:Array Keyed):Nat→List (Nat×Nat)→Nat→Prop
 | i,[],hi=>i=hi
 | i,(s,n)::ps,hi=>s=i∧1≤n∧(seg xs s n).Pairwise (Le lt)∧Runs lt xs (i+n) ps hi
def kys (p:Array (Nat×Nat×Nat)):List (Nat×Nat):=p.toList.map fun q=>(q.1,q.2.1)
theorem Runs.app {lt:Keyed→Keyed→Bool} {xs:Array Keyed}:∀ {l1 l2:List (Nat×Nat)} {i hi:Nat},Runs lt xs i (l1++l2) hi↔∃ m,Runs lt xs i l1 m∧Runs lt xs m l2 hi
 | [],l2,i,hi=>⟨fun h=>⟨i,rfl,h⟩,fun ⟨m,e,h⟩=>by cases e; exact h⟩
 | (s,n)::l1,l2,i,hi=>by
  constructor
  ·rintro ⟨h1,h2,h3,h4⟩
   obtain ⟨m,h5,h6⟩:=Runs.app.mp h4
   exact ⟨m,⟨h1,h2,h3,h5⟩,h6⟩
  ·rintro ⟨m,⟨h1,h2,h3,h5⟩,h6⟩
   exact ⟨h1,h2,h3,Runs.app.mpr ⟨m,h5,h6⟩⟩
theorem Runs.le {lt:Keyed→Keyed→Bool} {xs:Array Keyed}:∀ {l:List (Nat×Nat)} {i hi:Nat},Runs lt xs i l hi→i+l.length≤hi
 | [],i,hi,h=>Nat.le_of_eq h
 | (s,n)::l,i,hi,⟨h1,h2,h3,h4⟩=>by
  have:=Runs.le h4
  rw [List.length_cons]; omega
theorem Runs.congr {lt:Keyed→Keyed→Bool} {xs ys:Array Keyed}:∀ {l:List (Nat×Nat)} {i hi:Nat},Runs lt xs i l hi→(∀ j,i≤j→j<hi→ys[j]?=xs[j]?)→Runs lt ys i l hi
 | [],i,hi,h,_=>h
 | (s,n)::l,i,hi,⟨h1,h2,h3,h4⟩,h=>by
  have:=Runs.le h4
  refine ⟨h1,h2,?_,Runs.congr h4 fun j hj=>h j (by omega)⟩
  rw [seg_eq fun j h5 h6=>h j (by omega) (by omega)]
  exact h3
theorem Chg.get {xs ys:Array Keyed} {i n:Nat} {m:List Keyed} (h:Chg xs ys i n m) (hn:i+n≤xs.size) (j:Nat):ys[j]?=if j<i then xs[j]? else if j<i+n then m[j - i]? else xs[j]?:=by
 have hl:m.length=n:=by rw [h.1.length_eq,seg_len hn]
 rw [← Array.getElem?_toList,h.2,List.append_assoc,List.getElem?_append,List.length_take,Array.length_toList,Nat.min_eq_left (by omega)]
 by_cases c:j<i
 ·rw [if_pos c,if_pos c,List.getElem?_take_of_lt c,Array.getElem?_toList]
 ·rw [if_neg c,if_neg c,List.getElem?_append,hl]
  by_cases c2:j<i+n
  ·rw [if_pos (by omega),if_pos c2]
  ·rw [if_neg (by omega),if_neg c2,List.getElem?_drop,Array.getElem?_toList]
   congr 1; omega
theorem Chg.seg {xs ys:Array Keyed} {i n:Nat} {m:List Keyed} (h:Chg xs ys i n m) (hn:i+n≤xs.size):Ts.seg ys i n=m:=by
 have hl:m.length=n:=by rw [h.1.length_eq,seg_len hn]
 refine List.ext_getElem? fun j=>?_
 rw [seg_get,h.get hn]
 by_cases c:j<n
 ·rw [if_pos c,if_neg (by omega),if_pos (by omega),show i+j - i=j by omega]
 ·rw [if_neg c,List.getElem?_eq_none (by omega)]
theorem Chg.perm {xs ys:Array Keyed} {i n:Nat} {m:List Keyed} (h:Chg xs ys i n m):ys.Perm xs:=by
 rw [Array.perm_iff_toList_perm,h.2]
 conv=>rhs; rw [split3 xs i n]
 exact List.Perm.append_right _ (List.Perm.append_left _ h.1)
theorem Runs.merge {lt:Keyed→Keyed→Bool} {xs ys:Array Keyed} {l1 l2:List (Nat×Nat)} {sa na sb nb hi:Nat} {m:List Keyed} (h:Runs lt xs 0 (l1++(sa,na)::(sb,nb)::l2) hi) (hz:hi≤xs.size) (c:Chg xs ys sa (na+nb) m) (hm:m.Pairwise (Le lt)):Runs lt ys 0 (l1++(sa,na+nb)::l2) hi:=by
 obtain ⟨k,h1,h2,h3,h4,h5,h6,h7,h8⟩:=Runs.app.mp h
 subst h2 h5
 have e1:=Runs.le h1
 have e2:=Runs.le h8
 refine Runs.app.mpr ⟨sa,Runs.congr h1 fun j _ hj=>?_,rfl,by omega,?_,?_⟩
 ·rw [c.get (by omega),if_pos hj]
 ·rw [c.seg (by omega)]; exact hm
 ·rw [← Nat.add_assoc]
  refine Runs.congr h8 fun j hj _=>?_
  rw [c.get (by omega),if_neg (by omega),if_neg (by omega)]
theorem list_at2 {l:List (Nat×Nat×Nat)} {i:Nat} {x y:Nat×Nat×Nat} (h1:l[i]?=some x) (h2:l[i+1]?=some y):l=l.take i++x::y::l.drop (i+2)∧(l.take i).length=i:=by
 have hi:=(List.getElem?_eq_some_iff.mp h1).1
 have hi2:=(List.getElem?_eq_some_iff.mp h2).1
 refine ⟨?_,by rw [List.length_take]; omega⟩
 have e1:=(List.getElem?_eq_some_iff.mp h1).2
 have e2:=(List.getElem?_eq_some_iff.mp h2).2
 conv=>lhs; rw [← List.take_append_drop i l,List.drop_eq_getElem_cons hi,List.drop_eq_getElem_cons hi2,e1,e2]
theorem ite_lt {c:Prop} [Decidable c] {n:Nat} (h:¬ n≤1):(if c then n - 2 - 1 else n - 2)+1<n:=by split<;>omega
section
variable {M:Model} {A:Around} {E:Value→Shared→Prop} {s:Shared}
structure Inv (κ:SortKind) (lt:Keyed→Keyed→Bool) (a0:Array Keyed) (st:SortSt) (lo:Nat):Prop where
 kind:kindOf st=κ
 failed:failedOf st=none
 perm:(arrOf st).Perm a0
 runs:Runs lt (arrOf st) 0 (kys (pendingOf st)) lo
theorem Inv.mem {κ:SortKind} {lt:Keyed→Keyed→Bool} {a0:Array Keyed} {st:SortSt} {lo:Nat} {S:Keyed→Prop} (h:Inv κ lt a0 st lo) (hS:∀ x∈a0.toList,S x):∀ x∈(arrOf st).toList,S x:=fun x hx=>hS x ((Array.perm_iff_toList_perm.mp h.perm).mem_iff.mp hx)
theorem wpS_mergeI {κ:SortKind} {S:Keyed→Prop} {lt:Keyed→Keyed→Bool} (L:Less lt) (H:Asks M A E s κ S lt) {a0:Array Keyed} {i lo:Nat} {Q:Bool→SortSt→Prop} {st:SortSt} (I:Inv κ lt a0 st lo) (hS:∀ x∈a0.toList,S x) (hz:lo≤a0.size) (hi:i+1<(pendingOf st).size)
  (h:∀ st',Inv κ lt a0 st' lo→(pendingOf st').size+1=(pendingOf st).size→(∀ j,lo≤j→(arrOf st')[j]?=(arrOf st)[j]?)→Q true st'):wpS M A E s (mergeAt' i) Q st:=by
 have sz:=I.perm.size_eq
 obtain ⟨⟨sa,na,w1⟩,h1⟩:∃ x,(pendingOf st)[i]?=some x:=⟨_,getElem?_pos _ i (by omega)⟩
 obtain ⟨⟨sb,nb,w2⟩,h2⟩:∃ x,(pendingOf st)[i+1]?=some x:=⟨_,getElem?_pos _ (i+1) hi⟩
 have g1:(pendingOf st).toList[i]?=some (sa,na,w1):=by rw [Array.getElem?_toList]; exact h1
 have g2:(pendingOf st).toList[i+1]?=some (sb,nb,w2):=by rw [Array.getElem?_toList]; exact h2
 obtain ⟨e,le⟩:=list_at2 g1 g2
 have r:=I.runs
 unfold kys at r
 rw [e,List.map_append,List.map_cons,List.map_cons] at r
 obtain ⟨k,r1,r2,r3,r4,r5,r6,r7,r8⟩:=Runs.app.mp r
 dsimp only at r2 r3 r4 r5 r6 r7 r8
 subst r2 r5
 have l1:=Runs.le r1
 have l8:=Runs.le r8
 refine wpS_mergeAt L H I.kind I.failed h1 h2 r3 r6 (by omega) r4 r7 (I.mem hS) fun st' m e1 e2 e3 c hm=>?_
 have eP:(pendingOf st').toList=(pendingOf st).toList.take i++(sa,na+nb,w1)::(pendingOf st).toList.drop (i+2):=by
  rw [e3,Array.toList_eraseIdxIfInBounds,Array.toList_setIfInBounds]
  conv=>lhs; rw [e]
  rw [List.set_append_right _ _ (by omega),le,Nat.sub_self,List.set_cons_zero,List.eraseIdx_append_of_length_le (by omega),le,show i+1 - i=1 by omega]
  rfl
 refine h st' ⟨e1,e2,c.perm.trans I.perm,?_⟩ ?_ fun j hj=>?_
 ·unfold kys
  rw [eP,List.map_append,List.map_cons]
  exact Runs.merge r (by omega) c hm
 ·rw [← Array.length_toList,eP,← Array.length_toList (xs:=pendingOf st)]
  conv=>rhs; rw [e]
  simp only [List.length_append,List.length_cons]
  omega
 ·rw [c.get (by omega),if_neg (by omega),if_neg (by omega)]
theorem Inv.push {κ:SortKind} {lt:Keyed→Keyed→Bool} {a0:Array Keyed} {st:SortSt} {lo n:Nat} (I:Inv κ lt a0 st lo) (hs:(seg (arrOf st) lo n).Pairwise (Le lt)) (hn:1≤n):Inv κ lt a0 (setPending st ((pendingOf st).push (lo,n,0))) (lo+n):=by
 refine ⟨I.kind,I.failed,I.perm,?_⟩
 show Runs lt (arrOf st) 0 (kys ((pendingOf st).push (lo,n,0))) (lo+n)
 unfold kys
 rw [Array.toList_push,List.map_append]
 exact Runs.app.mpr ⟨lo,I.runs,rfl,hn,hs,rfl⟩
theorem kys_modify {p:Array (Nat×Nat×Nat)} {k w:Nat}:kys (p.modify k fun x=>(x.1,x.2.1,w))=kys p:=by
 unfold kys
 refine List.ext_getElem? fun j=>?_
 rw [List.getElem?_map,List.getElem?_map,Array.getElem?_toList,Array.getElem?_toList,Array.getElem?_modify]
 by_cases c:k=j
 ·rw [if_pos c]
  cases p[j]?<;>rfl
 ·rw [if_neg c]
theorem Inv.modif {κ:SortKind} {lt:Keyed→Keyed→Bool} {a0:Array Keyed} {st:SortSt} {lo k w:Nat} (I:Inv κ lt a0 st lo):Inv κ lt a0 (setPending st ((pendingOf st).modify k fun x=>(x.1,x.2.1,w))) lo:=by
 refine ⟨I.kind,I.failed,I.perm,?_⟩
 show Runs lt (arrOf st) 0 (kys ((pendingOf st).modify k fun x=>(x.1,x.2.1,w))) lo
 rw [kys_modify]
 exact I.runs
theorem wpS_ite {α:Type} {c:Prop} [Decidable c] {t e:StateT SortSt Sem α} {Q:α→SortSt→Prop} {st:SortSt} (h1:c→wpS M A E s t Q st) (h2:¬ c→wpS M A E s e Q st):wpS M A E s (if c then t else e) Q st:=by
 by_cases h:c
 ·rw [if_pos h]; exact h1 h
 ·rw [if_neg h]; exact h2 h
theorem wpS_sort {κ:SortKind} {S:Keyed→Prop} {lt:Keyed→Keyed→Bool} (L:Less lt) (H:Asks M A E s κ S lt) {Q:Unit→SortSt→Prop} {st:SortSt} (hk:kindOf st=κ) (hf:failedOf st=none) (hp:pendingOf st=#[]) (hS:∀ x∈(arrOf st).toList,S x)
  (h:∀ st',(arrOf st').Perm (arrOf st)→failedOf st'=none→(arrOf st').toList.Pairwise (Le lt)→Q () st'):wpS M A E s sortRuns' Q st:=by
 have I0:Inv κ lt (arrOf st) st 0:=⟨hk,hf,Array.Perm.refl _,by rw [hp]; rfl⟩
 generalize ha:arrOf st=a0 at hS h I0
 unfold sortRuns'
 refine wpS_bind (wpS_get ?_)
 have ez:(arrOf st).size=a0.size:=by rw [ha]
 dsimp only
 refine wpS_bind (wpS_mono (wpS_forRange (I:=fun x (c:Option Unit×Nat) st'=>c.1=none∧Inv κ lt a0 st' c.2∧x≤c.2∧c.2≤a0.size) (Q:=fun (c:Option Unit×Nat) st'=>c.1=none∧Inv κ lt a0 st' a0.size) ?step ?fin ⟨rfl,I0,Nat.le_refl _,Nat.zero_le _⟩) ?post)
 case fin =>
  rintro ⟨c,lo⟩ st' ⟨e,I,h1,h2⟩
  have h1:max 0 (arrOf st).size≤lo:=h1
  have h2:lo≤a0.size:=h2
  have e2:lo=a0.size:=by omega
  subst e2
  exact ⟨e,I⟩
 case step =>
  rintro x ⟨c,lo⟩ st1 _ hx ⟨e,I,h1,h2⟩
  dsimp only at e I h1 h2 ⊢
  generalize hN:(arrOf st).size=N at hx ez ⊢
  have sz:=I.perm.size_eq
  refine wpS_ite (fun hd=>?_) (fun hd=>?_)
  ·have e2:lo=a0.size:=by omega
   subst e2
   exact wpS_pure ⟨rfl,I⟩
  ·refine wpS_bind (wpS_count L H I.kind (I.mem hS) (by omega) (by omega) fun m st2 m1 m2 r2 u2=>?_)
   dsimp only
   refine wpS_ite (fun hm=>?_) (fun hm=>?_)
   ·have sz2:=r2.keep.size
    refine wpS_bind (wpS_lift (wpAny_rule ⟨rfl,?_⟩))
    refine wpS_bind (wpS_binary L H (r2.kind.trans I.kind) (r2.keep.mem (I.mem hS)) (by omega) (by omega) u2 fun st3 r3' u3=>?_)
    rw [if_neg (by simp)]
    have r3:Re st1 st3 lo:=⟨r3'.kind.trans r2.kind,r3'.failed.trans r2.failed,r3'.pend.trans r2.pend,r2.keep.trans r3'.keep⟩
    have sz3:=r3.keep.size
    have sg:=u3.seg (by omega)
    have I3:Inv κ lt a0 st3 lo:=⟨r3.kind.trans I.kind,r3.failed.trans I.failed,r3.keep.perm.trans I.perm,by rw [r3.pend]; exact Runs.congr I.runs fun j _ hj=>r3.keep.low j hj⟩
    refine wpS_bind (wpS_get ?_)
    cases hb:(pendingOf st3).back? with
    | none =>
     dsimp only
     refine wpS_bind (wpS_modify ?_)
     exact wpS_pure ⟨rfl,I3.push sg (by omega),by dsimp only; omega,by dsimp only; omega⟩
    | some t =>
     obtain ⟨s1,n1,w1⟩:=t
     dsimp only
     refine wpS_bind (wpS_mono (wpS_forRange (I:=fun x (c:Option Unit×Unit) st'=>c.1=none∧Inv κ lt a0 st' lo∧∀ j,lo≤j→(arrOf st')[j]?=(arrOf st3)[j]?) (Q:=fun (c:Option Unit×Unit) st'=>c.1=none∧Inv κ lt a0 st' lo∧∀ j,lo≤j→(arrOf st')[j]?=(arrOf st3)[j]?) ?_ (fun _ _ z=>z) ⟨rfl,I3,fun _ _=>rfl⟩) ?_)
     ·rintro y ⟨c,u⟩ st4 _ _ ⟨e,I4,k4⟩
      refine wpS_bind (wpS_get ?_)
      by_cases hz:(pendingOf st4).size > 1
      ·rw [if_pos hz]
       obtain ⟨⟨q1,q2,q3⟩,hq⟩:∃ q,(pendingOf st4)[(pendingOf st4).size - 2]?=some q:=⟨_,getElem?_pos _ _ (by omega)⟩
       rw [hq]
       dsimp only
       refine wpS_ite (fun _=>?_) (fun _=>?_)
       ·exact wpS_pure ⟨rfl,I4,k4⟩
       ·refine wpS_bind (wpS_mergeI L H I4 hS (by omega) (by show (pendingOf st4).size - 2+1<(pendingOf st4).size; omega) fun st5 I5 _ k5=>?_)
        rw [if_neg (by simp)]
        exact wpS_pure ⟨rfl,I5,fun j hj=>(k5 j hj).trans (k4 j hj)⟩
      ·rw [if_neg hz]
       exact wpS_pure ⟨rfl,I4,k4⟩
     ·rintro ⟨c,u⟩ st4 ⟨e,I4,k4⟩
      dsimp only at e ⊢
      subst e
      dsimp only
      refine wpS_bind (wpS_modify ?_)
      refine wpS_bind (wpS_modify ?_)
      have sg4:=sg
      rw [← seg_eq (ys:=arrOf st4) fun j hj _=>k4 j hj] at sg4
      exact wpS_pure ⟨rfl,I4.modif.push sg4 (by omega),by dsimp only; omega,by dsimp only; omega⟩
   ·have r3:=r2
    have u3:=u2
    have sz3:=r3.keep.size
    have sg:=u3.seg (by omega)
    generalize st2=st3 at r3 u3 sz3 sg ⊢
    have I3:Inv κ lt a0 st3 lo:=⟨r3.kind.trans I.kind,r3.failed.trans I.failed,r3.keep.perm.trans I.perm,by rw [r3.pend]; exact Runs.congr I.runs fun j _ hj=>r3.keep.low j hj⟩
    refine wpS_bind (wpS_get ?_)
    cases hb:(pendingOf st3).back? with
    | none =>
     dsimp only
     refine wpS_bind (wpS_modify ?_)
     exact wpS_pure ⟨rfl,I3.push sg (by omega),by dsimp only; omega,by dsimp only; omega⟩
    | some t =>
     obtain ⟨s1,n1,w1⟩:=t
     dsimp only
     refine wpS_bind (wpS_mono (wpS_forRange (I:=fun x (c:Option Unit×Unit) st'=>c.1=none∧Inv κ lt a0 st' lo∧∀ j,lo≤j→(arrOf st')[j]?=(arrOf st3)[j]?) (Q:=fun (c:Option Unit×Unit) st'=>c.1=none∧Inv κ lt a0 st' lo∧∀ j,lo≤j→(arrOf st')[j]?=(arrOf st3)[j]?) ?_ (fun _ _ z=>z) ⟨rfl,I3,fun _ _=>rfl⟩) ?_)
     ·rintro y ⟨c,u⟩ st4 _ _ ⟨e,I4,k4⟩
      refine wpS_bind (wpS_get ?_)
      by_cases hz:(pendingOf st4).size > 1
      ·rw [if_pos hz]
       obtain ⟨⟨q1,q2,q3⟩,hq⟩:∃ q,(pendingOf st4)[(pendingOf st4).size - 2]?=some q:=⟨_,getElem?_pos _ _ (by omega)⟩
       rw [hq]
       dsimp only
       refine wpS_ite (fun _=>?_) (fun _=>?_)
       ·exact wpS_pure ⟨rfl,I4,k4⟩
       ·refine wpS_bind (wpS_mergeI L H I4 hS (by omega) (by show (pendingOf st4).size - 2+1<(pendingOf st4).size; omega) fun st5 I5 _ k5=>?_)
        rw [if_neg (by simp)]
        exact wpS_pure ⟨rfl,I5,fun j hj=>(k5 j hj).trans (k4 j hj)⟩
      ·rw [if_neg hz]
       exact wpS_pure ⟨rfl,I4,k4⟩
     ·rintro ⟨c,u⟩ st4 ⟨e,I4,k4⟩
      dsimp only at e ⊢
      subst e
      dsimp only
      refine wpS_bind (wpS_modify ?_)
      refine wpS_bind (wpS_modify ?_)
      have sg4:=sg
      rw [← seg_eq (ys:=arrOf st4) fun j hj _=>k4 j hj] at sg4
      exact wpS_pure ⟨rfl,I4.modif.push sg4 (by omega),by dsimp only; omega,by dsimp only; omega⟩
 case post =>
  rintro ⟨c,lo⟩ st1 ⟨e,I⟩
  dsimp only at e ⊢
  subst e
  dsimp only
  have sz:=I.perm.size_eq
  have n0:(pendingOf st1).size≤a0.size:=by
   have:=Runs.le I.runs
   unfold kys at this
   rw [List.length_map,Array.length_toList] at this
   omega
  refine wpS_bind (wpS_mono (wpS_forRange (I:=fun x (c:Option Unit×Unit) st'=>c.1=none∧Inv κ lt a0 st' a0.size∧((pendingOf st').size+x≤a0.size∨(pendingOf st').size≤1)) (Q:=fun (c:Option Unit×Unit) st'=>c.1=none∧Inv κ lt a0 st' a0.size∧(pendingOf st').size≤1) ?step ?fin ⟨rfl,I,.inl n0⟩) ?post)
  case fin =>
   rintro ⟨c,u⟩ st' ⟨e,I,h1⟩
   refine ⟨e,I,?_⟩
   have h1:(pendingOf st').size+max 0 (arrOf st).size≤a0.size∨(pendingOf st').size≤1:=h1
   omega
  case step =>
   rintro x ⟨c,u⟩ st2 _ hx ⟨e,I,h1⟩
   dsimp only at e h1 ⊢
   refine wpS_bind (wpS_get ?_)
   refine wpS_ite (fun hd=>?_) (fun hd=>?_)
   ·exact wpS_pure ⟨rfl,I,hd⟩
   ·refine wpS_bind (wpS_mergeI L H I hS (Nat.le_refl _) ?_ fun st3 I3 h3 _=>?_)
    ·have hd:¬ (pendingOf st2).size≤1:=hd
     exact ite_lt hd
    ·rw [if_neg (by simp)]
     refine wpS_pure ⟨rfl,I3,?_⟩
     show (pendingOf st3).size+(x+1)≤a0.size∨(pendingOf st3).size≤1
     have hd:¬ (pendingOf st2).size≤1:=hd
     omega
  case post =>
   rintro ⟨c,u⟩ st2 ⟨e,I,h1⟩
   dsimp only at e h1 ⊢
   subst e
   have r:=I.runs
   have szz:=I.perm.size_eq
   refine wpS_pure (h st2 I.perm I.failed ?_)
   match hq:kys (pendingOf st2),r with
   | [],r =>
    have r:0=a0.size:=r
    have:(arrOf st2).toList=[]:=List.eq_nil_of_length_eq_zero (by rw [Array.length_toList]; omega)
    rw [this]
    exact List.Pairwise.nil
   | [(s1,n1)],⟨r1,r2,r3,r4⟩ =>
    have r4:0+n1=a0.size:=r4
    subst r1
    have:seg (arrOf st2) 0 n1=(arrOf st2).toList:=by
     unfold seg
     rw [List.drop_zero,List.take_of_length_le (by rw [Array.length_toList]; omega)]
    rw [this] at r3
    exact r3
   | x::y::l,r =>
    have:(kys (pendingOf st2)).length=(pendingOf st2).size:=by unfold kys; rw [List.length_map,Array.length_toList]
    rw [hq,List.length_cons,List.length_cons] at this
    omega
end
end Ts
set_option linter.all false
set_option Elab.async false
set_option maxHeartbeats 4000000
set_option maxRecDepth 100000
namespace Ts
open PySem PyProof.Rows PySem.W
section
variable {prog:Program} {w:World} {A:Around} {E:Value→Shared→Prop} {s:Shared}
def Sorts (prog:Program) (w:World) (s:Shared) (a:Addr) (ks:List Value) (κ:SortKind) (S:Keyed→Prop) (lt:Keyed→Keyed→Bool):Prop :=
 ∀ (A:Around) (E:Value→Shared→Prop) (h:Heap),(∀ b o,b≠a→s.heap.get? b=some o→h.get? b=some o) →
  (2≤ks.length→∀ Q,Q κ { s with heap:=h }→wpAny (model prog w) A (keyKind' ks.toArray) Q E { s with heap:=h })∧Asks (model prog w) A E { s with heap:=h } κ S lt
theorem sort_any {κ:SortKind} {S:Keyed→Prop} {lt:Keyed→Keyed→Bool} (L:Less lt) {a:Addr} {vs:List Value} {n:Nat} {P:Fin→Shared→Prop} (ho:s.heap.get? a=some (seqObj "list" vs.toArray n)) (hz:vs.length≤sizeLine)
  (hs:Sorts prog w s a vs κ S lt) (hS:∀ x∈(pairsOf vs).toList,S x)
  (h:∀ out:Array Keyed,out.Perm (pairsOf vs)→out.toList.Pairwise (Le lt)→P (.done (.ret .none)) { s with heap:=sortedHeap s.heap a vs (out.map (·.2)) }) :
  wpAny (model prog w) A (Builtin.«list.sort» ⟨[.ref a],[]⟩) P E s:=by
 rw [list_sort_plain]
 have ha:a<s.heap.objs.size:=Heap.lt_size ho
 have hsz:vs.toArray.size=vs.length:=by simp
 refine wpAny_bind (listItems_at ho rfl ?_)
 refine wpAny_bind (listUpdate_at ho rfl ?_ (by omega) (Nat.zero_le _))
 obtain ⟨e1,ho1⟩:∃ e1,(s.heap.update a (Obj.mapSeq fun _=>#[])).get? a=some (seqObj "list" #[] e1):=⟨_,get?_update_seq ho (fun _=>#[])⟩
 refine wpAny_bind (seqEpoch_at ho1 rfl ?_)
 refine wpAny_bind (wpAny_newTuple ?_ (by first | exact hz | (simp; exact hz)))
 refine wpAny_bind (wpAny_newList ?_)
 refine wpAny_holding ?_
 show wpAny (model prog w) A _ P E { s with heap:=((s.heap.update a (Obj.mapSeq fun _=>#[])).push (seqObj "tuple" vs.toArray 0)).push (seqObj "list" #[] 0) }
 generalize hH6:((s.heap.update a (Obj.mapSeq fun _=>#[])).push (seqObj "tuple" vs.toArray 0)).push (seqObj "list" #[] 0)=h6
 have ho6:h6.get? a=some (seqObj "list" #[] e1):=by
  rw [← hH6,Heap.get?_push_ne _ _ _ (by rw [size_push',Heap.size_update]; exact Nat.ne_of_lt (Nat.lt_succ_of_lt ha)),Heap.get?_push_ne _ _ _ (by rw [Heap.size_update]; exact Nat.ne_of_lt ha)]
  exact ho1
 have keep:∀ b o,b≠a→s.heap.get? b=some o→h6.get? b=some o:=fun b o hb q=>by
  rw [← hH6]
  exact Heap.get?_push_of_some _ (Heap.get?_push_of_some _ ((Heap.get?_update_other _ _ (Ne.symm hb)).trans q))
 have fin:∀ out:Array Keyed,out.Perm (pairsOf vs)→out.toList.Pairwise (Le lt)→P (.done (.ret .none)) { s with heap:=h6.update a (Obj.mapSeq fun _=>out.map (·.2)) }:=by
  intro out hp hs
  rw [← hH6]
  exact h out hp hs
 dsimp only
 obtain ⟨hk,hasks⟩:=hs A E h6 keep
 by_cases h2:vs.toArray.size<2
 ·rw [if_pos h2,if_pos h2]
  refine wpAny_bind (wpAny_pure ?_)
  rw [StateT.run_pure]
  refine wpAny_bind (wpAny_pure ?_)
  dsimp only
  refine wpAny_bind (seqEpoch_at ho6 rfl ?_)
  refine wpAny_bind (listUpdate_at ho6 rfl ?_ (by simp) (by rw [Array.size_map]; show (pairsOf vs).size≤_; rw [pairsOf_size,sizeLine_eq]; omega))
  simp only [bne_self_eq_false,Bool.false_eq_true,if_false]
  refine wpAny_pure (fin (vs.toArray.zip vs.toArray) (Array.Perm.refl _) ?_)
  show (pairsOf vs).toList.Pairwise _
  rw [pairsOf_toList]
  match vs,hsz,h2 with
  | [], _, _ => exact List.Pairwise.nil
  | [v], _, _ => exact List.pairwise_singleton _ _
  | v₁ :: v₂ :: rest, e, h2 => simp at h2; omega
 ·rw [if_neg h2,if_neg h2]
  refine wpAny_bind (hk (by omega) _ ?_)
  refine wpAny_bind (wpAny_mono (wpS_sort (E:=E) (s:={ s with heap:=h6 }) (A:=A) L hasks (st:=SortSt.mk' κ (vs.toArray.zip vs.toArray) #[] 7 none)
   (Q:=fun _ st'=>(arrOf st').Perm (pairsOf vs)∧failedOf st'=none∧(arrOf st').toList.Pairwise (Le lt)) rfl rfl rfl hS fun st' a1 a2 a3=>⟨a1,a2,a3⟩) ?_ fun _ _ e=>e)
  rintro ⟨⟨⟩,st'⟩ s' ⟨rfl,hp,hf,hs⟩
  dsimp only
  refine wpAny_bind (seqEpoch_at ho6 rfl ?_)
  refine wpAny_bind (listUpdate_at ho6 rfl ?_ (by simp) (by refine Nat.le_trans (Nat.le_of_eq ((Array.size_map ..).trans (hp.size_eq.trans (pairsOf_size _)))) ?_; omega))
  rw [hf]
  simp only [bne_self_eq_false,Bool.false_eq_true,if_false]
  exact wpAny_pure (fin _ hp hs)
theorem sorted_any {κ:SortKind} {S:Keyed→Prop} {lt:Keyed→Keyed→Bool} (L:Less lt) {l:Addr} {vs:List Value} {Q:Value→Shared→Prop} (hl:s.heap.IsList l vs.toArray) (hz:vs.length≤sizeLine)
  (hs:∀ h,(∀ b o,s.heap.get? b=some o→h.get? b=some o)→Sorts prog w { s with heap:=h } (s.heap.objs.size+1) vs κ S lt) (hS:∀ x∈(pairsOf vs).toList,S x)
  (h:∀ out:Array Keyed,out.Perm (pairsOf vs)→out.toList.Pairwise (Le lt)→Q (.ref (s.heap.objs.size+1)) { s with heap:=sortedAll s.heap vs (out.map (·.2)) }) :
  wpAny (model prog w) A (call (.builtin "sorted") [.ref l]) Q E s:=by
 refine Calls.call_function_entry kind_sorted plain_sorted entry_sorted (args_sorted1 _) ?_
 unfold Builtin.«sorted»
 refine wpAny_bind (m:=checkCount "sorted" 1 1 _) (wpAny_pure ?_)
 refine wpAny_bind (collect_list hl ?_ hz)
 refine wpAny_bind (wpAny_newList ?_ hz)
 have hsz:((s.heap.push (seqObj "list" #[] 0)).update s.heap.objs.size (Obj.mapSeq (·++vs.toArray))).objs.size=s.heap.objs.size+1:=by
  rw [Heap.size_update,size_push']
 have hoL:(((s.heap.push (seqObj "list" #[] 0)).update s.heap.objs.size (Obj.mapSeq (·++vs.toArray))).push (seqObj "list" vs.toArray 0)).get? (s.heap.objs.size+1)=some (seqObj "list" vs.toArray 0):=by
  rw [← hsz]; exact Heap.get?_push_size _ rfl
 have keep:∀ b o,s.heap.get? b=some o→(((s.heap.push (seqObj "list" #[] 0)).update s.heap.objs.size (Obj.mapSeq (·++vs.toArray))).push (seqObj "list" vs.toArray 0)).get? b=some o:=fun b o q=>by
  have hlt:b<s.heap.objs.size:=Heap.lt_size q
  rw [Heap.get?_push_ne _ _ _ (by rw [hsz]; exact Nat.ne_of_lt (Nat.lt_succ_of_lt hlt)),Heap.get?_update_ne _ _ _ _ (Nat.ne_of_lt hlt),Heap.get?_push_ne _ _ _ (Nat.ne_of_lt hlt)]
  exact q
 show wpAny _ _ _ _ _ { s with heap:=((s.heap.push (seqObj "list" #[] 0)).update s.heap.objs.size (Obj.mapSeq (·++vs.toArray))).push (seqObj "list" vs.toArray 0) }
 rw [hsz]
 refine wpAny_bind (wpAny_holding (wpAny_call_entry slot_list_sort ⟨_,hoL,rfl⟩ entry_list_sort (sort_any L hoL hz (hs _ keep) hS fun out a1 a2=>⟨_,rfl,?_⟩) (args_list_sort _)))
 exact wpAny_pure ⟨_,rfl,h out a1 a2⟩
end
def plt (p q:Int×Int):Bool:=decide (p.1<q.1)||(decide (p.1=q.1)&&decide (p.2<q.2))
def ple (p q:Int×Int):Prop:=p.1<q.1∨(p.1=q.1∧p.2≤q.2)
theorem plt_f {p q:Int×Int}:plt p q=false↔ple q p:=by
 unfold plt ple
 rw [Bool.or_eq_false_iff,Bool.and_eq_false_iff,decide_eq_false_iff_not,decide_eq_false_iff_not,decide_eq_false_iff_not]
 omega
theorem plt_t {p q:Int×Int}:plt p q=true↔p.1<q.1∨(p.1=q.1∧p.2<q.2):=by
 unfold plt
 rw [Bool.or_eq_true,Bool.and_eq_true,decide_eq_true_eq,decide_eq_true_eq,decide_eq_true_eq]
theorem less_pairs (g:Value→Int×Int):Less fun x y=>plt (g x.1) (g y.1):=by
 constructor
 ·intro x y h
  have h:=plt_t.mp h
  refine plt_f.mpr ?_
  unfold ple
  omega
 ·intro x y z h1 h2
  have h1:=plt_f.mp h1
  have h2:=plt_f.mp h2
  refine plt_f.mpr ?_
  unfold ple at h1 h2 ⊢
  omega
section
variable {prog:Program} {w:World} {s:Shared}
theorem asks_of {M:Model} {A:Around} {E:Value→Shared→Prop} {s:Shared} {κ:SortKind} {S:Keyed→Prop} {lt:Keyed→Keyed→Bool} (h:∀ x y,S x→S y→∀ (Q':Bool→Shared→Prop) (E':Value→Shared→Prop),Q' (lt x y) s→wpAny M A (keyLt' κ x.1 y.1) Q' E' s):Asks M A E s κ S lt:=by
 intro x y st Q hx hy hk q
 rw [lt'_eq]
 refine wpS_bind (wpS_get ?_)
 rw [hk]
 refine wpS_bind (wpS_lift (wpAny_attempt (h x y hx hy _ _ ⟨rfl,?_⟩)))
 exact wpS_pure q
def PairAt (h:Heap) (v:Value) (p:Int×Int):Prop:=∃ b o t u n,v=.ref b∧h.get? b=some o∧o.cls=.type "tuple"∧o.data=.seq #[.int p.1 t,.int p.2 u] n
theorem pairs_lt {A:Around} {E:Value→Shared→Prop} {v u:Value} {p q:Int×Int} {Q:Bool→Shared→Prop} (hv:PairAt s.heap v p) (hu:PairAt s.heap u q) (h:Q (plt p q) s):wpAny (model prog w) A (keyLt' (tuples' true) v u) Q E s:=by
 obtain ⟨b,o,t1,t2,n,rfl,h1,_,d1⟩:=hv
 obtain ⟨c,o2,t3,t4,m,rfl,h2,_,d2⟩:=hu
 refine kat_lt h1 d1 h2 d2 ?_
 refine kat_cons (wpAny_eqBool_int ?_)
 refine kat_go (fun e=>kat_yes ?_) (fun e=>kat_no ?_)
 ·have e1:p.1=q.1:=by simpa using e
  refine kat_cons (wpAny_eqBool_int ?_)
  refine kat_go (fun e=>kat_yes ?_) (fun e=>kat_no ?_)
  ·have e2:p.2=q.2:=by simpa using e
   refine kat_nil ?_
   have:plt p q=false:=plt_f.mpr (by unfold ple; omega)
   rw [this] at h
   exact h
  ·have e2:¬ p.2=q.2:=by simpa using e
   refine kat_one _ _ (wpAny_lt_int ?_)
   show Q _ _
   have:plt p q=decide (p.2<q.2):=by unfold plt; rw [e1]; simp
   rw [this] at h
   exact h
 ·have e1:¬ p.1=q.1:=by simpa using e
  refine oneLt_int ?_
  have:plt p q=decide (p.1<q.1):=by unfold plt; simp [e1]
  rw [this] at h
  exact h
theorem sorts_pairs {a:Addr} {vs:List Value} {g:Value→Int×Int} (hv:∀ v∈vs,PairAt s.heap v (g v)∧v≠.ref a):Sorts prog w s a vs (tuples' true) (fun x=>x∈(pairsOf vs).toList) (fun x y=>plt (g x.1) (g y.1)):=by
  intro A E h keep
  have hv':∀ v∈vs,PairAt h v (g v):=by
    intro v hm
    obtain ⟨⟨b,o,t,u,n,rfl,h1,h2,h3⟩,hne⟩:=hv v hm
    exact ⟨b,o,t,u,n,rfl,keep b o (fun e=>hne (by rw [e])) h1,h2,h3⟩
  refine ⟨fun h2 Q q=>?_,?_⟩
  · have key:∀ (us:List Value),(∀ v∈us,PairAt h v (g v))→∃ fs,KatTups h us fs∧fs.length=us.length∧∀ f∈fs,∃ i t,f=.int i t:=by
      intro us
      induction us with
      | nil=>intro _; exact ⟨[],KatTups.nil,rfl,fun f hf=>nomatch hf⟩
      | cons v us ih =>
        intro hu
        obtain ⟨fs,k1,k2,k3⟩:=ih fun v hv=>hu v (List.mem_cons_of_mem _ hv)
        obtain ⟨b,o,t,u,n,e,h1,h2,h3⟩:=hu v List.mem_cons_self
        refine ⟨.int (g v).1 t::fs,?_,by rw [List.length_cons,List.length_cons,k2],fun f hf=>?_⟩
        · rw [e]
          rw [e] at h3
          exact KatTups.cons h1 h2 h3 rfl k1
        · rcases List.mem_cons.mp hf with rfl | hf
          · exact ⟨_,_,rfl⟩
          · exact k3 f hf
    obtain ⟨fs,k1,k2,k3⟩:=key vs hv'
    refine kat_kind (T:=.type "int") k1 (by omega) (fun f hf=>?_) (by decide) ?_
    · obtain ⟨i,t,rfl⟩:=k3 f hf
      exact Looks.of_pure rfl
    · have:(Value.type "int" != Value.type "tuple")=true:=by decide
      rw [this]
      exact q
  · refine asks_of fun x y hx hy Q' E' q=>?_
    rw [pairsOf_toList] at hx hy
    exact pairs_lt (hv' _ (mem_zip_self hx).2) (hv' _ (mem_zip_self hy).2) q
theorem less_ints:Less fun x y=>decide (numOf x.1<numOf y.1):=by
 constructor
 ·intro x y h
  have h:=of_decide_eq_true h
  exact decide_eq_false (by omega)
 ·intro x y z h1 h2
  have h1:=of_decide_eq_false h1
  have h2:=of_decide_eq_false h2
  exact decide_eq_false (by omega)
theorem sorts_ints {a:Addr} {vs:List Value} {ns:List Int} (hv:IntsAre vs ns):Sorts prog w s a vs oneType' (fun x=>x∈(pairsOf vs).toList) (fun x y=>decide (numOf x.1<numOf y.1)):=by
 intro A E h keep
 refine ⟨fun h2 Q q=>?_,?_⟩
 ·match vs,hv,h2 with
  | v₁ :: v₂ :: rest, hv, _ => rw [keyKind_ints hv]; exact wpAny_pure q
  | [], _, h2 => simp at h2
  | [_], _, h2 => simp at h2
 ·refine asks_of fun x y hx hy Q' E' q=>?_
  rw [pairsOf_toList] at hx hy
  obtain ⟨i,t,e1⟩:=hv.all _ (mem_zip_self hx).2
  obtain ⟨j,u,e2⟩:=hv.all _ (mem_zip_self hy).2
  rw [e1,e2] at q ⊢
  rw [keyLt'_oneType]
  exact oneLt_int q
end
end Ts
set_option Elab.async false
set_option linter.all false
set_option maxRecDepth 100000
set_option maxHeartbeats 4000000
namespace L2
open PySem PySem.Spec PyProof.Rows
def PtV (H:Hp) (v:V) (p:Int×Int):Prop:=∃ b,v=.ref b∧H b=some (.tup [.int p.1,.int p.2])
def rSort (K:PySem.W.Frag) (vs:List V) (H:Hp) (Q:VK):Prop:=∃ a xs,vs=[.ref a]∧SqL K H a xs ∧
  ((∃ g:V→Int×Int,(∀ v∈xs,PtV H v (g v))∧∀ (l:Addr) (ys:List V),H l=none→ys.Perm xs→ys.Pairwise (fun x y=>Ts.ple (g x) (g y))→Q (.ref l) (upd H l (.lst ys))) ∨
   (∃ ns:List Int,xs=ns.map V.int∧∀ (l:Addr) (ms:List Int),H l=none→ms.Perm ns→ms.Pairwise (·≤·)→Q (.ref l) (upd H l (.lst (ms.map V.int)))))
theorem sortedAll_keep {h:Heap} {vs:List Value} {out:Array Value} {b:Addr} {o:Obj} (q:h.get? b=some o):(sortedAll h vs out).get? b=some o:=by
 have hlt:b<h.objs.size:=Heap.lt_size q
 have hsz:((h.push (seqObj "list" #[] 0)).update h.objs.size (Obj.mapSeq (·++vs.toArray))).objs.size=h.objs.size+1:=by rw [Heap.size_update,size_push']
 unfold sortedAll sortedHeap
 rw [Heap.get?_update_ne _ _ _ _ (Nat.ne_of_lt (Nat.lt_succ_of_lt hlt))]
 refine Heap.get?_push_of_some _ (Heap.get?_push_of_some _ ?_)
 rw [Heap.get?_update_ne _ _ _ _ (Nat.ne_of_lt (Nat.lt_succ_of_lt hlt))]
 refine Heap.get?_push_of_some _ ?_
 rw [Heap.get?_update_ne _ _ _ _ (Nat.ne_of_lt hlt)]
 exact Heap.get?_push_of_some _ q
theorem sortedAll_new {h:Heap} {vs:List Value} {out:Array Value}:∃ n,(sortedAll h vs out).get? (h.objs.size+1)=some { cls:=.type "list",data:=.seq out n }:=by
 have hsz:((h.push (seqObj "list" #[] 0)).update h.objs.size (Obj.mapSeq (·++vs.toArray))).objs.size=h.objs.size+1:=by rw [Heap.size_update,size_push']
 unfold sortedAll sortedHeap
 have h1:(((h.push (seqObj "list" #[] 0)).update h.objs.size (Obj.mapSeq (·++vs.toArray))).push (seqObj "list" vs.toArray 0)).get? (h.objs.size+1)=some (seqObj "list" vs.toArray 0):=by rw [← hsz]; exact Heap.get?_push_size _ rfl
 have h2:=get?_update_seq h1 (fun _=>#[])
 exact ⟨_,get?_update_seq (Heap.get?_push_of_some _ (Heap.get?_push_of_some _ h2)) (fun _=>out)⟩
theorem Vals.intsAre:∀ {ns:List Int} {us:List Value},Vals (ns.map V.int) us→IntsAre us ns
 | [],_,.nil=>.nil
 | n::ns,_,.cons ⟨t,e⟩ r=>by subst e; exact .cons n t (Vals.intsAre r)
theorem vals_ofInts:∀ {ns:List Int} {us:List Value},IntsAre us ns→Vals (ns.map V.int) us
 | _,_,.nil=>.nil
 | _,_,.cons n t h=>.cons ⟨t,rfl⟩ (vals_ofInts h)
def toV:Value→V
 | .ref b=>.ref b
 | _=>.non
theorem Vals.refs:∀ {xs:List V} {us:List Value},Vals xs us→(∀ v∈xs,∃ b,v=.ref b)→us.map toV=xs∧∀ u∈us,∃ b,u=.ref b
 | _,_,.nil,_=>⟨rfl,fun u hu=>nomatch hu⟩
 | v::xs,u::us,.cons r rs,h=>by
  obtain ⟨b,rfl⟩:=h v List.mem_cons_self
  have r:u=Value.ref b:=r
  subst r
  obtain ⟨h1,h2⟩:=Vals.refs rs fun v hv=>h v (List.mem_cons_of_mem _ hv)
  refine ⟨by rw [List.map_cons,h1]; rfl,fun u hu=>?_⟩
  rcases List.mem_cons.mp hu with rfl | hu
  ·exact ⟨b,rfl⟩
  ·exact h2 u hu
theorem vals_refs:∀ {us:List Value},(∀ u∈us,∃ b,u=.ref b)→Vals (us.map toV) us
 | [],_=>.nil
 | u::us,h=>by
  obtain ⟨b,rfl⟩:=h u List.mem_cons_self
  exact .cons rfl (vals_refs fun u hu=>h u (List.mem_cons_of_mem _ hu))
theorem cI_sortedK {X:Cx} (K:PySem.W.Frag) (hK:X.K=K):CallR X (.builtin "sorted") (rSort K):=by
 subst hK
 intro pins s σ H xs us Q I hv h
 obtain ⟨a,ys,rfl,hl,h⟩:=h
 cases hv with
 | cons r hv =>
 cases hv
 cases r
 obtain ⟨its,rv,pl,hz⟩:=I.list hl
 have hlen:=rv.length
 have hz':its.length≤sizeLine:=by omega
 rcases h with ⟨g,hg,h⟩ | ⟨ns,rfl,h⟩
 ·obtain ⟨em,hr⟩:=rv.refs fun v hv=>let ⟨b,e,_⟩:=hg v hv; ⟨b,e⟩
  have hp:∀ u∈its,∃ b,u=.ref b∧b<s.heap.objs.size∧Ts.PairAt s.heap u (g (toV u)):=by
   intro u hu
   obtain ⟨b,rfl⟩:=hr u hu
   have hm:V.ref b∈ys:=by rw [← em]; exact List.mem_map.mpr ⟨_,hu,rfl⟩
   obtain ⟨b',e,hb⟩:=hg _ hm
   cases e
   obtain ⟨_,its2,r2,o,ho,hc,n,hd⟩:=I.hok _ _ hb
   refine ⟨b,rfl,Heap.lt_size ho,?_⟩
   cases r2 with
   | cons q1 r2 =>
   obtain ⟨t1,rfl⟩:=q1
   cases r2 with
   | cons q2 r2 =>
   obtain ⟨t2,rfl⟩:=q2
   cases r2
   exact ⟨b,o,t1,t2,n,rfl,ho,hc,hd⟩
  refine Ts.sorted_any (κ:=tuples' true) (S:=fun x=>x∈(pairsOf its).toList) (lt:=fun x y=>Ts.plt (g (toV x.1)) (g (toV y.1))) (Ts.less_pairs fun u=>g (toV u)) pl.isList hz' (fun h' keep=>Ts.sorts_pairs (g:=fun u=>g (toV u)) fun u hu=>?_) (fun x hx=>hx) fun out hperm hs=>?_
  ·obtain ⟨b,rfl,hlt,b',o,t1,t2,n,e,h1,h2,h3⟩:=hp u hu
   cases e
   exact ⟨⟨b,o,t1,t2,n,rfl,keep _ _ h1,h2,h3⟩,fun e=>by injection e with e; rw [e] at hlt; exact absurd hlt (Nat.not_lt.mpr (Nat.le_succ _))⟩
  ·have hperm':out.toList.Perm (its.zip its):=by rw [← pairsOf_toList]; exact Array.perm_iff_toList_perm.mp hperm
   have hmem:∀ p∈out.toList,p.1=p.2∧p.1∈its:=fun p hp'=>mem_zip_self (hperm'.mem_iff.mp hp')
   have e2:(out.map (·.2)).toList=out.toList.map (·.1):=by rw [Array.toList_map]; exact List.map_congr_left fun p hp'=>(hmem p hp').1.symm
   have pm:(out.toList.map (·.1)).Perm its:=by
    have:=hperm'.map Prod.fst
    rw [List.map_fst_zip (Nat.le_refl _)] at this
    exact this
   have hn:H (s.heap.objs.size+1)=none:=I.hok.fresh (by omega)
   have q:=h (s.heap.objs.size+1) ((out.toList.map (·.1)).map toV) hn (by rw [← em]; exact pm.map toV) (by
    rw [List.map_map,List.pairwise_map]
    exact hs.imp fun {x y} hxy=>Ts.plt_f.mp hxy)
   obtain ⟨n,hnew⟩:=sortedAll_new (h:=s.heap) (vs:=its) (out:=out.map (·.2))
   refine ⟨.ref _,_,I.laid (t':=s.toks) (o:=.lst ((out.toList.map (·.1)).map toV)) (fun b u q=>sortedAll_keep q) (by omega) ?_,rfl,q⟩
   refine ⟨by rw [List.length_map,pm.length_eq]; exact hz',out.toList.map (·.1),n,vals_refs fun u hu=>hr u (pm.mem_iff.mp hu),?_⟩
   rw [hnew,← e2,Array.toArray_toList]
 ·have hI:=Vals.intsAre rv
  refine Ts.sorted_any (κ:=oneType') (S:=fun x=>x∈(pairsOf its).toList) (lt:=fun x y=>decide (numOf x.1<numOf y.1)) Ts.less_ints pl.isList hz' (fun h' keep=>Ts.sorts_ints hI) (fun x hx=>hx) fun out hperm hs=>?_
  have hperm':out.toList.Perm (its.zip its):=by rw [← pairsOf_toList]; exact Array.perm_iff_toList_perm.mp hperm
  have hmem:∀ p∈out.toList,p.1=p.2∧p.1∈its:=fun p hp'=>mem_zip_self (hperm'.mem_iff.mp hp')
  have e2:(out.map (·.2)).toList=out.toList.map (·.1):=by rw [Array.toList_map]; exact List.map_congr_left fun p hp'=>(hmem p hp').1.symm
  have pm:(out.toList.map (·.1)).Perm its:=by
   have:=hperm'.map Prod.fst
   rw [List.map_fst_zip (Nat.le_refl _)] at this
   exact this
  have hn:H (s.heap.objs.size+1)=none:=I.hok.fresh (by omega)
  have hI2:=intsAre_map (out.toList.map (·.1)) fun v hv=>hI.all v (pm.mem_iff.mp hv)
  have q:=h (s.heap.objs.size+1) ((out.toList.map (·.1)).map numOf) hn (by have:=pm.map numOf; rw [hI.nums] at this; exact this) (by
   rw [List.map_map,List.pairwise_map]
   exact hs.imp fun {x y} hxy=>by have:¬ numOf y.1<numOf x.1:=of_decide_eq_false hxy; show numOf x.1≤numOf y.1; omega)
  obtain ⟨n,hnew⟩:=sortedAll_new (h:=s.heap) (vs:=its) (out:=out.map (·.2))
  refine ⟨.ref _,_,I.laid (t':=s.toks) (o:=.lst (((out.toList.map (·.1)).map numOf).map V.int)) (fun b u q=>sortedAll_keep q) (by omega) ?_,rfl,q⟩
  refine ⟨by rw [List.length_map,List.length_map,pm.length_eq]; exact hz',out.toList.map (·.1),n,vals_ofInts hI2,?_⟩
  rw [hnew,← e2,Array.toArray_toList]
theorem rd_sortP {K:PySem.W.Frag} {a:Addr} {xs:List V} {H:Hp} {Q:VK} (g:V→Int×Int) (e:H a=some (.lst xs)) (hg:∀ v∈xs,PtV H v (g v)) (h:∀ (l:Addr) (ys:List V),H l=none→ys.Perm xs→ys.Pairwise (fun x y=>Ts.ple (g x) (g y))→Q (.ref l) (upd H l (.lst ys))):rSort K [.ref a] H Q:=⟨a,xs,rfl,SqL.of e,.inl ⟨g,hg,h⟩⟩
theorem rd_sortI {K:PySem.W.Frag} {a:Addr} {ns:List Int} {H:Hp} {Q:VK} (e:H a=some (.lst (ns.map V.int))) (h:∀ (l:Addr) (ms:List Int),H l=none→ms.Perm ns→ms.Pairwise (·≤·)→Q (.ref l) (upd H l (.lst (ms.map V.int)))):rSort K [.ref a] H Q:=⟨a,_,rfl,SqL.of e,.inr ⟨ns,rfl,h⟩⟩
end L2
set_option linter.all false
set_option Elab.async false
set_option maxHeartbeats 4000000
namespace Sm
abbrev Pnt:=Int×Int
structure Gr (nb:Pnt→List Pnt):Prop where
 nd:∀ a,(nb a).Nodup
 le2:∀ a,(nb a).length≤2
 sym:∀ {a b},b∈nb a→a∈nb b
 irr:∀ a,a∉nb a
def oth (nb:Pnt→List Pnt) (a b:Pnt):List Pnt:=(nb b).filter fun c=>!decide (c=a)
def Go (nb:Pnt→List Pnt):Pnt→Pnt→List Pnt→Prop
 | _,_,[]=>True
 | a,b,c::l=>oth nb a b=[c]∧Go nb b c l
def fin:Pnt→Pnt→List Pnt→Pnt×Pnt
 | a,b,[]=>(a,b)
 | _,b,c::l=>fin b c l
section
variable {nb:Pnt→List Pnt}
theorem mem_oth {a b c:Pnt}:c∈oth nb a b↔c∈nb b∧c≠a:=by
 unfold oth
 rw [List.mem_filter,Bool.not_eq_true',decide_eq_false_iff_not]
theorem fin_snoc:∀ (a b:Pnt) (l:List Pnt) (c:Pnt),fin a b (l++[c])=((fin a b l).2,c)
 | a,b,[],c=>rfl
 | a,b,d::l,c=>fin_snoc b d l c
theorem go_snoc:∀ {a b:Pnt} {l:List Pnt} {c:Pnt},Go nb a b (l++[c])↔Go nb a b l∧oth nb (fin a b l).1 (fin a b l).2=[c]
 | a,b,[],c=>⟨fun h=>⟨trivial,h.1⟩,fun h=>⟨h.2,trivial⟩⟩
 | a,b,d::l,c=>⟨fun h=>⟨⟨h.1,(go_snoc.mp h.2).1⟩,(go_snoc.mp h.2).2⟩,fun h=>⟨h.1.1,go_snoc.mpr ⟨h.1.2,h.2⟩⟩⟩
theorem fin_mem:∀ (a b:Pnt) (l:List Pnt),(fin a b l).2∈b::l∧(fin a b l).1∈a::b::l
 | a,b,[]=>⟨List.mem_cons_self,List.mem_cons_self⟩
 | a,b,c::l=>⟨List.mem_cons_of_mem _ (fin_mem b c l).1,List.mem_cons_of_mem _ (fin_mem b c l).2⟩
theorem fin_last:∀ (a b:Pnt) (l:List Pnt),(a::b::l).getLast?=some (fin a b l).2
 | a,b,[]=>rfl
 | a,b,c::l=>by rw [List.getLast?_cons_cons]; exact fin_last b c l
theorem go_head {a b c:Pnt} {l:List Pnt} (g:Go nb a b (c::l)):c∈nb b∧c≠a:=by
 have:c∈oth nb a b:=by rw [g.1]; exact List.mem_singleton.mpr rfl
 exact mem_oth.mp this
theorem fin_adj (G:Gr nb):∀ {a b:Pnt} {l:List Pnt},b∈nb a→Go nb a b l→(fin a b l).2∈nb (fin a b l).1
 | a,b,[],h,_=>h
 | a,b,c::l,h,g=>fin_adj G (l:=l) (go_head g).1 g.2
theorem two_of (G:Gr nb) {a x y z:Pnt} (hx:x∈nb a) (hy:y∈nb a) (hz:z∈nb a) (hxy:x≠y):z=x∨z=y:=by
 have h2:=G.le2 a
 have hn:=G.nd a
 match hq:nb a,hx,hy,hz,h2,hn with
 | [],hx,_,_,_,_=>cases hx
 | [p],hx,hy,_,_,_=>exact absurd ((List.mem_singleton.mp hx).trans (List.mem_singleton.mp hy).symm) hxy
 | [p,q],hx,hy,hz,_,_ =>
  simp only [List.mem_cons,List.not_mem_nil,or_false] at hx hy hz
  rcases hx with rfl | rfl<;>rcases hy with rfl | rfl<;>rcases hz with rfl | rfl<;>first | exact .inl rfl | exact .inr rfl | exact absurd rfl hxy
 | p::q::r::l,_,_,_,h2,_=>simp at h2
theorem oth_le (G:Gr nb) {a b:Pnt} (h:a∈nb b):oth nb a b=[]∨∃ c,oth nb a b=[c]:=by
 have hl:(oth nb a b).length≤1:=by
  match hq:oth nb a b with
  | [] => exact Nat.zero_le _
  | [c] => exact Nat.le_refl _
  | c :: d :: l =>
   have hn:(oth nb a b).Nodup:=List.Pairwise.sublist (List.filter_sublist) (G.nd b)
   have hc:c∈oth nb a b:=by rw [hq]; exact List.mem_cons_self
   have hd:d∈oth nb a b:=by rw [hq]; exact List.mem_cons_of_mem _ List.mem_cons_self
   have ne:c≠d:=by
    rw [hq] at hn
    intro e
    exact (List.nodup_cons.mp hn).1 (by rw [e]; exact List.mem_cons_self)
   rcases two_of G (mem_oth.mp hc).1 (mem_oth.mp hd).1 h ne with e | e
   ·exact absurd e.symm (mem_oth.mp hc).2
   ·exact absurd e.symm (mem_oth.mp hd).2
 match hq:oth nb a b,hl with
 | [],_=>exact .inl rfl
 | [c],_=>exact .inr ⟨c,rfl⟩
 | c::d::l,hl=>simp at hl
theorem oth_eq (G:Gr nb) {a b c:Pnt} (h:a∈nb b) (hc:c∈nb b) (hne:c≠a):oth nb a b=[c]:=by
 rcases oth_le G h with e | ⟨d,e⟩
 ·have:c∈oth nb a b:=mem_oth.mpr ⟨hc,hne⟩
  rw [e] at this; cases this
 ·have:c∈oth nb a b:=mem_oth.mpr ⟨hc,hne⟩
  rw [e] at this
  rw [e,List.mem_singleton.mp this]
theorem oth_back (G:Gr nb) {a b c:Pnt} (h:a∈nb b) (e:oth nb a b=[c]):oth nb c b=[a]:=by
 have hc:c∈oth nb a b:=by rw [e]; exact List.mem_singleton.mpr rfl
 exact oth_eq G (mem_oth.mp hc).1 h fun z=>(mem_oth.mp hc).2 z.symm
theorem walk_nodup (G:Gr nb) {a b:Pnt} (hb:b∈nb a):∀ (l:List Pnt),Go nb a b l→a∉l→(a::b::l).Nodup:=by
 intro l
 induction hl:l.length generalizing l with
 | zero =>
  intro _ _
  have:l=[]:=List.eq_nil_of_length_eq_zero hl
  subst this
  exact List.nodup_cons.mpr ⟨fun h=>G.irr a (by rw [List.mem_singleton.mp h] at hb ⊢; exact hb),List.nodup_cons.mpr ⟨(fun h=>nomatch h),List.nodup_nil⟩⟩
 | succ n ih =>
  intro g ha
  obtain ⟨m,z,rfl⟩:∃ m z,l=m++[z]:=⟨l.dropLast,l.getLast (fun e=>by rw [e] at hl; cases hl),(List.dropLast_concat_getLast _).symm⟩
  obtain ⟨g1,g2⟩:=go_snoc.mp g
  have hm:m.length=n:=by rw [List.length_append] at hl; simpa using hl
  have ham:a∉m:=fun h=>ha (List.mem_append_left _ h)
  have nd:=ih m hm g1 ham
  have hz:z∈oth nb (fin a b m).1 (fin a b m).2:=by rw [g2]; exact List.mem_singleton.mpr rfl
  have hz1:=(mem_oth.mp hz).1
  have hz2:=(mem_oth.mp hz).2
  have hza:z≠a:=fun e=>ha (by rw [e]; exact List.mem_append_right _ (List.mem_singleton.mpr rfl))
  -- z is none of the points before
  have key:∀ (a b:Pnt) (m:List Pnt),b∈nb a→Go nb a b m→(a::b::m).Nodup→z∈nb (fin a b m).2→z≠(fin a b m).1→z≠a→z∉b::m:=by
   intro a b m
   induction m generalizing a b with
   | nil =>
    intro hb _ _ hz1 hz2 hza hm
    rw [List.mem_singleton.mp hm] at hz1
    exact G.irr b hz1
   | cons c m ih2 =>
    intro hb g nd hz1 hz2 hza hm
    have hc:c∈oth nb a b:=by rw [g.1]; exact List.mem_singleton.mpr rfl
    have nd2:=(List.nodup_cons.mp nd).2
    rcases List.mem_cons.mp hm with e | hm
    ·-- z is b: its neighbours are a and c
     have hy:=G.sym hz1
     rw [e] at hy
     have hne:a≠c:=fun x=>(mem_oth.mp hc).2 x.symm
     rcases two_of G (G.sym hb) (mem_oth.mp hc).1 hy hne with q | q
     ·have:=(fin_mem b c m).1
      rw [show (fin a b (c::m))=fin b c m from rfl] at q
      rw [q] at this
      exact (List.nodup_cons.mp nd).1 (List.mem_cons_of_mem _ this)
     ·rw [show (fin a b (c::m))=fin b c m from rfl] at q hz2
      match m,q,nd2,hz2 with
      | [],q,_,hz2=>exact hz2 e
      | d::m,q,nd2,_ =>
       have:=(fin_mem c d m).1
       rw [show fin b c (d::m)=fin c d m from rfl] at q
       rw [q] at this
       exact (List.nodup_cons.mp (List.nodup_cons.mp nd2).2).1 this
    ·by_cases hzb:z=b
     ·rw [hzb] at hm
      exact (List.nodup_cons.mp nd2).1 hm
     ·exact ih2 b c (mem_oth.mp hc).1 g.2 nd2 hz1 hz2 hzb hm
  have hnot:=key a b m hb g1 nd hz1 hz2 hza
  show ((a::b::m)++[z]).Nodup
  rw [List.nodup_append]
  refine ⟨nd,List.nodup_cons.mpr ⟨(fun h=>nomatch h),List.nodup_nil⟩,fun x hx y hy e=>?_⟩
  rw [List.mem_singleton.mp hy] at e
  rw [e] at hx
  rcases List.mem_cons.mp hx with q | q
  ·exact hza q
  ·exact hnot q
theorem go_det_open:∀ {a b:Pnt} {l l':List Pnt},Go nb a b l→Go nb a b l'→oth nb (fin a b l).1 (fin a b l).2=[]→oth nb (fin a b l').1 (fin a b l').2=[]→l=l'
 | _,_,[],[],_,_,_,_=>rfl
 | a,b,[],c::l',_,g,e,_=>by have h:=g.1; have e:oth nb a b=[]:=e; rw [e] at h; cases h
 | a,b,c::l,[],g,_,_,e=>by have h:=g.1; have e:oth nb a b=[]:=e; rw [e] at h; cases h
 | _,_,c::l,c'::l',g,g',e,e'=>by
  have h:=g.1.symm.trans g'.1
  cases h
  rw [go_det_open g.2 g'.2 e e']
theorem go_det_round {s:Pnt}:∀ {a b:Pnt} {l l':List Pnt},Go nb a b l→Go nb a b l'→s∉l→s∉l'→oth nb (fin a b l).1 (fin a b l).2=[s]→oth nb (fin a b l').1 (fin a b l').2=[s]→l=l'
 | _,_,[],[],_,_,_,_,_,_=>rfl
 | a,b,[],c::l',_,g,_,n,e,_=>by
  have h:=g.1
  have e:oth nb a b=[s]:=e
  rw [e] at h; cases h
  exact absurd List.mem_cons_self n
 | a,b,c::l,[],g,_,n,_,_,e=>by
  have h:=g.1
  have e:oth nb a b=[s]:=e
  rw [e] at h; cases h
  exact absurd List.mem_cons_self n
 | _,_,c::l,c'::l',g,g',n,n',e,e'=>by
  have h:=g.1.symm.trans g'.1
  cases h
  rw [go_det_round g.2 g'.2 (fun h=>n (List.mem_cons_of_mem _ h)) (fun h=>n' (List.mem_cons_of_mem _ h)) e e']
structure Open (nb:Pnt→List Pnt) (a b:Pnt) (l:List Pnt):Prop where
 adj:b∈nb a
 go:Go nb a b l
 one:(nb a).length=1
 stop:oth nb (fin a b l).1 (fin a b l).2=[]
 nd:(a::b::l).Nodup
structure Rnd (nb:Pnt→List Pnt) (a b:Pnt) (l:List Pnt):Prop where
 adj:b∈nb a
 go:Go nb a b l
 stop:oth nb (fin a b l).1 (fin a b l).2=[a]
 nd:(a::b::l).Nodup
def Shut (nb:Pnt→List Pnt) (L:List Pnt):Prop:=∀ x∈L,∀ y∈nb x,y∈L
theorem shut_mid (G:Gr nb):∀ {a b:Pnt} {l:List Pnt},b∈nb a→Go nb a b l→∀ x∈b::l,x≠(fin a b l).2∨oth nb (fin a b l).1 (fin a b l).2=[]→∀ y∈nb x,y∈a::b::l
 | a,b,[],hb,_,x,hx,h,y,hy=>by
  have e:=List.mem_singleton.mp hx
  rcases h with h | h
  ·exact absurd e h
  ·rw [e] at hy
   by_cases hya:y=a
   ·rw [hya]; exact List.mem_cons_self
   ·have:y∈oth nb a b:=mem_oth.mpr ⟨hy,hya⟩
    rw [show oth nb a b=[] from h] at this; cases this
 | a,b,c::l,hb,g,x,hx,h,y,hy=>by
  have hc:c∈oth nb a b:=by rw [g.1]; exact List.mem_singleton.mpr rfl
  rcases List.mem_cons.mp hx with e | hx
  ·rw [e] at hy
   rcases two_of G (G.sym hb) (mem_oth.mp hc).1 hy (fun x=>(mem_oth.mp hc).2 x.symm) with q | q
   ·rw [q]; exact List.mem_cons_self
   ·rw [q]; exact List.mem_cons_of_mem _ (List.mem_cons_of_mem _ List.mem_cons_self)
  ·exact List.mem_cons_of_mem _ (shut_mid G (mem_oth.mp hc).1 g.2 x hx h y hy)
theorem Open.shut (G:Gr nb) {a b:Pnt} {l:List Pnt} (h:Open nb a b l):Shut nb (a::b::l):=by
 intro x hx y hy
 rcases List.mem_cons.mp hx with e | hx
 ·rw [e] at hy
  have h1:=h.one
  match hq:nb a,h1 with
  | [c], _ =>
   have e1:=h.adj
   rw [hq] at hy e1
   rw [List.mem_singleton.mp hy,← List.mem_singleton.mp e1]
   exact List.mem_cons_of_mem _ List.mem_cons_self
 ·exact shut_mid G h.adj h.go x hx (.inr h.stop) y hy
theorem Rnd.last (G:Gr nb) {a b:Pnt} {l:List Pnt} (h:Rnd nb a b l):(fin a b l).2∈nb a∧(fin a b l).2≠b:=by
 have ha:a∈oth nb (fin a b l).1 (fin a b l).2:=by rw [h.stop]; exact List.mem_singleton.mpr rfl
 refine ⟨G.sym (mem_oth.mp ha).1,fun e=>?_⟩
 match l,h,ha,e with
 | [],h,ha,_=>exact (mem_oth.mp ha).2 rfl
 | c::l,h,_,e =>
  have:=(fin_mem b c l).1
  rw [show fin a b (c::l)=fin b c l from rfl] at e
  rw [e] at this
  exact (List.nodup_cons.mp (List.nodup_cons.mp h.nd).2).1 this
theorem Rnd.shut (G:Gr nb) {a b:Pnt} {l:List Pnt} (h:Rnd nb a b l):Shut nb (a::b::l):=by
 intro x hx y hy
 obtain ⟨h1,h2⟩:=h.last G
 have hl:(fin a b l).2∈a::b::l:=List.mem_cons_of_mem _ (fin_mem a b l).1
 rcases List.mem_cons.mp hx with e | hx
 ·rw [e] at hy
  rcases two_of G h.adj h1 hy (Ne.symm h2) with q | q
  ·rw [q]; exact List.mem_cons_of_mem _ List.mem_cons_self
  ·rw [q]; exact hl
 ·by_cases hz:x=(fin a b l).2
  ·rw [hz] at hy
   by_cases hyq:y=(fin a b l).1
   ·rw [hyq]; exact (fin_mem a b l).2
   ·have:y∈oth nb (fin a b l).1 (fin a b l).2:=mem_oth.mpr ⟨hy,hyq⟩
    rw [h.stop] at this
    rw [List.mem_singleton.mp this]; exact List.mem_cons_self
  ·exact shut_mid G h.adj h.go x hx (.inl hz) y hy
theorem go_in (G:Gr nb) {L:List Pnt} (hS:Shut nb L):∀ {a b:Pnt} {l:List Pnt},b∈nb a→Go nb a b l→∀ q∈a::b::l,q∈L→∀ x∈a::b::l,x∈L
 | a,b,[],hb,_,q,hq,hqL,x,hx=>by
  have hab:a∈L∧b∈L:=by
   rcases List.mem_cons.mp hq with e | hq
   ·rw [e] at hqL; exact ⟨hqL,hS a hqL b hb⟩
   ·rw [List.mem_singleton.mp hq] at hqL; exact ⟨hS b hqL a (G.sym hb),hqL⟩
  rcases List.mem_cons.mp hx with e | hx
  ·rw [e]; exact hab.1
  ·rw [List.mem_singleton.mp hx]; exact hab.2
 | a,b,c::l,hb,g,q,hq,hqL,x,hx=>by
  have hc:c∈oth nb a b:=by rw [g.1]; exact List.mem_singleton.mpr rfl
  have hc:=(mem_oth.mp hc).1
  rcases List.mem_cons.mp hq with e | hq
  ·rw [e] at hqL
   have hbL:=hS a hqL b hb
   rcases List.mem_cons.mp hx with e | hx
   ·rw [e]; exact hqL
   ·exact go_in G hS hc g.2 b List.mem_cons_self hbL x hx
  ·rcases List.mem_cons.mp hx with e | hx
   ·have hbL:=go_in G hS hc g.2 q hq hqL b List.mem_cons_self
    rw [e]; exact hS b hbL a (G.sym hb)
   ·exact go_in G hS hc g.2 q hq hqL x hx
theorem Rnd.two (G:Gr nb) {a b:Pnt} {l:List Pnt} (h:Rnd nb a b l):∀ x∈a::b::l,(nb x).length=2:=by
 have two:∀ {x y z:Pnt},y∈nb x→z∈nb x→y≠z→(nb x).length=2:=by
  intro x y z hy hz hne
  have h2:=G.le2 x
  match hq:nb x,hy,hz,h2 with
  | [], hy, _, _ => cases hy
  | [p], hy, hz, _ => exact absurd ((List.mem_singleton.mp hy).trans (List.mem_singleton.mp hz).symm) hne
  | [p, q], _, _, _ => rfl
  | p :: q :: r :: m, _, _, h2 => simp at h2
 obtain ⟨h1,h2⟩:=h.last G
 have mid:∀ {a b:Pnt} {l:List Pnt},b∈nb a→Go nb a b l→∀ x∈b::l,x≠(fin a b l).2→(nb x).length=2:=by
  intro a b l
  induction l generalizing a b with
  | nil => intro _ _ x hx hne; exact absurd (List.mem_singleton.mp hx) hne
  | cons c l ih =>
   intro hb g x hx hne
   have hc:c∈oth nb a b:=by rw [g.1]; exact List.mem_singleton.mpr rfl
   rcases List.mem_cons.mp hx with e | hx
   ·rw [e]; exact two (G.sym hb) (mem_oth.mp hc).1 fun z=>(mem_oth.mp hc).2 z.symm
   ·exact ih (mem_oth.mp hc).1 g.2 x hx hne
 intro x hx
 rcases List.mem_cons.mp hx with e | hx
 ·rw [e]; exact two h.adj h1 (Ne.symm h2)
 ·by_cases hz:x=(fin a b l).2
  ·rw [hz]
   have ha:a∈oth nb (fin a b l).1 (fin a b l).2:=by rw [h.stop]; exact List.mem_singleton.mpr rfl
   exact two (G.sym (fin_adj G h.adj h.go)) (mem_oth.mp ha).1 fun z=>(mem_oth.mp ha).2 z.symm
  ·exact mid h.adj h.go x hx hz
end
end Sm
set_option linter.all false
set_option Elab.async false
set_option maxHeartbeats 4000000
namespace Sm
section
variable {nb:Pnt→List Pnt}
theorem two_len (G:Gr nb) {x y z:Pnt} (hy:y∈nb x) (hz:z∈nb x) (hne:y≠z):(nb x).length=2:=by
 have h2:=G.le2 x
 match hq:nb x,hy,hz,h2 with
 | [],hy,_,_=>cases hy
 | [p],hy,hz,_=>exact absurd ((List.mem_singleton.mp hy).trans (List.mem_singleton.mp hz).symm) hne
 | [p,q],_,_,_=>rfl
 | p::q::r::m,_,_,h2=>simp at h2
theorem go_mid (G:Gr nb):∀ {a b:Pnt} {l:List Pnt},b∈nb a→Go nb a b l→∀ x∈b::l,x≠(fin a b l).2→(nb x).length=2:=by
 intro a b l
 induction l generalizing a b with
 | nil=>intro _ _ x hx hne; exact absurd (List.mem_singleton.mp hx) hne
 | cons c l ih =>
  intro hb g x hx hne
  have hc:=go_head g
  rcases List.mem_cons.mp hx with e | hx
  ·rw [e]; exact two_len G (G.sym hb) hc.1 fun z=>hc.2 z.symm
  ·exact ih hc.1 g.2 x hx hne
theorem Open.lastOne (G:Gr nb) {a b:Pnt} {l:List Pnt} (h:Open nb a b l):nb (fin a b l).2=[(fin a b l).1]:=by
 have h1:=G.sym (fin_adj G h.adj h.go)
 have hs:=h.stop
 have all:∀ y∈nb (fin a b l).2,y=(fin a b l).1:=fun y hy=>by
  by_cases e:y=(fin a b l).1
  ·exact e
  ·have:y∈oth nb (fin a b l).1 (fin a b l).2:=mem_oth.mpr ⟨hy,e⟩
   rw [hs] at this; cases this
 have hn:=G.nd (fin a b l).2
 match hq:nb (fin a b l).2,h1,all,hn with
 | [],h1,_,_=>cases h1
 | [p],_,all,_=>rw [all p List.mem_cons_self]
 | p::q::r,_,all,hn=>exact absurd ((all p List.mem_cons_self).trans (all q (List.mem_cons_of_mem _ List.mem_cons_self)).symm) fun e=>(List.nodup_cons.mp hn).1 (by rw [e]; exact List.mem_cons_self)
theorem rev_go (G:Gr nb):∀ {a b:Pnt} {l:List Pnt},b∈nb a→Go nb a b l→∃ m,(a::b::l).reverse=(fin a b l).2::(fin a b l).1::m∧Go nb (fin a b l).2 (fin a b l).1 m∧fin (fin a b l).2 (fin a b l).1 m=(b,a)
 | a,b,[],hb,_=>⟨[],rfl,trivial,rfl⟩
 | a,b,c::l,hb,g=>by
  have hc:=go_head g
  obtain ⟨m,h1,h2,h3⟩:=rev_go G hc.1 g.2
  refine ⟨m++[a],?_,?_,?_⟩
  ·rw [List.reverse_cons,h1]; rfl
  ·refine go_snoc.mpr ⟨h2,?_⟩
   rw [show fin a b (c::l)=fin b c l from rfl,h3]
   exact oth_back G (G.sym hb) g.1
  ·rw [fin_snoc,show fin a b (c::l)=fin b c l from rfl,h3]
theorem Open.rev (G:Gr nb) {a b:Pnt} {l:List Pnt} (h:Open nb a b l):∃ m,(a::b::l).reverse=(fin a b l).2::(fin a b l).1::m∧Open nb (fin a b l).2 (fin a b l).1 m∧(fin (fin a b l).2 (fin a b l).1 m).2=a:=by
 obtain ⟨m,h1,h2,h3⟩:=rev_go G h.adj h.go
 have h4:=h.lastOne G
 refine ⟨m,h1,⟨by rw [h4]; exact List.mem_singleton.mpr rfl,h2,by rw [h4]; rfl,?_,?_⟩,by rw [h3]⟩
 ·rw [h3]
  have h5:=h.one
  have h6:=h.adj
  match hq:nb a,h5,h6 with
  | [c], _, h6 =>
   unfold oth
   rw [hq,List.mem_singleton.mp h6]
   simp
 ·rw [← h1]; exact (List.reverse_perm _).nodup_iff.mpr h.nd
structure Told (nb:Pnt→List Pnt) (f:Bool) (L:List Pnt):Prop where
 op:f=false→∃ a b l,L=a::b::l∧Open nb a b l∧Ts.plt a (fin a b l).2=true
 rd:f=true→∃ a b l,L=a::b::l∧Rnd nb a b l∧(∀ x∈L,Ts.ple a x)∧b=(a.1+1,a.2)
theorem Told.path {f:Bool} {L:List Pnt} (h:Told nb f L):∃ a b l,L=a::b::l∧b∈nb a∧Go nb a b l∧L.Nodup:=by
 cases f with
 | false=>obtain ⟨a,b,l,e,o,_⟩:=h.op rfl; exact ⟨a,b,l,e,o.adj,o.go,by rw [e]; exact o.nd⟩
 | true=>obtain ⟨a,b,l,e,o,_⟩:=h.rd rfl; exact ⟨a,b,l,e,o.adj,o.go,by rw [e]; exact o.nd⟩
theorem Told.shut (G:Gr nb) {f:Bool} {L:List Pnt} (h:Told nb f L):Shut nb L:=by
 cases f with
 | false=>obtain ⟨a,b,l,rfl,o,_⟩:=h.op rfl; exact o.shut G
 | true=>obtain ⟨a,b,l,rfl,o,_⟩:=h.rd rfl; exact o.shut G
theorem Told.sub (G:Gr nb) {f f':Bool} {L L':List Pnt} (h:Told nb f L) (h':Told nb f' L') {q:Pnt} (hq:q∈L) (hq':q∈L'):∀ x∈L',x∈L:=by
 obtain ⟨a,b,l,rfl,hb,g,_⟩:=h'.path
 exact go_in G (h.shut G) hb g q hq' hq
theorem ple_as {p q:Pnt} (h1:Ts.ple p q) (h2:Ts.ple q p):p=q:=by
 unfold Ts.ple at h1 h2
 exact Prod.ext (by omega) (by omega)
theorem Told.uniq (G:Gr nb) {f f':Bool} {L L':List Pnt} (h:Told nb f L) (h':Told nb f' L') {q:Pnt} (hq:q∈L) (hq':q∈L'):f=f'∧L=L':=by
 have s1:=h.sub G h' hq hq'
 have s2:=h'.sub G h hq' hq
 cases f with
 | false =>
  obtain ⟨a,b,l,rfl,o,hlt⟩:=h.op rfl
  have ends:∀ x∈a::b::l,(nb x).length=1→x=a∨x=(fin a b l).2:=by
   intro x hx h1
   rcases List.mem_cons.mp hx with e | hx
   ·exact .inl e
   ·by_cases e:x=(fin a b l).2
    ·exact .inr e
    ·have:=go_mid G o.adj o.go x hx e
     omega
  cases f' with
  | false =>
   obtain ⟨a',b',l',rfl,o',hlt'⟩:=h'.op rfl
   refine ⟨rfl,?_⟩
   have hl':(fin a' b' l').2∈a'::b'::l':=List.mem_cons_of_mem _ (fin_mem a' b' l').1
   have ea:a'=a:=by
    rcases ends a' (s1 a' List.mem_cons_self) o'.one with e | e
    ·exact e
    ·rcases ends (fin a' b' l').2 (s1 _ hl') (by rw [o'.lastOne G]; rfl) with e2 | e2
     ·rw [e2,e] at hlt'
      have h1:=Ts.plt_t.mp hlt
      have h2:=Ts.plt_t.mp hlt'
      omega
     ·rw [← e] at e2
      have:=(fin_mem a' b' l').1
      rw [e2] at this
      exact absurd this (List.nodup_cons.mp o'.nd).1
   subst ea
   have eb:b'=b:=by
    have h1:=o.one
    have h2:=o.adj
    have h3:=o'.adj
    match hz:nb a',h1,h2,h3 with
    | [c],_,h2,h3=>rw [List.mem_singleton.mp h2,List.mem_singleton.mp h3]
   subst eb
   rw [go_det_open o.go o'.go o.stop o'.stop]
  | true =>
   obtain ⟨a',b',l',rfl,o',_⟩:=h'.rd rfl
   have:=o'.two G a (s2 a List.mem_cons_self)
   have:=o.one
   omega
 | true =>
  obtain ⟨a,b,l,rfl,o,hmin,hb⟩:=h.rd rfl
  cases f' with
  | false =>
   obtain ⟨a',b',l',rfl,o',hlt'⟩:=h'.op rfl
   have:=o.two G a' (s1 a' List.mem_cons_self)
   have:=o'.one
   omega
  | true =>
   obtain ⟨a',b',l',rfl,o',hmin',hb'⟩:=h'.rd rfl
   refine ⟨rfl,?_⟩
   have ea:a'=a:=ple_as (hmin' a (s2 a List.mem_cons_self)) (hmin a' (s1 a' List.mem_cons_self))
   subst ea
   subst hb hb'
   have n1:=List.nodup_cons.mp o.nd
   have n2:=List.nodup_cons.mp o'.nd
   rw [go_det_round o.go o'.go (fun z=>n1.1 (List.mem_cons_of_mem _ z)) (fun z=>n2.1 (List.mem_cons_of_mem _ z)) o.stop o'.stop]
structure Wlk (nb:Pnt→List Pnt) (a b:Pnt) (l:List Pnt):Prop where
 adj:b∈nb a
 go:Go nb a b l
 nd:(a::b::l).Nodup
 stop:oth nb (fin a b l).1 (fin a b l).2=[]∨oth nb (fin a b l).1 (fin a b l).2=[a]
theorem Wlk.open (G:Gr nb) {a b:Pnt} {l:List Pnt} (w:Wlk nb a b l) (h1:(nb a).length=1):Open nb a b l:=by
 refine ⟨w.adj,w.go,h1,?_,w.nd⟩
 rcases w.stop with h | h
 ·exact h
 ·have r:Rnd nb a b l:=⟨w.adj,w.go,h,w.nd⟩
  have:=r.two G a List.mem_cons_self
  omega
theorem Wlk.round (G:Gr nb) {a b:Pnt} {l:List Pnt} (w:Wlk nb a b l) {L:List Pnt} (hS:Shut nb L) (h2:∀ x∈L,(nb x).length=2) (ha:a∈L):Rnd nb a b l:=by
 refine ⟨w.adj,w.go,?_,w.nd⟩
 rcases w.stop with h | h
 ·exfalso
  have hl:(fin a b l).2∈L:=go_in G hS w.adj w.go a List.mem_cons_self ha _ (List.mem_cons_of_mem _ (fin_mem a b l).1)
  have h3:=h2 _ hl
  have h1:=G.sym (fin_adj G w.adj w.go)
  have hn:=G.nd (fin a b l).2
  match hq:nb (fin a b l).2,h3,hn with
  | [p, q], _, hn =>
   have ne:p≠q:=fun e=>(List.nodup_cons.mp hn).1 (by rw [e]; exact List.mem_cons_self)
   have all:∀ y∈nb (fin a b l).2,y=(fin a b l).1:=fun y hy=>by
    by_cases e:y=(fin a b l).1
    ·exact e
    ·have:y∈oth nb (fin a b l).1 (fin a b l).2:=mem_oth.mpr ⟨hy,e⟩
     rw [h] at this; cases this
   exact ne ((all p (by rw [hq]; exact List.mem_cons_self)).trans (all q (by rw [hq]; exact List.mem_cons_of_mem _ List.mem_cons_self)).symm)
 ·exact h
theorem Wlk.ended (G:Gr nb) {a b:Pnt} {l:List Pnt} (w:Wlk nb a b l):((nb (fin a b l).2).length=1↔oth nb (fin a b l).1 (fin a b l).2=[]):=by
 have h1:=G.sym (fin_adj G w.adj w.go)
 constructor
 ·intro h
  match hq:nb (fin a b l).2,h,h1 with
  | [p], _, h1 =>
   unfold oth
   rw [hq,List.mem_singleton.mp h1]
   simp
 ·intro h
  have all:∀ y∈nb (fin a b l).2,y=(fin a b l).1:=fun y hy=>by
   by_cases e:y=(fin a b l).1
   ·exact e
   ·have:y∈oth nb (fin a b l).1 (fin a b l).2:=mem_oth.mpr ⟨hy,e⟩
    rw [h] at this; cases this
  have hn:=G.nd (fin a b l).2
  match hq:nb (fin a b l).2,h1,all,hn with
  | [], h1, _, _ => cases h1
  | [p], _, _, _ => rfl
  | p :: q :: r, _, all, hn => exact absurd ((all p List.mem_cons_self).trans (all q (List.mem_cons_of_mem _ List.mem_cons_self)).symm) fun e => (List.nodup_cons.mp hn).1 (by rw [e]; exact List.mem_cons_self)
theorem told_open (G:Gr nb) {a b:Pnt} {l:List Pnt} (o:Open nb a b l):(Ts.plt (fin a b l).2 a=true→Told nb false (a::b::l).reverse)∧(Ts.plt (fin a b l).2 a=false→Told nb false (a::b::l)):=by
 constructor
 ·intro h
  obtain ⟨m,e,o2,e2⟩:=o.rev G
  refine ⟨fun _=>⟨_,_,m,e,o2,?_⟩,fun e=>by cases e⟩
  rw [e2]; exact h
 ·intro h
  refine ⟨fun _=>⟨a,b,l,rfl,o,?_⟩,fun e=>by cases e⟩
  have hne:(fin a b l).2≠a:=fun e=>(List.nodup_cons.mp o.nd).1 (by rw [← e]; exact (fin_mem a b l).1)
  have h:=Ts.plt_f.mp h
  refine Ts.plt_t.mpr ?_
  unfold Ts.ple at h
  rcases h with h | ⟨h,h'⟩
  ·exact .inl h
  ·refine .inr ⟨h,?_⟩
   rcases Int.lt_or_eq_of_le h' with q | q
   ·exact q
   ·exact absurd (Prod.ext h q).symm hne
end
end Sm
set_option Elab.async false
set_option linter.all false
set_option maxRecDepth 100000
set_option maxHeartbeats 4000000
namespace Ts
open PySem PyProof.Rows PySem.W
section
variable {prog:Program} {w:World} {A:Around} {E:Value→Shared→Prop} {s:Shared}
theorem PairAt.ty {v:Value} {p:Int×Int} (h:PairAt s.heap v p):s.TypeIs v "tuple":=by
 obtain ⟨b,o,t,u,n,rfl,h1,h2,_⟩:=h
 exact ⟨o,h1,h2⟩
theorem rich_lt_pairs {v u:Value} {p q:Int×Int} {Q:Value→Shared→Prop} (hu:A.units<cLine) (hv:PairAt s.heap v p) (hw:PairAt s.heap u q) (h:Q (.bool (plt p q)) s):wpAny (model prog w) A (richCompare .Lt v u) Q E s:=by
 refine wpAny_richCompare_same_room hv.ty hw.ty F.slot_tuple_lt (wpAny_call_entry F.slot_tuple_lt hv.ty F.entry_tuple_lt ?_ (F.args_tuple_lt_2 _ _)) hu
 obtain ⟨b,o,t1,t2,n,rfl,h1,c1,d1⟩:=hv
 obtain ⟨c,o2,t3,t4,m,rfl,h2,c2,d2⟩:=hw
 unfold Builtin.«tuple.__lt__»
 refine wpAny_bind (wpAny_pure ?_)
 dsimp only
 refine wpAny_bind (wpAny_isInstance (T:="tuple") (b:=true) ⟨o2,h2,c2⟩ (by rw [isSubtype_type]; kernel_rfl) ?_)
 rw [if_neg (by decide)]
 refine wpAny_bind (wpAny_tupleItemsOf h1 d1 (wpAny_bind (wpAny_tupleItemsOf h2 d2 ?_)))
 show wpAny (model prog w) A.in1 (forIn [(Value.int p.1 t1,Value.int q.1 t3),(Value.int p.2 t2,Value.int q.2 t4)] _ _ >>= _) _ E s
 have nn:∀ b:Bool,Value.bool b≠Value.notImplemented:=fun b e=>nomatch e
 refine wpAny_bind ?_
 rw [List.forIn_cons]
 refine wpAny_bind (wpAny_bind (wpAny_eqBool_int ?_))
 by_cases e1:p.1=q.1
 ·have e1':(p.1==q.1)=true:=by rw [e1]; exact beq_self_eq_true _
  rw [e1',if_neg (by decide)]
  refine wpAny_pure ?_
  dsimp only
  rw [List.forIn_cons]
  refine wpAny_bind (wpAny_bind (wpAny_eqBool_int ?_))
  by_cases e2:p.2=q.2
  ·have e2':(p.2==q.2)=true:=by rw [e2]; exact beq_self_eq_true _
   rw [e2',if_neg (by decide)]
   refine wpAny_pure ?_
   dsimp only
   rw [List.forIn_nil]
   refine wpAny_pure ?_
   have:plt p q=false:=plt_f.mpr (by unfold ple; omega)
   rw [this] at h
   exact wpAny_pure ⟨_,rfl,nn _,h⟩
  ·have e2':(p.2==q.2)=false:=by simpa using e2
   rw [e2',if_pos (by decide)]
   refine wpAny_bind (wpAny_rule ?_)
   refine wpAny_bind (wpAny_lt_int ?_)
   refine wpAny_bind (wpAny_pure (wpAny_pure ?_))
   dsimp only
   refine wpAny_pure ?_
   have:plt p q=decide (p.2<q.2):=by unfold plt; rw [e1]; simp
   rw [this] at h
   exact wpAny_pure ⟨_,rfl,nn _,h⟩
 ·have e1':(p.1==q.1)=false:=by simpa using e1
  rw [e1',if_pos (by decide)]
  refine wpAny_bind (wpAny_rule ?_)
  refine wpAny_bind (wpAny_lt_int ?_)
  refine wpAny_bind (wpAny_pure (wpAny_pure ?_))
  dsimp only
  refine wpAny_pure ?_
  have:plt p q=decide (p.1<q.1):=by unfold plt; simp [e1]
  rw [this] at h
  exact wpAny_pure ⟨_,rfl,nn _,h⟩
def AllPairs (h:Heap) (vs:List Value) (g:Value→Int×Int) (I S:Addr):Prop:=∀ v∈vs,PairAt h v (g v)∧v≠.ref I∧v≠.ref S
theorem AllPairs.keep {h h':Heap} {vs:List Value} {g:Value→Int×Int} {I S:Addr} (a:AllPairs h vs g I S) (k:∀ b o,b≠I→b≠S→h.get? b=some o→h'.get? b=some o):AllPairs h' vs g I S:=by
 intro v hv
 obtain ⟨⟨b,o,t,u,n,rfl,h1,h2,h3⟩,n1,n2⟩:=a v hv
 exact ⟨⟨b,o,t,u,n,rfl,k b o (fun e=>n1 (by rw [e])) (fun e=>n2 (by rw [e])) h1,h2,h3⟩,n1,n2⟩
theorem ple_trans {p q r:Int×Int} (h:ple p q) (h':ple q r):ple p r:=by unfold ple at *; omega
theorem ple_refl (p:Int×Int):ple p p:=by unfold ple; omega
theorem min_go {R:Result→Shared→Prop} {I l S:Addr} {vs:List Value} {g:Value→Int×Int} (hu:A.units+8<cLine) (hh:A.in1.handled=none) (hl:l≠I) (hSI:S≠I) (hSl:S≠l) :
  ∀ (k j:Nat) (s:Shared) (vb:Value) (c:Nat),vs.length - (j+1)=k→j+1≤vs.length→s.heap.IsListIter I l (j+1)→s.heap.IsList l vs.toArray→AllPairs s.heap vs g I S→vb∈vs→(∀ i v,i≤j→vs[i]?=some v→ple (g vb) (g v)) →
  s.heap.get? S=some { cls:=.type "list",dict:=none,data:=.seq #[vb,vb] c,slots:=#[] } →
  (∀ v h' tk,v∈vs→(∀ u∈vs,ple (g v) (g u))→(∀ b o,b≠I→b≠S→s.heap.get? b=some o→h'.get? b=some o)→R (.ok (.ret v)) { s with heap:=h',toks:=tk }) →
  codeAny (model prog w) A (.builtin "min.loop" ⟨[.ref I,.none,.ref S],[]⟩) R s:=by
 have W:=Walks.list (prog:=prog) (w:=w) hh I l hl vs.toArray
 have nm:(toString "min"++toString ".loop":String)="min.loop":=by decide
 have sz:vs.toArray.size=vs.length:=by simp
 intro k
 induction k with
 | zero =>
  intro j s vb c hk hj hit hls hap hvb hmin hS hR
  (refine codeAny_builtin F.entry_min_loop ?_; rw [Around.under_plainId F.plain_min_loop _]; show wpAny _ A.in1 (seqItems? (.ref S) >>= _) _ _ s; refine wpAny_bind (wpAny_seqItems hS rfl ?_))
  (show wpAny _ A.in1 (tryCatch (pyNext (.ref I)) _ >>= _) _ _ s; refine wpAny_bind (wpAny_tryCatch (W.done s _ _ ⟨by rw [sz,show vs.length=j+1 by omega]; exact hit,hls⟩ fun h' tk hk'=>?_)))
  have hS':=hk' S _ (by simp [hSI]) hS
  (show wpAny _ A.in1 (updateSeq S (fun _=>#[]) >>= _) _ _ _; refine wpAny_bind ?_; refine wpAny_updateSeq hS' rfl (wpAny_bind (wpAny_letGo (wpAny_pure ?_))))
  refine hR vb _ tk hvb (fun u hu'=>?_) fun b o hI hbS e=>(Heap.get?_update_other _ _ (Ne.symm hbS)).trans (hk' b o (by simp [hI]) e)
  obtain ⟨i,hi⟩:=List.mem_iff_getElem?.mp hu'
  exact hmin i u (by have:=(List.getElem?_eq_some_iff.mp hi).1; omega) hi
 | succ k ih =>
  intro j s vb c hk hj hit hls hap hvb hmin hS hR
  (refine codeAny_builtin F.entry_min_loop ?_; rw [Around.under_plainId F.plain_min_loop _]; show wpAny _ A.in1 (seqItems? (.ref S) >>= _) _ _ s; refine wpAny_bind (wpAny_seqItems hS rfl ?_))
  (show wpAny _ A.in1 (tryCatch (pyNext (.ref I)) _ >>= _) _ _ s; refine wpAny_bind (wpAny_tryCatch (W.item (j+1) s _ _ (by omega) ⟨hit,hls⟩ fun v h' tk hP hst' hk'=>?_)))
  have hS':=hk' S _ (by simp [hSI]) hS
  have hap':AllPairs h' vs g I S:=hap.keep fun b o hI _ e=>hk' b o (by simp [hI]) e
  have hv:vs[j+1]?=some v:=by rw [← hP]; simp
  have hvm:v∈vs:=List.mem_of_getElem? hv
  (show wpAny _ A.in1 (tryCatch (holding [v,v] (richCompare .Lt v vb >>= _)) _ >>= _) _ _ _; refine wpAny_bind (wpAny_tryCatch (wpAny_holding (wpAny_bind (rich_lt_pairs (s:={ s with heap:=h',toks:=tk }) (by show A.units+1<cLine; omega) (hap' v hvm).1 (hap' vb hvb).1 ?_)))))
  (refine wpAny_bind (wpAny_holding (wpAny_truthy_bool ?_)); refine wpAny_bind (wpAny_letGo (wpAny_pure ?_)))
  cases hb:plt (g v) (g vb) with
  | true =>
   simp only [if_true]
   (refine wpAny_bind ?_; refine wpAny_updateSeq hS' rfl (wpAny_bind (wpAny_letGo ?_)); rw [nm])
   have kp:∀ b o,b≠S→h'.get? b=some o→(h'.update S (Obj.mapSeq fun _=>#[v,v])).get? b=some o:=fun b o hbS e=>(Heap.get?_update_other _ _ (Ne.symm hbS)).trans e
   refine wpAny_pure ⟨plainId_quiet F.plain_min_loop _,ih (j+1) _ v _ (by omega) (by omega) (hst'.1.at fun o e=>kp I o (Ne.symm hSI) e) (hst'.2.at fun o e=>kp l o (Ne.symm hSl) e) (hap'.keep fun b o _ hbS e=>kp b o hbS e) hvm (fun i u hi hu'=>?_) (Heap.get?_update_self _ hS' rfl) fun v' h'' tk'' hm hmi hk''=>?_⟩
   ·have hlt:=plt_t.mp hb
    have:ple (g v) (g vb):=by unfold ple; omega
    by_cases hij:i≤j
    ·exact ple_trans this (hmin i u hij hu')
    ·have:i=j+1:=by omega
     subst this
     rw [hv] at hu'; cases hu'
     exact ple_refl _
   ·exact hR v' h'' tk'' hm hmi fun b o hI hbS e=>hk'' b o hI hbS (kp b o hbS (hk' b o (by simp [hI]) e))
  | false =>
   simp only [Bool.false_eq_true,if_false]
   (refine wpAny_bind (wpAny_letGo ?_); rw [nm])
   refine wpAny_pure ⟨plainId_quiet F.plain_min_loop _,ih (j+1) _ vb c (by omega) (by omega) hst'.1 hst'.2 hap' hvb (fun i u hi hu'=>?_) hS' fun v' h'' tk'' hm hmi hk''=>?_⟩
   ·by_cases hij:i≤j
    ·exact hmin i u hij hu'
    ·have:i=j+1:=by omega
     subst this
     rw [hv] at hu'; cases hu'
     exact plt_f.mp hb
   ·exact hR v' h'' tk'' hm hmi fun b o hI hbS e=>hk'' b o hI hbS (hk' b o (by simp [hI]) e)
theorem min_pairs {l:Addr} {vs:List Value} {g:Value→Int×Int} {Q:Value→Shared→Prop} (hu:A.units+16<cLine) (hh:A.handled=none) (hl:s.heap.IsList l vs.toArray) (hne:vs≠[]) (hp:∀ v∈vs,PairAt s.heap v (g v))
  (h:∀ v h' tk,v∈vs→(∀ u∈vs,ple (g v) (g u))→(∀ b o,s.heap.get? b=some o→h'.get? b=some o)→Q v { s with heap:=h',toks:=tk }):wpAny (model prog w) A (call (.builtin "min") [.ref l]) Q E s:=by
 have nm:(toString "min"++toString ".loop":String)="min.loop":=by decide
 have hlt:l<s.heap.objs.size:=by obtain ⟨o,e,_⟩:=hl; exact Heap.lt_size e
 (refine call_function_tree F.kind_min F.plain_min F.entry_min (F.args_min1 _) ?_; show wpAny _ A.in1 (Builtin.Builtins.bindParams "min" ["key","default"] 0 ⟨[],[]⟩ >>= _) _ _ s)
 (refine wpAny_bind (wpAny_of_eq (show Builtin.Builtins.bindParams "min" ["key","default"] 0 ⟨[],[]⟩=pure [none,none] from rfl) ?_); refine wpAny_bind (wpAny_pure ?_))
 (refine wpAny_bind (wpAny_pyIter_list hl ?_); refine wpAny_bind (wpAny_newObj_type ?_); rw [nm])
 generalize hI:s.heap.objs.size=I
 have hS:(s.heap.push { cls:=.type "list_iterator",data:=.fields #[.ref l,.int 0 0] }).objs.size=I+1:=by rw [Heap.size_push,hI]
 have kp:∀ b o,s.heap.get? b=some o→((s.heap.push { cls:=.type "list_iterator",data:=.fields #[.ref l,.int 0 0] }).push { cls:=.type "list",data:=.seq #[] }).get? b=some o:=fun b o e=>Heap.get?_push_of_some _ (Heap.get?_push_of_some _ e)
 have hSI:I+1≠I:=Nat.succ_ne_self I
 have hlI:l≠I:=by rw [← hI]; exact Nat.ne_of_lt hlt
 have hSl:I+1≠l:=by rw [← hI]; exact Nat.ne_of_gt (Nat.lt_succ_of_lt hlt)
 have hap:AllPairs ((s.heap.push { cls:=.type "list_iterator",data:=.fields #[.ref l,.int 0 0] }).push { cls:=.type "list",data:=.seq #[] }) vs g I (I+1):=by
  intro v hv
  obtain ⟨b,o,t,u,n,rfl,h1,h2,h3⟩:=hp v hv
  have hb:=Heap.lt_size h1
  rw [hI] at hb
  refine ⟨⟨b,o,t,u,n,rfl,kp _ _ h1,h2,h3⟩,(fun e=>?_),(fun e=>?_)⟩
  ·injection e with e; rw [e] at hb; exact Nat.lt_irrefl _ hb
  ·injection e with e; rw [e] at hb; exact absurd hb (Nat.not_lt.mpr (Nat.le_succ _))
 have it0:((s.heap.push { cls:=.type "list_iterator",data:=.fields #[.ref l,.int 0 0] }).push { cls:=.type "list",data:=.seq #[] }).IsListIter I l 0:=⟨_,Heap.get?_push_of_some _ (by rw [← hI]; exact Heap.get?_push_size _ rfl),rfl,rfl⟩
 have hl2:((s.heap.push { cls:=.type "list_iterator",data:=.fields #[.ref l,.int 0 0] }).push { cls:=.type "list",data:=.seq #[] }).IsList l vs.toArray:=hl.at fun o e=>kp l o e
 have hS0:((s.heap.push { cls:=.type "list_iterator",data:=.fields #[.ref l,.int 0 0] }).push { cls:=.type "list",data:=.seq #[] }).get? (I+1)=some { cls:=.type "list",dict:=none,data:=.seq #[] 0,slots:=#[] }:=by rw [← hS]; exact Heap.get?_push_size _ rfl
 show wpAny _ _ (pure (Fin.again (.builtin "min.loop" ⟨[.ref I,.none,.ref (s.heap.push { cls:=.type "list_iterator",data:=.fields #[.ref l,.int 0 0] }).objs.size],[]⟩))) _ _ { s with heap:=(s.heap.push { cls:=.type "list_iterator",data:=.fields #[.ref l,.int 0 0] }).push { cls:=.type "list",data:=.seq #[] } }
 rw [hS]
 generalize (s.heap.push { cls:=.type "list_iterator",data:=.fields #[.ref l,.int 0 0] }).push { cls:=.type "list",data:=.seq #[] }=h2 at kp hap it0 hl2 hS0 ⊢
 have W:=Walks.list (prog:=prog) (w:=w) (A:=A.in1) hh I l hlI vs.toArray
 have sz:vs.toArray.size=vs.length:=by simp
 have pos:0<vs.length:=List.length_pos_iff.mpr hne
 refine wpAny_pure ⟨plainId_quiet F.plain_min_loop _,?_⟩
 (refine codeAny_builtin F.entry_min_loop ?_; rw [Around.under_plainId F.plain_min_loop _]; show wpAny _ A.in1 (seqItems? (.ref (I+1)) >>= _) _ _ _; refine wpAny_bind (wpAny_seqItems hS0 rfl ?_))
 (show wpAny _ A.in1 (tryCatch (pyNext (.ref I)) _ >>= _) _ _ _; refine wpAny_bind (wpAny_tryCatch (W.item 0 { s with heap:=h2 } _ _ (by omega) ⟨it0,hl2⟩ fun v h' tk hP hst' hk'=>?_)))
 have hS':=hk' (I+1) _ (by simp) hS0
 have hap':AllPairs h' vs g I (I+1):=hap.keep fun b o hI _ e=>hk' b o (by simp [hI]) e
 have hv:vs[0]?=some v:=by rw [← hP]; simp
 (show wpAny _ A.in1 (updateSeq (I+1) (fun _=>#[v,v]) >>= _) _ _ _; refine wpAny_bind ?_; refine wpAny_updateSeq hS' rfl ?_; rw [nm])
 have kp2:∀ b o,b≠I+1→h'.get? b=some o→(h'.update (I+1) (Obj.mapSeq fun _=>#[v,v])).get? b=some o:=fun b o hbS e=>(Heap.get?_update_other _ _ (Ne.symm hbS)).trans e
 refine wpAny_pure ⟨plainId_quiet F.plain_min_loop _,min_go (g:=g) (by omega) hh hlI hSI hSl _ 0 _ v _ rfl (by omega) (hst'.1.at fun o e=>kp2 I o (Ne.symm hSI) e) (hst'.2.at fun o e=>kp2 l o (Ne.symm hSl) e) (hap'.keep fun b o _ hbS e=>kp2 b o hbS e) (List.mem_of_getElem? hv) (fun i u hi hu'=>?_) (Heap.get?_update_self _ hS' rfl) fun v' h'' tk'' hm hmi hk''=>?_⟩
 ·have:i=0:=by omega
  subst this
  rw [hv] at hu'; cases hu'
  exact ple_refl _
 ·refine h v' h'' tk'' hm hmi fun b o e=>?_
  have hb:=Heap.lt_size e
  rw [hI] at hb
  have n1:b≠I:=Nat.ne_of_lt hb
  have n2:b≠I+1:=Nat.ne_of_lt (Nat.lt_succ_of_lt hb)
  exact hk'' b o n1 n2 (kp2 b o n2 (hk' b o (by simp [n1]) (kp b o e)))
end
end Ts
namespace L2
open PySem PySem.Spec PyProof.Rows
def rMinP (K:PySem.W.Frag) (vs:List V) (H:Hp) (Q:VK):Prop:=∃ a xs,vs=[.ref a]∧SqL K H a xs∧xs≠[]∧∃ g:V→Int×Int,(∀ v∈xs,PtV H v (g v))∧∀ v∈xs,(∀ u∈xs,Ts.ple (g v) (g u))→Q v H
theorem pair_of {X:Cx} {pins:List (Addr×Obj)} {σ:St} {H:Hp} {s:Shared} (I:Inv X pins σ H s) {v:V} {u:Value} {p:Int×Int} (h:PtV H v p) (r:RelV v u):Ts.PairAt s.heap u p:=by
 obtain ⟨b,rfl,hb⟩:=h
 have r:u=.ref b:=r
 subst r
 obtain ⟨_,its2,r2,o,ho,hc,n,hd⟩:=I.hok _ _ hb
 cases r2 with
 | cons q1 r2 =>
 obtain ⟨t1,rfl⟩:=q1
 cases r2 with
 | cons q2 r2 =>
 obtain ⟨t2,rfl⟩:=q2
 cases r2
 exact ⟨b,o,t1,t2,n,rfl,ho,hc,hd⟩
theorem cI_minPK {X:Cx} (K:PySem.W.Frag) (hK:X.K=K) (hc:X.calm=true) (hu:X.A.units+64<cLine):CallR X (.builtin "min") (rMinP K):=by
 subst hK
 intro pins s σ H xs us Q I hv h
 obtain ⟨a,ys,rfl,hl,hne,g,hg,h⟩:=h
 cases hv with
 | cons r hv =>
 cases hv
 cases r
 obtain ⟨its,rv,pl,hz⟩:=I.list hl
 obtain ⟨em,hr⟩:=rv.refs fun v hv=>let ⟨b,e,_⟩:=hg v hv; ⟨b,e⟩
 have hb:∀ u∈its,∃ b,u=Value.ref b∧V.ref b∈ys:=fun u hu=>by
  obtain ⟨b,rfl⟩:=hr u hu
  exact ⟨b,rfl,by rw [← em]; exact List.mem_map.mpr ⟨_,hu,rfl⟩⟩
 refine Ts.min_pairs (g:=fun u=>g (toV u)) (by omega) (I.ok.hd hc) pl.isList (fun e=>hne (by rw [← em,e]; rfl)) (fun u hu=>?_) fun v h' tk hm hmin hk=>?_
 ·obtain ⟨b,rfl,hm⟩:=hb u hu
  exact pair_of I (hg _ hm) rfl
 ·obtain ⟨b,rfl,hm'⟩:=hb v hm
  refine ⟨.ref b,H,I.kept hk,rfl,h _ hm' fun u hu=>?_⟩
  rw [← em] at hu
  obtain ⟨w,hw,rfl⟩:=List.mem_map.mp hu
  exact hmin w hw
theorem rd_minP {K:PySem.W.Frag} {a:Addr} {xs:List V} {H:Hp} {Q:VK} (g:V→Int×Int) (e:H a=some (.lst xs)) (hne:xs≠[]) (hg:∀ v∈xs,PtV H v (g v)) (h:∀ v∈xs,(∀ u∈xs,Ts.ple (g v) (g u))→Q v H):rMinP K [.ref a] H Q:=⟨a,xs,rfl,SqL.of e,hne,g,hg,h⟩
def rLtP:R2:=fun x y H Q=>∃ p q,PtV H x p∧PtV H y q∧Q (.bl (Ts.plt p q)) H
theorem op_ltP {X:Cx} (hu:X.A.units+64<cLine):OpR X (compareOp .Lt) rLtP:=by
 intro pins s σ H x y v u Q I rx ry h
 obtain ⟨p,q,h1,h2,k⟩:=h
 exact Ts.rich_lt_pairs (by omega) (pair_of I h1 rx) (pair_of I h2 ry) ⟨.bl _,H,I,rfl,k⟩
theorem rd_ltP {H:Hp} {Q:VK} {x y:V} {p q:Int×Int} (hx:PtV H x p) (hy:PtV H y q) (k:Q (.bl (Ts.plt p q)) H):rLtP x y H Q:=⟨p,q,hx,hy,k⟩
section
variable {K:PySem.W.Frag} {σ:St} {H:Hp} {Q:VK} {te:TE} {tt:TT} {cap:List (Option Nat)} {l:Addr}
theorem compW_filt {a:Addr} {xs:List V} (F:V→V) (p:V→Bool) (hs:SqL K H a xs) (hz:xs.length≤5000) (hl:H l=none)
    (test:∀ x o H' (Q':Bool→Hp→Prop),x∈xs→Same H H'→(∀ H5,Same H' H5→Q' (p x) H5)→tt (((capS (none::cap) σ).set 0 o).set 0 (some x)) H' Q')
    (step:∀ x o H' (Q':VK),x∈xs→p x=true→Same H H'→(∀ H5,Same H' H5→Q' (F x) H5)→te (((capS (none::cap) σ).set 0 o).set 0 (some x)) H' Q')
    (fin:∀ H',Same H H'→H' l=some (.lst ((xs.filter p).map F))→Q (.ref l) H'):CompW (Itl K a) (gName 0) tt te (none::cap) l σ H Q:=by
  refine ⟨xs.length,fun i ys σ' H'=>ys=((xs.take i).filter p).map F∧(∃ o,σ'=(capS (none::cap) σ).set 0 o)∧Same H H'∧H' l=some (.lst ys),⟨rfl,⟨none,rfl⟩,Same.new hl,upd_same⟩,?_,?_⟩
  · rintro i ys σ' H' hi ⟨rfl,⟨o,rfl⟩,s,e⟩
    refine ⟨⟨xs,xs[i],s.seq hs,by simp [hi]⟩,fun x H2 y=>?_⟩
    obtain ⟨e2,y⟩:=y
    subst e2
    have hx:=y xs (s.seq hs)
    have tk:((xs.take (i+1)).filter p).map F=((xs.take i).filter p).map F++(if p x=true then [F x] else []):=by
      rw [List.take_add_one,hx,List.filter_append,List.map_append]
      congr 1
      cases hp:p x<;>simp [hp]
    refine rd_name (test x o H2 _ (List.mem_of_getElem? hx) s fun H5 s5=>?_)
    by_cases hp:p x=true
    · rw [if_pos hp]
      rw [if_pos hp] at tk
      refine step x o H5 _ (List.mem_of_getElem? hx) hp (s.trans s5) fun H6 s6=>⟨s6 _ _ (s5 _ _ e),?_,?_⟩
      · have:(((xs.take i).filter p).map F).length≤xs.length:=by
          rw [List.length_map]
          exact Nat.le_trans (List.length_filter_le _ _) (by rw [List.length_take]; omega)
        exact Nat.lt_of_le_of_lt (Nat.le_trans this hz) (by decide)
      · exact ⟨tk.symm,⟨_,List.set_set ..⟩,((s.trans s5).trans s6).later hl,upd_same⟩
    · rw [if_neg hp]
      rw [if_neg hp,List.append_nil] at tk
      exact ⟨tk.symm,⟨_,List.set_set ..⟩,s.trans s5,s5 _ _ e⟩
  · rintro ys σ' H' ⟨rfl,_,s,e⟩
    rw [List.take_of_length_le (Nat.le_refl _)] at e
    exact ⟨⟨xs,s.seq hs,Nat.le_refl _⟩,fin H' s e⟩
end
end L2
set_option Elab.async false
set_option linter.all false
set_option maxRecDepth 100000
set_option maxHeartbeats 4000000
namespace Ts
open PySem PyProof.Rows PySem.W
theorem less_by (g:Keyed→Int×Int):Less fun x y=>plt (g x) (g y):=by
 constructor
 ·intro x y h
  have h:=plt_t.mp h
  refine plt_f.mpr ?_
  unfold ple
  omega
 ·intro x y z h1 h2
  have h1:=plt_f.mp h1
  have h2:=plt_f.mp h2
  refine plt_f.mpr ?_
  unfold ple at h1 h2 ⊢
  omega
end Ts
namespace L2
open PySem PySem.Spec PyProof.Rows PySem.W
section
variable {X:Cx} {pins:List (Addr×Obj)} {σ:St} {H H1 H2:Hp} {s0 s s':Shared}
structure Amid (X:Cx) (H:Hp) (s0:Shared) (H1:Hp) (s:Shared):Prop where
 os:s.os=s0.os
 un:Un (frs X.stack) [] H H1 s0.heap s.heap
 hok:HOk X.prog X.w H1 s.heap
 bare:AllBare s.gens
theorem Amid.inv (a:Amid X H s0 H1 s) (I:Inv X pins σ H s0):Inv X pins σ H1 s:=I.call' a.os a.un a.hok a.bare (fun b hb=>nomatch hb)
theorem Amid.start (I:Inv X pins σ H s0):Amid X H s0 H s0:=⟨rfl,Un.refl,I.hok,I.bare⟩
theorem Amid.heap {h':Heap} (a:Amid X H s0 H1 s) (k:∀ b o,b<s0.heap.objs.size∨H1 b≠none→s.heap.get? b=some o→h'.get? b=some o):Amid X H s0 H1 { s with heap:=h' }:=by
 have lt:∀ {b o},s0.heap.get? b=some o→b<s0.heap.objs.size:=fun e=>Heap.lt_size e
 refine ⟨a.os,⟨fun b o e n hb hx=>k b o (.inl (lt e)) (a.un.keep b o e n hb hx),fun b o e n hb hx=>?_,a.un.free,fun b o e hx=>?_,a.un.tups,a.un.frzs,a.un.tbls⟩,fun b o e=>?_,a.bare⟩
 ·obtain ⟨sl,q⟩:=a.un.slot b o e n hb hx
  exact ⟨sl,k b _ (.inl (lt e)) q⟩
 ·obtain ⟨o',q⟩:=a.un.there b o e hx
  exact ⟨o',k b _ (.inl (lt e)) q⟩
 ·refine (a.hok b o e).stay (fun c v hc q=>k c v (.inr ?_) q) (fun _ q=>q) fun _ _ q=>q
  rcases hc with z | z
  ·rw [z,e]; exact fun z=>nomatch z
  ·rw [z]; exact fun z=>nomatch z
theorem Amid.track {c:Addr} {o:HO} (a:Amid X H s0 H1 s) (hc:s0.heap.objs.size≤c) (hn:H1 c=none) (I:Inv X pins σ H s0) (new:ObjOk X.prog X.w (upd H1 c o) s.heap c o):Amid X H s0 (upd H1 c o) s:=by
 have ne:∀ {b o},s0.heap.get? b=some o→b≠c:=fun e z=>by have:=Heap.lt_size e; rw [z] at this; exact absurd this (Nat.not_lt.mpr hc)
 have ne1:∀ {b o},H1 b=some o→b≠c:=fun e z=>by rw [z,hn] at e; cases e
 refine ⟨a.os,⟨a.un.keep,a.un.slot,fun b o e n hx=>by rw [upd_ne (ne e)]; exact a.un.free b o e n hx,a.un.there,fun b xs e=>?_,fun b o u e=>?_,fun b ps e=>?_⟩,fun b u e=>?_,a.bare⟩
 ·have:=a.un.tups b xs e
  rw [upd_ne (ne1 this)]; exact this
 ·have:=a.un.frzs b o u e
  rw [upd_ne (ne1 this)]; exact this
 ·obtain ⟨more,q⟩:=a.un.tbls b ps e
  exact ⟨more,by rw [upd_ne (ne1 q)]; exact q⟩
 ·by_cases hb:b=c
  ·subst hb; rw [upd_same] at e; cases e; exact new
  ·rw [upd_ne hb] at e
   exact (a.hok b u e).stay (fun c v _ q=>q) (fun c q=>by rw [upd_ne (ne1 q)]; exact q) fun c xs q=>by rw [upd_ne (ne1 q)]; exact q
theorem Amid.call {A:Around} {k:Nat} {f:Addr} {fd:FuncData} {ps:List Str} {sp:Sp} {us:List Value} {vs:List V} {Q:VK} {E:Value→Shared→Prop} (a:Amid X H s0 H1 s) (I:Inv X pins σ H s0) (F:FnOk X.prog X.w X.K X.mg X.base CX0 k f fd ps sp) (hr:Room k A) (hA:A.frames=X.A.frames)
  (hb:Binds X.K fd ps []) (r:Vals vs us) (h:sp vs H1 Q E0) {R:Value→Shared→Prop} (q:∀ v u H2 s2,Amid X H s0 H2 s2→RelV v u→Q v H2→(∀ b o,s.heap.get? b=some o→H1 b=none→b∉frs X.stack→s2.heap.get? b=some o∧H2 b=none)→R u s2):wpAny (model X.prog X.w) A (PySem.call (.ref f) us) R E s:=by
 have J:=a.inv I
 have hl:(us++([]:List Value)).length=ps.length:=by rw [List.append_nil,← r.length]; exact F.len _ _ _ _ h
 have e0:=J.env0
 have bt:=hb s us J.kIn hl
 rw [List.append_nil] at bt
 refine wpAny_call (codeAny_mono (F.run A X.stack s H1 ⟨us,[]⟩ us vs Q E0 hr ⟨hA.trans e0.frames,e0.mod,e0.bs,e0.bsz,e0.funs,e0.frf,e0.hok,e0.bare⟩ bt r h) fun r s2 hq=>?_)
 cases r with
 | error e=>exact False.elim hq
 | ok fl =>
  cases fl with
  | ret u =>
   obtain ⟨v,H2,os,bare,un,hok,rv,qq⟩:=hq
   exact q v u H2 s2 ⟨os.trans a.os,a.un.trans un,hok,bare⟩ rv qq fun b o e n hb=>⟨un.keep b o e n hb (fun z=>nomatch z),un.free b o e n (fun z=>nomatch z)⟩
  | next => exact False.elim hq
  | brk => exact False.elim hq
  | cont => exact False.elim hq
def rSortK (K:PySem.W.Frag) (sp:Sp) (x:V) (H:Hp) (Q:VK):Prop:=∃ (a:Addr) (xs:List V) (g:V→Int×Int),x=.ref a∧SqL K H a xs∧(∀ v∈xs,∃ b,v=.ref b) ∧
 (∀ v∈xs,∀ (H1:Hp) (Q1:VK),Same H H1→(∀ u H2,Same H1 H2→PtV H2 u (g v)→Q1 u H2)→sp [v] H1 Q1 E0) ∧
 ∀ (l:Addr) (ys:List V) (H':Hp),Same H H'→H l=none→H' l=some (.lst ys)→ys.Perm xs→ys.Pairwise (fun x y=>Ts.ple (g x) (g y))→Q (.ref l) H'
theorem PtV.mono {v:V} {p:Int×Int} (s:Same H H1) (h:PtV H v p):PtV H1 v p:=by
 obtain ⟨b,e,q⟩:=h
 exact ⟨b,e,s _ _ q⟩
theorem vals_snoc {xs:List V} {us:List Value} {v:V} {u:Value} (h:Vals xs us) (r:RelV v u):Vals (xs++[v]) (us++[u]):=h.append (.cons r .nil)
theorem kinds_of {A:Around} {E:Value→Shared→Prop} {h:Heap} (us:List Value) (gs:Value→Int×Int) (hv:∀ u∈us,Ts.PairAt h u (gs u)) (h2:2≤us.length) {M:Model} {s:Shared} (hs:s.heap=h) {Q:SortKind→Shared→Prop} (q:Q (tuples' true) s):wpAny M A (keyKind' us.toArray) Q E s:=by
 have key:∀ (us:List Value),(∀ v∈us,Ts.PairAt h v (gs v))→∃ fs,KatTups h us fs∧fs.length=us.length∧∀ f∈fs,∃ i t,f=.int i t:=by
  intro us
  induction us with
  | nil => intro _; exact ⟨[], KatTups.nil, rfl, (fun f hf => nomatch hf)⟩
  | cons v us ih =>
   intro hu
   obtain ⟨fs,k1,k2,k3⟩:=ih fun v hv=>hu v (List.mem_cons_of_mem _ hv)
   obtain ⟨b,o,t,u,n,e,h1,h2,h3⟩:=hu v List.mem_cons_self
   refine ⟨.int (gs v).1 t::fs,?_,by rw [List.length_cons,List.length_cons,k2],fun f hf=>?_⟩
   ·rw [e]
    rw [e] at h3
    exact KatTups.cons h1 h2 h3 rfl k1
   ·rcases List.mem_cons.mp hf with rfl | hf
    ·exact ⟨_,_,rfl⟩
    ·exact k3 f hf
 obtain ⟨fs,k1,k2,k3⟩:=key us hv
 subst hs
 refine kat_kind (T:=.type "int") k1 (by omega) (fun f hf=>?_) (by decide) ?_
 ·obtain ⟨i,t,rfl⟩:=k3 f hf
  exact Looks.of_pure rfl
 ·have:(Value.type "int" != Value.type "tuple")=true:=by decide
  rw [this]
  exact q
theorem sortK_run {k:Nat} {f:Addr} {fd:FuncData} {ps:List Str} {sp:Sp} {x:V} {u:Value} {Q:VK} (F:FnOk X.prog X.w X.K X.mg X.base CX0 k f fd ps sp) (hr:Room (k+3) X.A) (hb:Binds X.K fd ps []) (I:Inv X pins σ H s0) (rx:RelV x u) (h:rSortK X.K sp x H Q) :
    wpAny (model X.prog X.w) X.A (PySem.call (.builtin "sorted") [u] [(Str.ofString "key",.ref f)]) (EP X pins σ Q) X.xe s0:=by
  obtain ⟨a,xs,g,rfl,hl,hrf,hkey,hend⟩:=h
  cases rx
  obtain ⟨its,rv,pl,hz⟩:=I.list hl
  have hlen:=rv.length
  have hz':its.length≤sizeLine:=by omega
  obtain ⟨em,hri⟩:=rv.refs hrf
  refine call_function_entry_kw kind_sorted plain_sorted entry_sorted (ksk_s1 _ _) ?_
  unfold Builtin.«sorted»
  refine wpAny_bind (m:=checkCount "sorted" 1 1 _) (wpAny_pure ?_)
  refine wpAny_bind (collect_list pl.isList ?_ hz')
  refine wpAny_bind (wpAny_newList ?_ hz')
  generalize hS0:s0.heap.objs.size=n0
  have hsz:((s0.heap.push (seqObj "list" #[] 0)).update n0 (Obj.mapSeq (·++its.toArray))).objs.size=n0+1:=by rw [Heap.size_update,size_push',hS0]
  have hoL:(((s0.heap.push (seqObj "list" #[] 0)).update n0 (Obj.mapSeq (·++its.toArray))).push (seqObj "list" its.toArray 0)).get? (n0+1)=some (seqObj "list" its.toArray 0):=by rw [← hsz]; exact Heap.get?_push_size _ rfl
  have keep:∀ b o,s0.heap.get? b=some o→(((s0.heap.push (seqObj "list" #[] 0)).update n0 (Obj.mapSeq (·++its.toArray))).push (seqObj "list" its.toArray 0)).get? b=some o:=fun b o q=>by
    have hlt:b<n0:=by rw [← hS0]; exact Heap.lt_size q
    refine Heap.get?_push_of_some _ ?_
    rw [Heap.get?_update_ne _ _ _ _ (Nat.ne_of_lt hlt)]
    exact Heap.get?_push_of_some _ q
  have hs2:(((s0.heap.push (seqObj "list" #[] 0)).update n0 (Obj.mapSeq (·++its.toArray))).push (seqObj "list" its.toArray 0)).objs.size=n0+2:=by rw [size_push',hsz]
  show wpAny _ _ (holding [.ref ((s0.heap.push (seqObj "list" #[] 0)).update n0 (Obj.mapSeq (·++its.toArray))).objs.size] (PySem.call (.builtin "list.sort") [.ref ((s0.heap.push (seqObj "list" #[] 0)).update n0 (Obj.mapSeq (·++its.toArray))).objs.size] [(Str.ofString "key",.ref f)]) >>= fun _=>ret (.ref ((s0.heap.push (seqObj "list" #[] 0)).update n0 (Obj.mapSeq (·++its.toArray))).objs.size)) _ _ { s0 with heap:=((s0.heap.push (seqObj "list" #[] 0)).update n0 (Obj.mapSeq (·++its.toArray))).push (seqObj "list" its.toArray 0) }
  rw [hsz]
  generalize ((s0.heap.push (seqObj "list" #[] 0)).update n0 (Obj.mapSeq (·++its.toArray))).push (seqObj "list" its.toArray 0)=h1 at hoL keep hs2 ⊢
  generalize hD:n0+1=D at hoL ⊢
  have am0:Amid X H s0 H { s0 with heap:=h1 }:=(Amid.start I).heap fun b o _ q=>keep b o q
  refine wpAny_bind (wpAny_holding (wpAny_call_entry_kw slot_list_sort ⟨_,hoL,rfl⟩ entry_list_sort ?_ (ksk_l1 _ _)))
  show wpAny (model X.prog X.w) X.A.in1.in1 (Builtin.«list.sort» ⟨[.ref D],[(Str.ofString "key",.ref f)]⟩) _ _ _
  rw [ksk_t1]
  unfold ksk_tree
  refine wpAny_bind (listItems_at hoL rfl ?_)
  refine wpAny_bind (listUpdate_at hoL rfl ?_ (by rw [List.size_toArray]; exact hz') (Nat.zero_le _))
  obtain ⟨e1,ho1⟩:∃ e1,(h1.update D (Obj.mapSeq fun _=>#[])).get? D=some (seqObj "list" #[] e1):=⟨_,get?_update_seq hoL (fun _=>#[])⟩
  refine wpAny_bind (seqEpoch_at ho1 rfl ?_)
  refine wpAny_bind (wpAny_newTuple ?_ (by first | exact hz' | (simp; exact hz')))
  refine wpAny_bind (wpAny_newList ?_)
  refine wpAny_holding ?_
  show wpAny _ _ (ksk_rest D (.ref f) false its.toArray e1 (.ref ((h1.update D (Obj.mapSeq fun _=>#[])).push (seqObj "tuple" its.toArray 0)).objs.size)) _ _ { s0 with heap:=((h1.update D (Obj.mapSeq fun _=>#[])).push (seqObj "tuple" its.toArray 0)).push (seqObj "list" #[] 0) }
  have hsk:((h1.update D (Obj.mapSeq fun _=>#[])).push (seqObj "tuple" its.toArray 0)).objs.size=n0+3:=by rw [size_push',Heap.size_update,hs2]
  have hK:(((h1.update D (Obj.mapSeq fun _=>#[])).push (seqObj "tuple" its.toArray 0)).push (seqObj "list" #[] 0)).get? (n0+3)=some (seqObj "list" #[] 0):=by rw [← hsk]; exact Heap.get?_push_size _ rfl
  have hDo:(((h1.update D (Obj.mapSeq fun _=>#[])).push (seqObj "tuple" its.toArray 0)).push (seqObj "list" #[] 0)).get? D=some (seqObj "list" #[] e1):=Heap.get?_push_of_some _ (Heap.get?_push_of_some _ ho1)
  rw [hsk]
  have hDn:n0≤D:=by rw [← hD]; exact Nat.le_succ _
  have am1:Amid X H s0 H { s0 with heap:=((h1.update D (Obj.mapSeq fun _=>#[])).push (seqObj "tuple" its.toArray 0)).push (seqObj "list" #[] 0) }:=am0.heap (s:={ s0 with heap:=h1 }) fun b o hb q=>by
    have hne:b≠D:=by
      rcases hb with hb | hb
      · rw [hS0] at hb; exact Nat.ne_of_lt (Nat.lt_of_lt_of_le hb hDn)
      · intro e
        exact hb (I.hok.fresh (by rw [hS0,e]; exact hDn))
    exact Heap.get?_push_of_some _ (Heap.get?_push_of_some _ ((Heap.get?_update_other _ _ (Ne.symm hne)).trans q))
  generalize ((h1.update D (Obj.mapSeq fun _=>#[])).push (seqObj "tuple" its.toArray 0)).push (seqObj "list" #[] 0)=h2 at hK hDo am1 ⊢
  generalize hkS:n0+3=kS at hK ⊢
  have hKn:n0≤kS:=by rw [← hkS]; omega
  have hDK:D≠kS:=by rw [← hD,← hkS]; exact Nat.ne_of_lt (by omega)
  have nfr:∀ {c:Addr},n0≤c→c∉frs X.stack:=fun {c} hc hb=>by
    rcases List.mem_cons.mp (I.stkSub c hb) with e | hb
    · have:=I.lt
      rw [← e,hS0] at this
      exact absurd this (Nat.not_lt.mpr hc)
    · exact I.nofs (by rw [hS0]; exact hc) hb
  unfold ksk_rest
  refine wpAny_bind (wpAny_rule ?_)
  have roomK:Room k X.A.in1.in1:=(hr.mono (by omega:k+2≤k+3)).in1.in1
  rw [← Array.forIn_toList,List.toList_toArray]
  refine wpAny_bind (ksk_fold (I:=fun i s=>∃ (H1:Hp) (ks:List Value) (kvs:List V) (c:Nat),Amid X H s0 H1 s∧Same H H1∧s.heap.get? D=some (seqObj "list" #[] e1)∧H1 D=none∧s.heap.get? kS=some (seqObj "list" ks.toArray c)∧H1 kS=none∧Vals kvs ks∧ks.length=i∧∀ (j:Nat) v u,kvs[j]?=some u→xs[j]?=some v→PtV H1 u (g v))
    its 0 _ ⟨H,[],[],0,am1,Same.refl _,hDo,I.hok.fresh (by rw [hS0]; exact hDn),hK,I.hok.fresh (by rw [hS0]; exact hKn),.nil,rfl,fun j v u e=>by simp at e⟩ ?_ ?_)
  · rintro j x s hx ⟨H1,ks,kvs,c,am,sm,qD,nD,qK,nK,vk,lk,pk⟩
    have hxv:xs[j]?=some (toV x):=by rw [← em,List.getElem?_map,hx]; rfl
    obtain ⟨b,rfl⟩:=hri x (List.mem_of_getElem? hx)
    have jlt:j<its.length:=(List.getElem?_eq_some_iff.mp hx).1
    refine wpAny_bind (wpAny_attempt (am.call (vs:=[.ref b]) I F roomK rfl hb (.cons rfl .nil) (hkey (.ref b) (List.mem_of_getElem? hxv) H1 (fun v H2=>Same H1 H2∧PtV H2 v (g (.ref b))) sm fun u H2 s2 p2=>⟨s2,p2⟩) fun v u H2 s2 am2 ru q2 kp=>?_))
    obtain ⟨s12,p2⟩:=q2
    obtain ⟨qD2,nD2⟩:=kp D _ qD nD (nfr hDn)
    obtain ⟨qK2,nK2⟩:=kp kS _ qK nK (nfr hKn)
    dsimp only
    refine wpAny_bind (listUpdate_at qK2 rfl ?_ (by rw [List.size_toArray]; omega) (by rw [Array.size_push,List.size_toArray]; omega))
    have qK3:=get?_update_seq qK2 (fun x=>x.push u)
    refine wpAny_pure ⟨rfl,H2,ks++[u],kvs++[v],_,am2.heap fun b o hb q=>?_,sm.trans s12,?_,nD2,by rw [qK3]; congr 2; simp,nK2,vals_snoc vk ru,by rw [List.length_append,List.length_singleton]; omega,fun i v' u' hu hv'=>?_⟩
    · have hne:b≠kS:=by
        rcases hb with hb | hb
        · rw [hS0] at hb; exact Nat.ne_of_lt (Nat.lt_of_lt_of_le hb hKn)
        · intro e; rw [e] at hb; exact hb nK2
      exact (Heap.get?_update_other _ _ (Ne.symm hne)).trans q
    · exact (Heap.get?_update_other _ _ (Ne.symm hDK)).trans qD2
    · have lkv:kvs.length=ks.length:=vk.length
      by_cases hi:i<kvs.length
      · rw [List.getElem?_append_left hi] at hu
        exact (pk i v' u' hu hv').mono s12
      · rw [List.getElem?_append_right (by omega)] at hu
        have hh:=(List.getElem?_eq_some_iff.mp hu).1
        rw [List.length_singleton] at hh
        have:i=j:=by omega
        subst this
        rw [show i - kvs.length=0 by omega] at hu
        simp only [List.getElem?_cons_zero,Option.some.injEq] at hu
        rw [hxv] at hv'
        cases hv'
        rw [← hu]
        exact p2
  · rintro s ⟨H1,ks,kvs,c,am,sm,qD,nD,qK,nK,vk,lk,pk⟩
    have lk:ks.length=its.length:=by omega
    refine wpAny_bind (listItems_at qK rfl ?_)
    unfold ksk_end
    dsimp only
    rw [if_neg (by decide)]
    have J:=am.inv I
    -- each key and its item
    have hpair:∀ p∈ks.zip its,Ts.PairAt s.heap p.1 (g (toV p.2))∧p.2∈its:=by
      intro p hp
      obtain ⟨i,hi⟩:=List.mem_iff_getElem?.mp hp
      have hz2:=List.getElem?_zip_eq_some.mp hi
      have hk1:i<kvs.length:=by rw [vk.length]; exact (List.getElem?_eq_some_iff.mp hz2.1).1
      obtain ⟨u,hu,ru⟩:=vk.get (List.getElem?_eq_getElem hk1)
      rw [hz2.1] at hu
      cases hu
      have hx:xs[i]?=some (toV p.2):=by rw [← em,List.getElem?_map,hz2.2]; rfl
      exact ⟨pair_of J (pk i _ _ (List.getElem?_eq_getElem hk1) hx) ru,List.mem_of_getElem? hz2.2⟩
    have fin:∀ (st:SortSt),(arrOf st).toList.Perm (ks.zip its)→failedOf st=none→(arrOf st).toList.Pairwise (Ts.Le fun x y=>Ts.plt (g (toV x.2)) (g (toV y.2))) →
        wpAny (model X.prog X.w) X.A.in1.in1 (ksk_tail D false e1 (.ref kS) st) (fun fin s'=>∃ v,fin=Fin.done (Flow.ret v)∧wpAny (model X.prog X.w) X.A.in1 (ret (Value.ref D)) (fun fin s'=>∃ v,fin=Fin.done (Flow.ret v)∧EP X pins σ Q v s') X.xe s') X.xe s:=by
      intro st hp hf hw
      unfold ksk_tail
      dsimp only
      have lst:(arrOf st).size=its.length:=by rw [← Array.length_toList,hp.length_eq,List.length_zip,lk,Nat.min_self]
      refine wpAny_bind (listUpdate_at qK rfl ?_ (by rw [List.size_toArray]; omega) (Nat.zero_le _))
      refine wpAny_bind (wpAny_letGo ?_)
      have qD2:(s.heap.update kS (Obj.mapSeq fun _=>#[])).get? D=some (seqObj "list" #[] e1):=(Heap.get?_update_other _ _ (Ne.symm hDK)).trans qD
      refine wpAny_bind (seqEpoch_at qD2 rfl ?_)
      refine wpAny_bind (listUpdate_at qD2 rfl ?_ (by simp) (by rw [if_neg (by decide),Array.size_map,lst]; omega))
      rw [hf]
      simp only [bne_self_eq_false,Bool.false_eq_true,if_false]
      refine wpAny_pure ⟨_,rfl,?_⟩
      have am2:Amid X H s0 H1 { s with heap:=(s.heap.update kS (Obj.mapSeq fun _=>#[])).update D (Obj.mapSeq fun _=>(arrOf st).map (·.2)) }:=am.heap fun b o hb q=>by
        have n1:b≠kS:=by
          rcases hb with hb | hb
          · rw [hS0] at hb; exact Nat.ne_of_lt (Nat.lt_of_lt_of_le hb hKn)
          · intro e; rw [e] at hb; exact hb nK
        have n2:b≠D:=by
          rcases hb with hb | hb
          · rw [hS0] at hb; exact Nat.ne_of_lt (Nat.lt_of_lt_of_le hb hDn)
          · intro e; rw [e] at hb; exact hb nD
        exact (Heap.get?_update_other _ _ (Ne.symm n2)).trans ((Heap.get?_update_other _ _ (Ne.symm n1)).trans q)
      have qD3:=get?_update_seq qD2 (fun _=>(arrOf st).map (·.2))
      have pm:((arrOf st).toList.map (·.2)).Perm its:=by
        have:=hp.map Prod.snd
        rw [List.map_snd_zip (by omega)] at this
        exact this
      have am3:=am2.track (o:=.lst (((arrOf st).toList.map (·.2)).map toV)) (c:=D) (by rw [hS0]; exact hDn) nD I ⟨by rw [List.length_map,pm.length_eq]; exact hz',(arrOf st).toList.map (·.2),_,vals_refs fun u hu=>hri u (pm.mem_iff.mp hu),by rw [qD3]; congr 2; rw [← Array.toList_map,Array.toArray_toList]⟩
      refine wpAny_pure ⟨_,rfl,.ref D,_,am3.inv I,rfl,?_⟩
      have nH:H D=none:=I.hok.fresh (by rw [hS0]; exact hDn)
      refine hend D _ _ (sm.later nH) nH upd_same (by rw [← em]; exact pm.map toV) ?_
      rw [List.map_map,List.pairwise_map]
      exact hw.imp fun {x y} hxy=>Ts.plt_f.mp hxy
    have zsz:(ks.toArray.zip its.toArray).toList=ks.zip its:=by simp
    by_cases h2:its.toArray.size<2
    · rw [if_pos h2,if_pos h2]
      refine wpAny_bind (wpAny_pure ?_)
      rw [StateT.run_pure]
      refine wpAny_bind (wpAny_pure ?_)
      dsimp only
      refine fin _ (by show (ks.toArray.zip its.toArray).toList.Perm _; rw [zsz]) rfl ?_
      show (ks.toArray.zip its.toArray).toList.Pairwise _
      rw [zsz]
      rw [List.size_toArray] at h2
      match ks,its,lk,h2 with
      | [],[],_,_=>exact List.Pairwise.nil
      | [k],[v],_,_=>exact List.pairwise_singleton _ _
      | k1::k2::ks,v1::v2::its,_,h2=>simp at h2; omega
    · rw [if_neg h2,if_neg h2]
      rw [List.size_toArray] at h2
      have hks:∀ u∈ks,∃ p,Ts.PairAt s.heap u p:=by
        intro u hu
        obtain ⟨i,hi⟩:=List.mem_iff_getElem?.mp hu
        have hlt:=(List.getElem?_eq_some_iff.mp hi).1
        exact ⟨_,(hpair (u,its[i]) (List.mem_iff_getElem?.mpr ⟨i,List.getElem?_zip_eq_some.mpr ⟨hi,List.getElem?_eq_getElem (by omega)⟩⟩)).1⟩
      classical
      refine wpAny_bind (kinds_of ks (fun u=>if hu:∃ p,Ts.PairAt s.heap u p then hu.choose else (0,0)) (fun u hu=>by rw [dif_pos (hks u hu)]; exact (hks u hu).choose_spec) (by omega) rfl ?_)
      have asks:Ts.Asks (model X.prog X.w) X.A.in1.in1 X.xe s (tuples' true) (fun x=>x∈ks.zip its) (fun x y=>Ts.plt (g (toV x.2)) (g (toV y.2))):=Ts.asks_of fun x y hx hy Q' E' q=>Ts.pairs_lt (hpair x hx).1 (hpair y hy).1 q
      refine wpAny_bind (wpAny_mono (Ts.wpS_sort (E:=X.xe) (s:=s) (A:=X.A.in1.in1) (Ts.less_by fun x=>g (toV x.2)) asks (st:=SortSt.mk' (tuples' true) (ks.toArray.zip its.toArray) #[] 7 none)
        (Q:=fun _ st'=>(arrOf st').Perm (ks.toArray.zip its.toArray)∧failedOf st'=none∧(arrOf st').toList.Pairwise (Ts.Le fun x y=>Ts.plt (g (toV x.2)) (g (toV y.2)))) rfl rfl rfl (fun x hx=>by rw [← zsz]; exact hx) fun st' a1 a2 a3=>⟨a1,a2,a3⟩) ?_ fun _ _ e=>e)
      rintro ⟨⟨⟩,st'⟩ s' ⟨rfl,hp,hf,hs⟩
      dsimp only
      exact fin st' (by rw [← zsz]; exact Array.perm_iff_toList_perm.mp hp) hf hs
def tSortK (K:PySem.W.Frag) (sp:Sp) (te:TE):TE:=fun σ H Q=>te σ H fun x H1=>rSortK K sp x H1 Q
theorem pe_sortK {e:Expr} {te:TE} {x:Str} {p pk kp pos:Pos} {k:Nat} {f:Addr} {fd:FuncData} {ps:List Str} {sp:Sp} (K:PySem.W.Frag) (hK:X.K=K) (F:FnOk X.prog X.w X.K X.mg X.base CX0 k f fd ps sp) (hr:Room (k+3) X.A) (hg:Gl X "sorted") (hm:X.mg "sorted"=none) (hgx:Gl X x) (hmx:X.mg x=some (.ref f)) (hb:Binds X.K fd ps []) (ha:PE X e te)
  (hd:(x==("__debug__":Str))=false:=by decide) (he:backTo pos (starEach [e] X.env)=(false,eval e X.env)::backTo pos (starEach [] X.env):=by rfl) (hpl:(backTo pos (starEach [e] X.env)).any (·.1)=false:=by rfl):PE X (.Call (.Name "sorted" p) [e] [⟨some "key",.Name x pk,kp⟩] pos) (tSortK K sp te):=by
 subst hK
 intro pins s σ H Q I h
 refine wpAny_Call_Name_kw (ld_blt I hg hm (by rfl) ?_ (by decide) (by decide))
 refine callWith_kw ?_ he hpl
 rw [he]
 refine Calls.spliced_cons (thn (ha pins s σ H _ I h) fun v s1 ⟨y,H1,I1,r1,q1⟩=>Calls.spliced_nil ?_)
 refine kws_cons (ld_glob I1 hgx hmx ?_ hd)
 refine kws_nil ?_
 exact sortK_run F hr hb I1 r1 q1
theorem rd_sortKh {K:PySem.W.Frag} {sp:Sp} {te:TE} {σ:St} {H:Hp} {Q:VK} (h:te σ H fun x H1=>rSortK K sp x H1 Q):tSortK K sp te σ H Q:=h
end
end L2
set_option Elab.async false
set_option linter.all false
set_option maxHeartbeats 4000000
namespace Sm
section
variable {nb:Pnt→List Pnt}
theorem go_adj:∀ {a b:Pnt} {l:List Pnt},b∈nb a→Go nb a b l→∀ (i:Nat) (p q:Pnt),(a::b::l)[i]?=some p→(a::b::l)[i+1]?=some q→q∈nb p
 | a,b,l,hb,_,0,p,q,hp,hq=>by
  simp only [List.getElem?_cons_zero,List.getElem?_cons_succ,Option.some.injEq] at hp hq
  rw [← hp,← hq]; exact hb
 | a,b,[],_,_,i+1,p,q,_,hq=>by simp at hq
 | a,b,c::l,_,g,i+1,p,q,hp,hq=>by
  rw [List.getElem?_cons_succ] at hp hq
  exact go_adj (go_head g).1 g.2 i p q hp hq
def bef (L:List Pnt) (i:Nat):Nat:=if i=0 then L.length - 1 else i - 1
theorem Told.len {f:Bool} {L:List Pnt} (h:Told nb f L):2≤L.length:=by
 obtain ⟨a,b,l,e,_⟩:=h.path
 rw [e,List.length_cons,List.length_cons]; omega
theorem Told.nd {f:Bool} {L:List Pnt} (h:Told nb f L):L.Nodup:=by
 obtain ⟨a,b,l,e,_,_,n⟩:=h.path
 exact n
theorem last_at {a b:Pnt} {l:List Pnt}:(a::b::l)[(a::b::l).length - 1]?=some (fin a b l).2:=by rw [← List.getLast?_eq_getElem?]; exact fin_last a b l
theorem Told.step (G:Gr nb) {f:Bool} {L:List Pnt} (h:Told nb f L) {i:Nat} (hi:i<L.length) (h0:i≠0∨f=true):∃ p q,L[bef L i]?=some p∧L[i]?=some q∧q∈nb p:=by
 by_cases hz:i=0
 ·have hf:f=true:=h0.resolve_left fun z=>z hz
  obtain ⟨a,b,l,rfl,o,_⟩:=h.rd hf
  refine ⟨(fin a b l).2,a,?_,by rw [hz]; rfl,G.sym (o.last G).1⟩
  unfold bef
  rw [if_pos hz]; exact last_at
 ·obtain ⟨a,b,l,rfl,hb,g,_⟩:=h.path
  have h1:i - 1<(a::b::l).length:=by omega
  refine ⟨_,_,?_,List.getElem?_eq_getElem hi,go_adj hb g (i - 1) _ _ (List.getElem?_eq_getElem h1) ?_⟩
  ·unfold bef; rw [if_neg hz]; exact List.getElem?_eq_getElem h1
  ·rw [show i - 1+1=i by omega]; exact List.getElem?_eq_getElem hi
theorem Told.turn (G:Gr nb) {f:Bool} {L:List Pnt} (h:Told nb f L) {i:Nat} (hi:i+1<L.length) (h0:i≠0∨f=true) {p r:Pnt} (hp:L[bef L i]?=some p) (hr:L[i+1]?=some r):r≠p:=by
 intro e
 by_cases hz:i=0
 ·have hf:f=true:=h0.resolve_left fun z=>z hz
  obtain ⟨a,b,l,rfl,o,_⟩:=h.rd hf
  unfold bef at hp
  rw [if_pos hz,last_at] at hp
  subst hz
  rw [Nat.zero_add,List.getElem?_cons_succ,List.getElem?_cons_zero] at hr
  have h1:=Option.some.inj hp
  have h2:=Option.some.inj hr
  exact (o.last G).2 (by rw [h1,h2,e])
 ·unfold bef at hp
  rw [if_neg hz] at hp
  have:=(List.getElem?_inj (i:=i - 1) (j:=i+1) (by omega) h.nd).mp (by rw [hp,hr,e])
  omega
end
end Sm
set_option Elab.async false
set_option linter.all false
set_option maxRecDepth 100000
set_option maxHeartbeats 4000000
namespace L2
open PySem PySem.Spec PyProof.Rows PySem.W
section
variable {prog:Program} {w:World} {κ:Type} [DecidableEq κ] {kd:HeapKind prog w κ} {A:Around} {E:Value→Shared→Prop} {s:Shared} {d a:Addr} {xs:List (κ×Addr×Value)} {k:κ} {v:Value}
end
section
variable {X:Cx} {pins:List (Addr×Obj)} {σ:St} {H:Hp} {s:Shared} {a b:Addr} {z:V} {r:Value} {A:Around} {E:Value→Shared→Prop} {kvs:List (List Key×V)} {k:List Key}
end
end L2
set_option Elab.async false
set_option linter.all false
set_option maxRecDepth 100000
set_option maxHeartbeats 4000000
namespace L2
open PySem PySem.Spec PyProof.Rows PySem.W
theorem items_of:∀ {ns:List Int} {its:List Value},Vals (ns.map V.int) its→∃ xs:List (Int×Tok),its=xs.map (fun p=>Value.int p.1 p.2)∧xs.map (·.1)=ns
 | [],_,r=>by cases r; exact ⟨[],rfl,rfl⟩
 | n::ns,_,r=>by
  rw [List.map_cons] at r
  cases r with
  | cons q r =>
   obtain ⟨t,rfl⟩:=q
   obtain ⟨xs,rfl,e⟩:=items_of r
   exact ⟨(n,t)::xs,rfl,by rw [List.map_cons,e]⟩
def rBestI (K:PySem.W.Frag) (mx:Bool) (vs:List V) (H:Hp) (Q:VK):Prop:=∃ (a:Addr) (ns:List Int),vs=[.ref a]∧SqL K H a (ns.map V.int)∧ns≠[]∧∀ m∈ns,(∀ n∈ns,if mx=true then n≤m else m≤n)→Q (.int m) H
section
variable {X:Cx} (K:PySem.W.Frag) (hK:X.K=K) (hc:X.calm=true)
theorem best_num {xs:List (Int×Tok)} {i:Nat} (hi:i<xs.length):numAt xs.toArray i=xs[i].1:=by
 unfold numAt
 rw [List.getElem?_toArray,List.getElem?_eq_getElem hi]; rfl
theorem best_at {xs:List (Int×Tok)} (h0:0<xs.length) (mx:Bool) {k:Nat} (hk:k≤xs.toArray.size - 1) (hb:∀ j,j≤xs.toArray.size - 1→if mx=true then numAt xs.toArray j≤numAt xs.toArray k else numAt xs.toArray k≤numAt xs.toArray j) :
  numAt xs.toArray k∈xs.map (·.1)∧∀ n∈xs.map (·.1),if mx=true then n≤numAt xs.toArray k else numAt xs.toArray k≤n:=by
 rw [List.size_toArray] at hk hb
 refine ⟨?_,fun n hn=>?_⟩
 ·rw [best_num (by omega)]; exact List.mem_map.mpr ⟨_,List.getElem_mem _,rfl⟩
 ·obtain ⟨p,hp,rfl⟩:=List.mem_map.mp hn
  obtain ⟨j,hj,rfl⟩:=List.mem_iff_getElem.mp hp
  have:=hb j (by omega)
  rw [best_num hj] at this
  exact this
include hK hc
theorem cI_minIK:CallR X (.builtin "min") (rBestI K false):=by
 subst hK
 intro pins s σ H xs us Q I hv h
 obtain ⟨a,ns,rfl,hl,hne,h⟩:=h
 obtain ⟨u,rfl,ru⟩:=hv.one
 cases (show u=Value.ref a from ru)
 obtain ⟨its,rv,pl,hz⟩:=I.list hl
 obtain ⟨xs,rfl,rfl⟩:=items_of rv
 have h0:0<xs.length:=List.length_pos_iff.mpr fun e=>hne (by rw [e]; rfl)
 have hi:s.heap.IsList a (intItems xs.toArray):=by have:=pl.isList; unfold intItems; simpa using this
 refine min_intList (I.ok.hd hc) hi (by simpa using h0) fun v h' tk hv hk=>?_
 obtain ⟨t,rfl⟩:=intItems_at hv
 obtain ⟨b1,b2⟩:=argBest_lt (numAt xs.toArray) (xs.toArray.size - 1)
 obtain ⟨c1,c2⟩:=best_at h0 false b1 fun j hj=>by rw [if_neg (by decide)]; exact b2 j hj
 exact ⟨.int _,H,I.kept hk,⟨t,rfl⟩,h _ c1 c2⟩
theorem cI_maxIK:CallR X (.builtin "max") (rBestI K true):=by
 subst hK
 intro pins s σ H xs us Q I hv h
 obtain ⟨a,ns,rfl,hl,hne,h⟩:=h
 obtain ⟨u,rfl,ru⟩:=hv.one
 cases (show u=Value.ref a from ru)
 obtain ⟨its,rv,pl,hz⟩:=I.list hl
 obtain ⟨xs,rfl,rfl⟩:=items_of rv
 have h0:0<xs.length:=List.length_pos_iff.mpr fun e=>hne (by rw [e]; rfl)
 have hi:s.heap.IsList a (intItems xs.toArray):=by have:=pl.isList; unfold intItems; simpa using this
 refine max_intList (I.ok.hd hc) hi (by simpa using h0) fun v h' tk hv hk=>?_
 obtain ⟨t,rfl⟩:=intItems_at hv
 obtain ⟨b1,b2⟩:=argBest_gt (numAt xs.toArray) (xs.toArray.size - 1)
 obtain ⟨c1,c2⟩:=best_at h0 true b1 fun j hj=>by rw [if_pos rfl]; exact b2 j hj
 exact ⟨.int _,H,I.kept hk,⟨t,rfl⟩,h _ c1 c2⟩
end
theorem rd_best {K:PySem.W.Frag} {mx:Bool} {a:Addr} {ns:List Int} {H:Hp} {Q:VK} (e:H a=some (.lst (ns.map V.int))) (hne:ns≠[]) (h:∀ m∈ns,(∀ n∈ns,if mx=true then n≤m else m≤n)→Q (.int m) H):rBestI K mx [.ref a] H Q:=⟨a,ns,rfl,SqL.of e,hne,h⟩
end L2
set_option Elab.async false
set_option linter.all false
set_option maxHeartbeats 4000000
namespace NR
theorem sm_one {n k:Nat} (h:k<n) (c:Int):sm n (fun i=>if i=k then c else 0)=c:=by
 induction n with
 | zero=>omega
 | succ n ih =>
  rw [sm]
  by_cases e:n=k
  ·rw [if_pos e,sm_congr (g:=fun _=>0) (fun i hi=>if_neg (by omega)),sm_zero]; omega
  ·rw [if_neg e,ih (by omega)]; omega
def grid (n m:Nat) (F:Int×Int→Int):Int:=sm n fun x=>sm m fun y=>F ((x:Int),(y:Int))
theorem grid_congr {n m:Nat} {F G:Int×Int→Int} (h:∀ x y:Nat,x<n→y<m→F ((x:Int),(y:Int))=G ((x:Int),(y:Int))):grid n m F=grid n m G:=sm_congr fun x hx=>sm_congr fun y hy=>h x y hx hy
theorem grid_add (n m:Nat) (F G:Int×Int→Int):grid n m (fun q=>F q+G q)=grid n m F+grid n m G:=by
 unfold grid
 rw [sm_congr (g:=fun x=>(sm m fun y=>F ((x:Int),(y:Int)))+sm m fun y=>G ((x:Int),(y:Int))) (fun x _=>sm_add m _ _),sm_add]
theorem grid_zero (n m:Nat):grid n m (fun _=>0)=0:=by
 unfold grid
 rw [sm_congr (g:=fun _=>0) (fun _ _=>sm_zero m),sm_zero]
theorem grid_one {n m a b:Nat} (ha:a<n) (hb:b<m) (c:Int):grid n m (fun q=>if q=((a:Int),(b:Int)) then c else 0)=c:=by
 unfold grid
 rw [sm_congr (g:=fun x=>if x=a then c else 0) (fun x _=>?_),sm_one ha]
 by_cases e:x=a
 ·rw [if_pos e,sm_congr (g:=fun y=>if y=b then c else 0) (fun y _=>?_),sm_one hb]
  dsimp only
  by_cases e2:y=b
  ·rw [if_pos e2,if_pos (by rw [e,e2])]
  ·rw [if_neg e2,if_neg (fun z=>e2 (by have:=congrArg Prod.snd z; dsimp only at this; omega))]
 ·rw [if_neg e,sm_congr (g:=fun _=>0) (fun y _=>if_neg (fun z=>e (by have:=congrArg Prod.fst z; dsimp only at this; omega))),sm_zero]
theorem grid_list {n m:Nat} (F:Int×Int→Int):∀ (S:List (Int×Int)),S.Nodup→(∀ q∈S,(0≤q.1∧q.1<n)∧0≤q.2∧q.2<m)→grid n m (fun q=>if q∈S then F q else 0)=(S.map F).sum
 | [],_,_=>by
  rw [grid_congr (G:=fun _=>0) (fun x y _ _=>if_neg (by simp)),grid_zero]; rfl
 | s::S,hn,hb=>by
  rw [List.nodup_cons] at hn
  obtain ⟨⟨h1,h2⟩,h3,h4⟩:=hb s List.mem_cons_self
  have ih:=grid_list F S hn.2 fun q hq=>hb q (List.mem_cons_of_mem _ hq)
  have es:s=(((s.1.toNat:Nat):Int),((s.2.toNat:Nat):Int)):=Prod.ext (by show s.1=_; omega) (by show s.2=_; omega)
  rw [List.map_cons,List.sum_cons,← ih,← grid_one (n:=n) (m:=m) (a:=s.1.toNat) (b:=s.2.toNat) (by omega) (by omega) (F s),← grid_add]
  refine grid_congr fun x y _ _=>?_
  rw [← es]
  by_cases e:(((x:Nat):Int),((y:Nat):Int))=s
  ·rw [if_pos (by rw [e]; exact List.mem_cons_self),if_pos e,if_neg (by rw [e]; exact hn.1),e]; omega
  ·rw [if_neg e]
   by_cases e2:(((x:Nat):Int),((y:Nat):Int))∈S
   ·rw [if_pos (List.mem_cons_of_mem _ e2),if_pos e2]; omega
   ·rw [if_neg (fun z=>(List.mem_cons.mp z).elim e e2),if_neg e2]; rfl
theorem grid_all {n m:Nat} (F:Int×Int→Int) {S:List (Int×Int)} (hn:S.Nodup) (hb:∀ q∈S,(0≤q.1∧q.1<n)∧0≤q.2∧q.2<m) (h0:∀ x y:Nat,x<n→y<m→((x:Int),(y:Int))∉S→F ((x:Int),(y:Int))=0):(S.map F).sum=grid n m F:=by
 rw [← grid_list F S hn hb]
 refine grid_congr fun x y hx hy=>?_
 by_cases e:((x:Int),(y:Int))∈S
 ·rw [if_pos e]
 ·rw [if_neg e,h0 x y hx hy e]
theorem sm_shift {n:Nat} {f:Int→Int} (h0:f (-1)=0) (h1:f n=0):sm (n+1) (fun i=>f ((i:Int) - 1))=sm (n+1) (fun i=>f (i:Int)):=by
 rw [sm_first,sm]
 have e:sm n (fun i=>f (((i+1:Nat):Int) - 1))=sm n fun i=>f (i:Int):=sm_congr fun i _=>by rw [show ((i+1:Nat):Int) - 1=(i:Int) by omega]
 rw [e,h1,show (((0:Nat):Int) - 1)=-1 by rfl,h0]; omega
theorem sum_const {α:Type} (f:α→Int) (c:Int):∀ (l:List α),(∀ x∈l,f x=c)→(l.map f).sum=c*l.length
 | [],_=>by simp
 | x::l,h=>by
  rw [List.map_cons,List.sum_cons,h x List.mem_cons_self,sum_const f c l fun y hy=>h y (List.mem_cons_of_mem _ hy),List.length_cons,show ((l.length+1:Nat):Int)=(l.length:Int)+1 by omega,Int.mul_add]
  omega
end NR
namespace Sm
end Sm
set_option linter.all false
set_option Elab.async false
set_option maxHeartbeats 4000000
namespace Ar
structure Lp (n:Nat) (D E:Int→Int) (X Y:Nat→Int):Prop where
 n4:4≤n
 ev:n%2=0
 d1:∀ y,D y=1∨D y=-1
 e1:∀ x,E x=1∨E x=-1
 row:∀ i,i%2=0→X (i+1)=X i+D (Y i)∧Y (i+1)=Y i
 col:∀ i,i%2=1→X (i+1)=X i∧Y (i+1)=Y i+E (X i)
 px:∀ i,X (i+n)=X i
 py:∀ i,Y (i+n)=Y i
 inj:∀ i j,i<n→j<n→X i=X j→Y i=Y j→i=j
 least:∀ i,X 0<X i∨X 0=X i∧Y 0≤Y i
 fst:D (Y 0)=1
def sg (x:Int):Fin 3:=if 0<x then 2 else if x=0 then 1 else 0
def tab (a b:Fin 3):Int:=match a.val,b.val with | 2,1=>0 | 2,2=>1 | 1,2=>2 | 0,2=>3 | 0,1=>4 | 0,0=>5 | 2,0=>7 | _,_=>6
def sec (x y:Int):Int:=tab (sg x) (sg y)
def dl (a b:Int):Int:=(b - a+4)%8 - 4
theorem sg_pos {x:Int} (h:0<x):sg x=2:=if_pos h
theorem sg_neg {x:Int} (h:x<0):sg x=0:=(if_neg (by omega)).trans (if_neg (by omega))
theorem sg_one {x:Int} (h:sg x=1):x=0:=by
 rcases Int.lt_trichotomy x 0 with q | q | q
 ·rw [sg_neg q] at h; cases h
 ·exact q
 ·rw [sg_pos q] at h; cases h
theorem sg_up (x:Int):sg (x+1)=sg x∨(sg x).val+1=(sg (x+1)).val:=by
 rcases Int.lt_trichotomy x 0 with q | rfl | q
 ·by_cases h:x+1=0
  ·rw [sg_neg q,h]; exact .inr rfl
  ·rw [sg_neg q,sg_neg (by omega)]; exact .inl rfl
 ·exact .inr rfl
 ·rw [sg_pos q,sg_pos (by omega)]; exact .inl rfl
theorem fin1:∀ a b c:Fin 3,(c=b∨b.val+1=c.val∨c.val+1=b.val)→¬ (a=1∧b=1)→¬ (a=1∧c=1)→-1≤dl (tab a b) (tab a c)∧dl (tab a b) (tab a c)≤1:=by decide +kernel
theorem fin2:∀ a b c:Fin 3,(c=b∨b.val+1=c.val∨c.val+1=b.val)→¬ (b=1∧a=1)→¬ (c=1∧a=1)→-1≤dl (tab b a) (tab c a)∧dl (tab b a) (tab c a)≤1:=by decide +kernel
theorem sg_mv {x y:Int} (h:y=x+1∨y=x - 1):sg y=sg x∨(sg x).val+1=(sg y).val∨(sg y).val+1=(sg x).val:=by
 rcases h with rfl | rfl
 ·exact (sg_up x).imp id .inl
 ·have:=sg_up (x - 1)
  rw [Int.sub_add_cancel] at this
  exact this.imp Eq.symm .inr
theorem near {x y x' y':Int} (h:¬ (x=0∧y=0)) (h':¬ (x'=0∧y'=0)) (u:(x'=x∧(y'=y+1∨y'=y - 1))∨(y'=y∧(x'=x+1∨x'=x - 1))):-1≤dl (sec x y) (sec x' y')∧dl (sec x y) (sec x' y')≤1:=by
 have g:¬ (sg x=1∧sg y=1):=fun z=>h ⟨sg_one z.1,sg_one z.2⟩
 have g':¬ (sg x'=1∧sg y'=1):=fun z=>h' ⟨sg_one z.1,sg_one z.2⟩
 unfold sec
 rcases u with ⟨rfl,u⟩ | ⟨rfl,u⟩
 ·exact fin1 _ _ _ (sg_mv u) g g'
 ·exact fin2 _ _ _ (sg_mv u) g g'
theorem sec_hi:∀ b:Fin 3,tab 2 b=7∨tab 2 b=0∨tab 2 b=1∨tab 2 b=2:=by decide
theorem sec_lo:∀ b:Fin 3,tab 0 b=3∨tab 0 b=4∨tab 0 b=5∨tab 0 b=6:=by decide
theorem sec_h {x y:Int} (h:0<x∨x=0∧0<y):sec x y=7∨sec x y=0∨sec x y=1∨sec x y=2:=by
 unfold sec
 rcases h with h | ⟨rfl,h⟩
 ·rw [sg_pos h]; exact sec_hi _
 ·rw [sg_pos h]; exact .inr (.inr (.inr rfl))
theorem sec_l {x y:Int} (h:x<0∨x=0∧y<0):sec x y=3∨sec x y=4∨sec x y=5∨sec x y=6:=by
 unfold sec
 rcases h with h | ⟨rfl,h⟩
 ·rw [sg_neg h]; exact sec_lo _
 ·rw [sg_neg h]; exact .inr (.inr (.inr rfl))
section
variable (D E:Int→Int) (X Y:Nat→Int)
def tu (i:Nat):Int:=if i%2=0 then D (Y i)*E (X (i+1)) else -(E (X i)*D (Y (i+1)))
def He:Nat→Int
 | 0=>0
 | i+1=>He i+2*tu D E X Y i
def se (i j:Nat):Int:=sec (X j - X i) (Y j - Y i)
def Th (i:Nat):Nat→Int
 | 0=>He D E X Y i
 | k+1=>Th i k+dl (se X Y i (i+1+k)) (se X Y i (i+1+k+1))
end
section
variable {n:Nat} {D E:Int→Int} {X Y:Nat→Int}
theorem Lp.ev2 (L:Lp n D E X Y) {i:Nat} (h:i%2=0):∃ d e,(d=1∨d=-1)∧(e=1∨e=-1)∧D (Y i)=d∧E (X (i+1))=e∧X (i+1)=X i+d∧Y (i+1)=Y i∧X (i+1+1)=X i+d∧Y (i+1+1)=Y i+e∧tu D E X Y i=d*e:=by
 obtain ⟨a1,a2⟩:=L.row i h
 obtain ⟨b1,b2⟩:=L.col (i+1) (by omega)
 refine ⟨_,_,L.d1 (Y i),L.e1 (X (i+1)),rfl,rfl,a1,a2,by omega,by omega,?_⟩
 unfold tu; rw [if_pos h]
theorem Lp.od2 (L:Lp n D E X Y) {i:Nat} (h:i%2=1):∃ d e,(d=1∨d=-1)∧(e=1∨e=-1)∧D (Y (i+1))=d∧E (X i)=e∧X (i+1)=X i∧Y (i+1)=Y i+e∧X (i+1+1)=X i+d∧Y (i+1+1)=Y i+e∧tu D E X Y i=-(e*d):=by
 obtain ⟨a1,a2⟩:=L.col i h
 obtain ⟨b1,b2⟩:=L.row (i+1) (by omega)
 refine ⟨_,_,L.d1 (Y (i+1)),L.e1 (X i),rfl,rfl,a1,a2,by omega,by omega,?_⟩
 unfold tu; rw [if_neg (by omega)]
theorem Lp.unit (L:Lp n D E X Y) (i:Nat):(X (i+1)=X i∧(Y (i+1)=Y i+1∨Y (i+1)=Y i - 1))∨(Y (i+1)=Y i∧(X (i+1)=X i+1∨X (i+1)=X i - 1)):=by
 rcases Nat.mod_two_eq_zero_or_one i with h | h
 ·obtain ⟨a,b⟩:=L.row i h
  rcases L.d1 (Y i) with d | d<;>rw [d] at a
  ·exact .inr ⟨b,.inl a⟩
  ·exact .inr ⟨b,.inr a⟩
 ·obtain ⟨a,b⟩:=L.col i h
  rcases L.e1 (X i) with d | d<;>rw [d] at b
  ·exact .inl ⟨a,.inl b⟩
  ·exact .inl ⟨a,.inr b⟩
theorem sec_turn {d e:Int} (hd:d=1∨d=-1) (he:e=1∨e=-1):(dl (sec d 0) (sec d e)+dl (sec d e) (sec 0 e)=2*(d*e)∧dl (sec 0 e) (sec d e)+dl (sec d e) (sec d 0)=2*-(e*d))∧((sec d 0+2*(d*e) - sec 0 e)%8=0∧(sec 0 e+2*-(e*d) - sec d 0)%8=0):=by
 rcases hd with rfl | rfl<;>rcases he with rfl | rfl<;>decide
theorem Lp.turn (L:Lp n D E X Y) (i:Nat):dl (se X Y i (i+1)) (se X Y i (i+1+1))+dl (se X Y i (i+1+1)) (se X Y (i+1) (i+1+1))=2*tu D E X Y i∧(se X Y i (i+1)+2*tu D E X Y i - se X Y (i+1) (i+1+1))%8=0:=by
 unfold se
 rcases Nat.mod_two_eq_zero_or_one i with h | h
 ·obtain ⟨d,e,hd,he,_,_,h1,h2,h3,h4,h5⟩:=L.ev2 h
  rw [h1,h2,h3,h4,h5,show X i+d - X i=d by omega,show Y i - Y i=0 by omega,show Y i+e - Y i=e by omega,show X i+d - (X i+d)=0 by omega]
  exact ⟨(sec_turn hd he).1.1,(sec_turn hd he).2.1⟩
 ·obtain ⟨d,e,hd,he,_,_,h1,h2,h3,h4,h5⟩:=L.od2 h
  rw [h1,h2,h3,h4,h5,show X i+d - X i=d by omega,show X i - X i=0 by omega,show Y i+e - Y i=e by omega,show Y i+e - (Y i+e)=0 by omega]
  exact ⟨(sec_turn hd he).1.2,(sec_turn hd he).2.2⟩
theorem Lp.he_mod (L:Lp n D E X Y):∀ i,(He D E X Y i - se X Y i (i+1))%8=0
 | 0=>by
  obtain ⟨a,b⟩:=L.row 0 rfl
  unfold se He
  rw [a,b,L.fst,show X 0+1 - X 0=1 by omega,show Y 0 - Y 0=0 by omega]
  rfl
 | i+1=>by
  have ih:=he_mod L i
  have t:=(L.turn i).2
  unfold He
  omega
theorem Lp.th_mod (L:Lp n D E X Y) (i:Nat):∀ k,(Th D E X Y i k - se X Y i (i+1+k))%8=0
 | 0=>L.he_mod i
 | k+1=>by
  have ih:=th_mod L i k
  unfold Th dl
  rw [show i+1+(k+1)=i+1+k+1 by omega]
  omega
theorem Lp.apart (L:Lp n D E X Y) {i j:Nat} (h:i<j) (hj:j≤n) (h0:j=n→i≠0):¬ (X j - X i=0∧Y j - Y i=0):=by
 rintro ⟨a,b⟩
 by_cases e:j=n
 ·have h0:=h0 e
  subst e
  have p:=L.px 0
  have q:=L.py 0
  rw [Nat.zero_add] at p q
  have:=L.inj i 0 (by omega) (by omega) (by omega) (by omega)
  omega
 ·have:=L.inj i j (by omega) (by omega) (by omega) (by omega)
  omega
theorem Lp.nr1 (L:Lp n D E X Y) {i j:Nat} (h:i<j) (hj:j+1≤n) (h0:j+1=n→i≠0):-1≤dl (se X Y i j) (se X Y i (j+1))∧dl (se X Y i j) (se X Y i (j+1))≤1:=by
 unfold se
 refine near (L.apart h (by omega) (by omega)) (L.apart (by omega) hj h0) ?_
 rcases L.unit j with ⟨a,b | b⟩ | ⟨a,b | b⟩
 ·exact .inl ⟨by omega,.inl (by omega)⟩
 ·exact .inl ⟨by omega,.inr (by omega)⟩
 ·exact .inr ⟨by omega,.inl (by omega)⟩
 ·exact .inr ⟨by omega,.inr (by omega)⟩
theorem Lp.nr2 (L:Lp n D E X Y) {i j:Nat} (h:i+1<j) (hj:j≤n) (h0:j=n→i≠0):-1≤dl (se X Y i j) (se X Y (i+1) j)∧dl (se X Y i j) (se X Y (i+1) j)≤1:=by
 unfold se
 refine near (L.apart (by omega) hj h0) (L.apart h hj (by omega)) ?_
 rcases L.unit i with ⟨a,b | b⟩ | ⟨a,b | b⟩
 ·exact .inl ⟨by omega,.inr (by omega)⟩
 ·exact .inl ⟨by omega,.inl (by omega)⟩
 ·exact .inr ⟨by omega,.inr (by omega)⟩
 ·exact .inr ⟨by omega,.inl (by omega)⟩
theorem dl_mod (a b:Int):(dl a b - (b - a))%8=0:=by unfold dl; omega
theorem Lp.th_down (L:Lp n D E X Y) (i:Nat):∀ k,i+2+k≤n→(i+2+k=n→i≠0)→Th D E X Y (i+1) k - Th D E X Y i (k+1)=dl (se X Y i (i+2+k)) (se X Y (i+1) (i+2+k))
 | 0,h,h0=>by
  have t:=(L.turn i).1
  show He D E X Y (i+1) - (He D E X Y i+dl (se X Y i (i+1+0)) (se X Y i (i+1+0+1)))=_
  have:He D E X Y (i+1)=He D E X Y i+2*tu D E X Y i:=rfl
  simp only [Nat.add_zero,show i+2=i+1+1 from rfl]
  omega
 | k+1,h,h0=>by
  have ih:=th_down L i k (by omega) (by omega)
  have e1:Th D E X Y (i+1) (k+1)=Th D E X Y (i+1) k+dl (se X Y (i+1) (i+2+k)) (se X Y (i+1) (i+2+k+1)):=by
   show Th D E X Y (i+1) k+dl (se X Y (i+1) (i+1+1+k)) (se X Y (i+1) (i+1+1+k+1))=_
   rfl
  have e2:Th D E X Y i (k+1+1)=Th D E X Y i (k+1)+dl (se X Y i (i+2+k)) (se X Y i (i+2+k+1)):=by
   show Th D E X Y i (k+1)+dl (se X Y i (i+1+(k+1))) (se X Y i (i+1+(k+1)+1))=_
   rw [show i+1+(k+1)=i+2+k by omega]
  rw [show i+2+(k+1)=i+2+k+1 by omega]
  have n1:=L.nr1 (i:=i) (j:=i+2+k) (by omega) (by omega) (by omega)
  have n2:=L.nr1 (i:=i+1) (j:=i+2+k) (by omega) (by omega) (by omega)
  have n3:=L.nr2 (i:=i) (j:=i+2+k) (by omega) (by omega) (by omega)
  have n4:=L.nr2 (i:=i) (j:=i+2+k+1) (by omega) (by omega) (by omega)
  have m1:=dl_mod (se X Y i (i+2+k)) (se X Y i (i+2+k+1))
  have m2:=dl_mod (se X Y (i+1) (i+2+k)) (se X Y (i+1) (i+2+k+1))
  have m3:=dl_mod (se X Y i (i+2+k)) (se X Y (i+1) (i+2+k))
  have m4:=dl_mod (se X Y i (i+2+k+1)) (se X Y (i+1) (i+2+k+1))
  omega
theorem Lp.last (L:Lp n D E X Y):X (n - 1)=X 0∧Y (n - 1)=Y 0+1∧E (X 0)=-1∧X n=X 0∧Y n=Y 0:=by
 have h4:=L.n4
 have he:=L.ev
 obtain ⟨a,b⟩:=L.col (n - 1) (by omega)
 have p:=L.px 0
 have q:=L.py 0
 rw [Nat.zero_add] at p q
 rw [show n - 1+1=n by omega] at a b
 have l:=L.least (n - 1)
 have hx:X (n - 1)=X 0:=by omega
 rw [hx] at b
 have:=L.e1 (X 0)
 refine ⟨hx,?_,?_,p,q⟩<;>omega
theorem keep4 {t u s:Int} (h:3≤t∧t≤6) (m:(u - s)%8=0) (d:-1≤u - t∧u - t≤1) (z:s=3∨s=4∨s=5∨s=6):3≤u∧u≤6:=by omega
theorem Lp.row0 (L:Lp n D E X Y):∀ k,k+1<n→-1≤Th D E X Y 0 k∧Th D E X Y 0 k≤2
 | 0,_=>by show -1≤(0:Int)∧(0:Int)≤2; omega
 | k+1,h=>by
  have ih:=row0 L k (by omega)
  have n1:=L.nr1 (i:=0) (j:=0+1+k) (by omega) (by omega) (by omega)
  have m:=L.th_mod 0 (k+1)
  rw [show 0+1+(k+1)=0+1+k+1 by omega] at m
  have e:Th D E X Y 0 (k+1)=Th D E X Y 0 k+dl (se X Y 0 (0+1+k)) (se X Y 0 (0+1+k+1)):=rfl
  have l:=L.least (0+1+k+1)
  have ap:=L.apart (i:=0) (j:=0+1+k+1) (by omega) (by omega) (by omega)
  have s:se X Y 0 (0+1+k+1)=7∨se X Y 0 (0+1+k+1)=0∨se X Y 0 (0+1+k+1)=1∨se X Y 0 (0+1+k+1)=2:=by
   exact sec_h (by omega)
  have:=keep4 (t:=Th D E X Y 0 k+4) (u:=Th D E X Y 0 (k+1)+4) (s:=(se X Y 0 (0+1+k+1)+4)%8) (by omega) (by omega) (by rw [e]; omega) (by rcases s with s | s | s | s<;>rw [s]<;>decide)
  omega
theorem Lp.colN (L:Lp n D E X Y) (h1:Th D E X Y 1 (n - 2)=4):∀ i,i+2≤n→3≤Th D E X Y (i+1) (n - 2 - i)∧Th D E X Y (i+1) (n - 2 - i)≤6
 | 0,_=>by show 3≤Th D E X Y 1 (n - 2 - 0)∧_; rw [Nat.sub_zero,h1]; omega
 | i+1,h=>by
  have ih:=colN L h1 i (by omega)
  obtain ⟨_,_,_,pn,qn⟩:=L.last
  have dn:=L.th_down (i+1) (n - 2 - (i+1)) (by omega) (by omega)
  rw [show n - 2 - (i+1)+1=n - 2 - i by omega,show i+1+2+(n - 2 - (i+1))=n by omega] at dn
  have n2:=L.nr2 (i:=i+1) (j:=n) (by omega) (by omega) (by omega)
  have m:=L.th_mod (i+1+1) (n - 2 - (i+1))
  rw [show i+1+1+1+(n - 2 - (i+1))=n by omega] at m
  have l:=L.least (i+1+1)
  have ap:=L.apart (i:=i+1+1) (j:=n) (by omega) (by omega) (by omega)
  have s:se X Y (i+1+1) n=3∨se X Y (i+1+1) n=4∨se X Y (i+1+1) n=5∨se X Y (i+1+1) n=6:=by
   exact sec_l (by omega)
  exact keep4 ih m (by rw [dn]; exact n2) s
theorem Lp.turns (L:Lp n D E X Y):He D E X Y n=8:=by
 have h4:=L.n4
 have he:=L.ev
 obtain ⟨p1,p2,p3,pn,qn⟩:=L.last
 obtain ⟨r1,r2⟩:=L.row 0 rfl
 rw [L.fst] at r1
 have t0:=L.row0 (n - 2) (by omega)
 have m0:=L.th_mod 0 (n - 2)
 rw [show 0+1+(n - 2)=n - 1 by omega] at m0
 have s0:se X Y 0 (n - 1)=2:=by unfold se; rw [p1,p2,show X 0 - X 0=0 by omega,show Y 0+1 - Y 0=1 by omega]; rfl
 have d0:=L.th_down 0 (n - 3) (by omega) (by omega)
 rw [show 0+2+(n - 3)=n - 1 by omega,show n - 3+1=n - 2 by omega,s0] at d0
 have s1:se X Y (0+1) (n - 1)=3:=by unfold se; rw [p1,p2,r1,r2,show X 0 - (X 0+1)=-1 by omega,show Y 0+1 - Y 0=1 by omega]; rfl
 have s2:se X Y 1 n=4:=by unfold se; rw [pn,qn,show (1:Nat)=0+1 from rfl,r1,r2,show X 0 - (X 0+1)=-1 by omega,show Y 0 - Y 0=0 by omega]; rfl
 rw [s1] at d0
 have d0':Th D E X Y 1 (n - 3) - Th D E X Y 0 (n - 2)=1:=d0
 have e1:Th D E X Y 1 (n - 3+1)=Th D E X Y 1 (n - 3)+dl (se X Y 1 (1+1+(n - 3))) (se X Y 1 (1+1+(n - 3)+1)):=rfl
 rw [show n - 3+1=n - 2 by omega,show 1+1+(n - 3)=n - 1 by omega,show n - 1+1=n by omega,s2,show se X Y 1 (n - 1)=3 from s1,show dl 3 4=1 from rfl] at e1
 have c:=L.colN (by omega) (n - 2) (by omega)
 rw [show n - 2+1=n - 1 by omega,show n - 2 - (n - 2)=0 by omega] at c
 have c':3≤He D E X Y (n - 1)∧He D E X Y (n - 1)≤6:=c
 have m:=L.he_mod (n - 1)
 rw [show n - 1+1=n by omega] at m
 have s3:se X Y (n - 1) n=6:=by unfold se; rw [p1,p2,pn,qn,show X 0 - X 0=0 by omega,show Y 0 - (Y 0+1)=-1 by omega]; rfl
 have t:He D E X Y (n - 1+1)=He D E X Y (n - 1)+2*tu D E X Y (n - 1):=rfl
 have tl:tu D E X Y (n - 1)=1:=by
  unfold tu
  rw [if_neg (by omega),p1,p3,show n - 1+1=n by omega,qn,L.fst]; rfl
 rw [show n - 1+1=n by omega,tl] at t
 omega
end
end Ar
set_option linter.all false
set_option Elab.async false
set_option maxHeartbeats 4000000
namespace Ar
section
variable {n:Nat} {D E:Int→Int} {X Y:Nat→Int}
def Ec (E:Int→Int) (X Y:Nat→Int) (x y:Int):Prop:=∃ i,i%2=1∧X i=x∧((Y i=y∧E x=1)∨(Y i=y+1∧E x=-1))
def Er (D:Int→Int) (X Y:Nat→Int) (x y:Int):Prop:=∃ i,i%2=0∧Y i=y∧((X i=x∧D y=1)∨(X i=x+1∧D y=-1))
def On (X Y:Nat→Int) (x y:Int):Prop:=∃ i,X i=x∧Y i=y
theorem Lp.per (L:Lp n D E X Y) (i:Nat):∀ m,X (i+n*m)=X i∧Y (i+n*m)=Y i
 | 0=>⟨rfl,rfl⟩
 | m+1=>by
  have ih:=per L i m
  rw [show i+n*(m+1)=i+n*m+n by rw [Nat.mul_succ]; omega,L.px,L.py]
  exact ih
theorem Lp.low (L:Lp n D E X Y) (i:Nat):X (i%n)=X i∧Y (i%n)=Y i:=by
 have:=L.per (i%n) (i / n)
 rw [Nat.mod_add_div] at this
 exact ⟨this.1.symm,this.2.symm⟩
theorem Lp.par (L:Lp n D E X Y) {i j:Nat} (hx:X i=X j) (hy:Y i=Y j):i%2=j%2:=by
 have h4:=L.n4
 have e:=L.inj (i%n) (j%n) (Nat.mod_lt _ (by omega)) (Nat.mod_lt _ (by omega)) (by rw [(L.low i).1,(L.low j).1,hx]) (by rw [(L.low i).2,(L.low j).2,hy])
 have h2:=L.ev
 have a:=Nat.mod_mod_of_dvd i (show 2 ∣ n by omega)
 have b:=Nat.mod_mod_of_dvd j (show 2 ∣ n by omega)
 rw [← a,← b,e]
theorem Lp.bef (L:Lp n D E X Y) (j:Nat):∃ i,(i+1)%2=j%2∧X (i+1)=X j∧Y (i+1)=Y j:=by
 have h4:=L.n4
 have h2:=L.ev
 refine ⟨j+n - 1,by omega,?_,?_⟩
 ·rw [show j+n - 1+1=j+n by omega,L.px]
 ·rw [show j+n - 1+1=j+n by omega,L.py]
theorem Lp.edges (L:Lp n D E X Y) (j:Nat):(Ec E X Y (X j) (Y j)↔(j%2=0∧E (X j)=-1)∨(j%2=1∧E (X j)=1))∧(Ec E X Y (X j) (Y j - 1)↔(j%2=0∧E (X j)=1)∨(j%2=1∧E (X j)=-1)) ∧
  (Er D X Y (X j) (Y j)↔(j%2=0∧D (Y j)=1)∨(j%2=1∧D (Y j)=-1))∧(Er D X Y (X j - 1) (Y j)↔(j%2=0∧D (Y j)=-1)∨(j%2=1∧D (Y j)=1)):=by
 obtain ⟨b,hb,bx,by'⟩:=L.bef j
 have he:=L.e1 (X j)
 have hd:=L.d1 (Y j)
 refine ⟨⟨?_,?_⟩,⟨?_,?_⟩,⟨?_,?_⟩,⟨?_,?_⟩⟩
 ·rintro ⟨i,hi,ex,⟨ey,e⟩ | ⟨ey,e⟩⟩
  ·have:=L.par ex ey; exact .inr ⟨by omega,e⟩
  ·obtain ⟨c1,c2⟩:=L.col i hi
   rw [ex,e] at c2
   have:=L.par (i:=i+1) (j:=j) (by omega) (by omega); exact .inl ⟨by omega,e⟩
 ·rintro (⟨h,e⟩ | ⟨h,e⟩)
  ·obtain ⟨c1,c2⟩:=L.col b (by omega)
   have ex:X b=X j:=by omega
   rw [ex,e] at c2
   exact ⟨b,by omega,ex,.inr ⟨by omega,e⟩⟩
  ·exact ⟨j,h,rfl,.inl ⟨rfl,e⟩⟩
 ·rintro ⟨i,hi,ex,⟨ey,e⟩ | ⟨ey,e⟩⟩
  ·obtain ⟨c1,c2⟩:=L.col i hi
   rw [ex,e] at c2
   have:=L.par (i:=i+1) (j:=j) (by omega) (by omega); exact .inl ⟨by omega,e⟩
  ·have:=L.par (i:=i) (j:=j) ex (by omega); exact .inr ⟨by omega,e⟩
 ·rintro (⟨h,e⟩ | ⟨h,e⟩)
  ·obtain ⟨c1,c2⟩:=L.col b (by omega)
   have ex:X b=X j:=by omega
   rw [ex,e] at c2
   exact ⟨b,by omega,ex,.inl ⟨by omega,e⟩⟩
  ·exact ⟨j,h,rfl,.inr ⟨by omega,e⟩⟩
 ·rintro ⟨i,hi,ey,⟨ex,e⟩ | ⟨ex,e⟩⟩
  ·have:=L.par ex ey; exact .inl ⟨by omega,e⟩
  ·obtain ⟨c1,c2⟩:=L.row i hi
   rw [ey,e] at c1
   have:=L.par (i:=i+1) (j:=j) (by omega) (by omega); exact .inr ⟨by omega,e⟩
 ·rintro (⟨h,e⟩ | ⟨h,e⟩)
  ·exact ⟨j,h,rfl,.inl ⟨rfl,e⟩⟩
  ·obtain ⟨c1,c2⟩:=L.row b (by omega)
   have ey:Y b=Y j:=by omega
   rw [ey,e] at c1
   exact ⟨b,by omega,ey,.inr ⟨by omega,e⟩⟩
 ·rintro ⟨i,hi,ey,⟨ex,e⟩ | ⟨ex,e⟩⟩
  ·obtain ⟨c1,c2⟩:=L.row i hi
   rw [ey,e] at c1
   have:=L.par (i:=i+1) (j:=j) (by omega) (by omega); exact .inr ⟨by omega,e⟩
  ·have:=L.par (i:=i) (j:=j) (by omega) ey; exact .inl ⟨by omega,e⟩
 ·rintro (⟨h,e⟩ | ⟨h,e⟩)
  ·exact ⟨j,h,rfl,.inr ⟨by omega,e⟩⟩
  ·obtain ⟨c1,c2⟩:=L.row b (by omega)
   have ey:Y b=Y j:=by omega
   rw [ey,e] at c1
   exact ⟨b,by omega,ey,.inl ⟨by omega,e⟩⟩
theorem Lp.off (L:Lp n D E X Y) {x y:Int} (h:¬ On X Y x y):¬ Ec E X Y x y∧¬ Ec E X Y x (y - 1)∧¬ Er D X Y x y∧¬ Er D X Y (x - 1) y:=by
 refine ⟨?_,?_,?_,?_⟩
 ·rintro ⟨i,hi,ex,⟨ey,e⟩ | ⟨ey,e⟩⟩
  ·exact h ⟨i,ex,ey⟩
  ·obtain ⟨c1,c2⟩:=L.col i hi
   rw [ex,e] at c2
   exact h ⟨i+1,by omega,by omega⟩
 ·rintro ⟨i,hi,ex,⟨ey,e⟩ | ⟨ey,e⟩⟩
  ·obtain ⟨c1,c2⟩:=L.col i hi
   rw [ex,e] at c2
   exact h ⟨i+1,by omega,by omega⟩
  ·exact h ⟨i,ex,by omega⟩
 ·rintro ⟨i,hi,ey,⟨ex,e⟩ | ⟨ex,e⟩⟩
  ·exact h ⟨i,ex,ey⟩
  ·obtain ⟨c1,c2⟩:=L.row i hi
   rw [ey,e] at c1
   exact h ⟨i+1,by omega,by omega⟩
 ·rintro ⟨i,hi,ey,⟨ex,e⟩ | ⟨ex,e⟩⟩
  ·obtain ⟨c1,c2⟩:=L.row i hi
   rw [ey,e] at c1
   exact h ⟨i+1,by omega,by omega⟩
  ·exact h ⟨i,by omega,ey⟩
structure Si (D E:Int→Int) (X Y:Nat→Int) (f:Int→Int→Bool) (x0 x1 y0 y1:Int):Prop where
 fh:∀ x y,(f (x - 1) y=f x y↔¬ Ec E X Y x y)
 inb:∀ i,(x0≤X i∧X i≤x1)∧y0≤Y i∧Y i≤y1
 out:∀ x y,f x y=true→(x0≤x∧x<x1)∧y0≤y∧y<y1
variable {f:Int→Int→Bool} {x0 x1 y0 y1:Int}
theorem Si.fv (L:Lp n D E X Y) (S:Si D E X Y f x0 x1 y0 y1) (y:Int):∀ x,(f x (y - 1)=f x y↔¬ Er D X Y x y):=by
 have low:∀ x,x<x0→(f x (y - 1)=f x y↔¬ Er D X Y x y):=fun x hx=>by
  have z:∀ y,f x y=false:=fun y=>by
   cases h:f x y with
   | false=>rfl
   | true=>have:=S.out x y h; omega
  rw [z,z]
  refine ⟨fun _=>?_,fun _=>rfl⟩
  rintro ⟨i,hi,ey,⟨ex,e⟩ | ⟨ex,e⟩⟩
  ·have:=S.inb i; omega
  ·obtain ⟨c1,c2⟩:=L.row i hi
   rw [ey,e] at c1
   have:=S.inb (i+1); omega
 have step:∀ x,(f (x - 1) (y - 1)=f (x - 1) y↔¬ Er D X Y (x - 1) y)→(f x (y - 1)=f x y↔¬ Er D X Y x y):=fun x ih=>by
  have h1:=S.fh x y
  have h2:=S.fh x (y - 1)
  by_cases on:On X Y x y
  ·obtain ⟨j,rfl,rfl⟩:=on
   obtain ⟨a1,a2,a3,a4⟩:=L.edges j
   rw [a1] at h1
   rw [a2] at h2
   rw [a4] at ih
   rw [a3]
   generalize f (X j - 1) (Y j)=p at *
   generalize f (X j - 1) (Y j - 1)=q at *
   generalize f (X j) (Y j)=r at *
   generalize f (X j) (Y j - 1)=s at *
   rcases L.e1 (X j) with e | e<;>rcases L.d1 (Y j) with d | d<;>rcases Nat.mod_two_eq_zero_or_one j with m | m<;>simp [e,d,m] at h1 h2 ih ⊢<;>(revert h1 h2 ih; revert p q r s; decide)
  ·obtain ⟨a1,a2,a3,a4⟩:=L.off on
   have g1:=h1.mpr a1
   have g2:=h2.mpr a2
   have g4:=ih.mpr a4
   exact ⟨fun _=>a3,fun _=>by rw [← g1,← g2,g4]⟩
 intro x
 have key:∀ k:Nat,(f (x0 - 1+k) (y - 1)=f (x0 - 1+k) y↔¬ Er D X Y (x0 - 1+k) y):=by
  intro k
  induction k with
  | zero => exact low _ (by omega)
  | succ k ih =>
   have:=step (x0 - 1+((k+1:Nat):Int))
   rw [show x0 - 1+((k+1:Nat):Int) - 1=x0 - 1+(k:Int) by omega] at this
   exact this ih
 by_cases h:x<x0
 ·exact low x h
 ·have:=key (x - (x0 - 1)).toNat
  rwa [show x0 - 1+(((x - (x0 - 1)).toNat:Nat):Int)=x by omega] at this
def lc (D E:Int→Int) (X Y:Nat→Int) (f:Int→Int→Bool) (i:Nat):Bool :=
 if i%2=0 then (if D (Y i)=1 then f (X i) (Y i) else f (X i - 1) (Y i - 1)) else (if E (X i)=1 then f (X i - 1) (Y i) else f (X i) (Y i - 1))
def bI (b:Bool):Int:=if b=true then 1 else 0
def wt (f:Int→Int→Bool) (x y:Int):Int:=bI (f x y)+bI (f (x - 1) y)+bI (f x (y - 1))+bI (f (x - 1) (y - 1))
theorem Si.on (L:Lp n D E X Y) (S:Si D E X Y f x0 x1 y0 y1) (j:Nat):((f (X j - 1) (Y j)=f (X j) (Y j))↔¬ ((j%2=0∧E (X j)=-1)∨(j%2=1∧E (X j)=1)))∧((f (X j - 1) (Y j - 1)=f (X j) (Y j - 1))↔¬ ((j%2=0∧E (X j)=1)∨(j%2=1∧E (X j)=-1))) ∧
  ((f (X j) (Y j - 1)=f (X j) (Y j))↔¬ ((j%2=0∧D (Y j)=1)∨(j%2=1∧D (Y j)=-1)))∧((f (X j - 1) (Y j - 1)=f (X j - 1) (Y j))↔¬ ((j%2=0∧D (Y j)=-1)∨(j%2=1∧D (Y j)=1))):=by
 obtain ⟨a1,a2,a3,a4⟩:=L.edges j
 rw [← a1,← a2,← a3,← a4]
 exact ⟨S.fh _ _,S.fh _ _,S.fv L _ _,S.fv L _ _⟩
set_option synthInstance.maxSize 2048 in
set_option synthInstance.maxHeartbeats 400000 in
theorem Si.next (L:Lp n D E X Y) (S:Si D E X Y f x0 x1 y0 y1) (i:Nat) (h:lc D E X Y f i=true):lc D E X Y f (i+1)=true∧wt f (X (i+1)) (Y (i+1))=2 - tu D E X Y i:=by
 obtain ⟨a1,a2,a3,a4⟩:=S.on L (i+1)
 unfold wt
 rcases Nat.mod_two_eq_zero_or_one i with m | m
 ·obtain ⟨d,e,hd,he,qd,qe,h1,h2,_,_,h5⟩:=L.ev2 m
  rw [h5]
  unfold lc at h ⊢
  rw [if_pos m,qd] at h
  rw [if_neg (by omega),qe]
  have m1:(i+1)%2=1:=by omega
  simp only [h2,qd,qe,m1] at a1 a2 a3 a4
  rw [h2]
  have hx:X i=X (i+1) - d:=by omega
  rw [hx] at h
  generalize X (i+1)=x at *
  generalize Y i=y at *
  clear h1 hx qd qe h5 h2
  rcases hd with rfl | rfl
  ·rw [if_pos rfl] at h
   rcases he with rfl | rfl
   ·rw [if_pos rfl]
    generalize f x y=p at *
    generalize f (x - 1) y=q at *
    generalize f x (y - 1)=r at *
    generalize f (x - 1) (y - 1)=s at *
    clear S L
    revert a1 a2 a3 a4 h
    revert p q r s
    decide +kernel
   ·rw [if_neg (by decide)]
    generalize f x y=p at *
    generalize f (x - 1) y=q at *
    generalize f x (y - 1)=r at *
    generalize f (x - 1) (y - 1)=s at *
    clear S L
    revert a1 a2 a3 a4 h
    revert p q r s
    decide +kernel
  ·rw [if_neg (by decide),show x - -1 - 1=x by omega] at h
   rcases he with rfl | rfl
   ·rw [if_pos rfl]
    generalize f x y=p at *
    generalize f (x - 1) y=q at *
    generalize f x (y - 1)=r at *
    generalize f (x - 1) (y - 1)=s at *
    clear S L
    revert a1 a2 a3 a4 h
    revert p q r s
    decide +kernel
   ·rw [if_neg (by decide)]
    generalize f x y=p at *
    generalize f (x - 1) y=q at *
    generalize f x (y - 1)=r at *
    generalize f (x - 1) (y - 1)=s at *
    clear S L
    revert a1 a2 a3 a4 h
    revert p q r s
    decide +kernel
 ·obtain ⟨d,e,hd,he,qd,qe,h1,h2,_,_,h5⟩:=L.od2 m
  rw [h5]
  unfold lc at h ⊢
  rw [if_neg (by omega),qe] at h
  rw [if_pos (by omega),qd]
  have m1:(i+1)%2=0:=by omega
  simp only [h1,qd,qe,m1] at a1 a2 a3 a4
  rw [h1]
  have hy:Y i=Y (i+1) - e:=by omega
  rw [hy] at h
  generalize X i=x at *
  generalize Y (i+1)=y at *
  clear h1 hy qd qe h5 h2
  rcases he with rfl | rfl
  ·rw [if_pos rfl] at h
   rcases hd with rfl | rfl
   ·rw [if_pos rfl]
    generalize f x y=p at *
    generalize f (x - 1) y=q at *
    generalize f x (y - 1)=r at *
    generalize f (x - 1) (y - 1)=s at *
    clear S L
    revert a1 a2 a3 a4 h
    revert p q r s
    decide +kernel
   ·rw [if_neg (by decide)]
    generalize f x y=p at *
    generalize f (x - 1) y=q at *
    generalize f x (y - 1)=r at *
    generalize f (x - 1) (y - 1)=s at *
    clear S L
    revert a1 a2 a3 a4 h
    revert p q r s
    decide +kernel
  ·rw [if_neg (by decide),show y - -1=y+1 by omega,show y+1 - 1=y by omega] at h
   rcases hd with rfl | rfl
   ·rw [if_pos rfl]
    generalize f x y=p at *
    generalize f (x - 1) y=q at *
    generalize f x (y - 1)=r at *
    generalize f (x - 1) (y - 1)=s at *
    clear S L
    revert a1 a2 a3 a4 h
    revert p q r s
    decide +kernel
   ·rw [if_neg (by decide)]
    generalize f x y=p at *
    generalize f (x - 1) y=q at *
    generalize f x (y - 1)=r at *
    generalize f (x - 1) (y - 1)=s at *
    clear S L
    revert a1 a2 a3 a4 h
    revert p q r s
    decide +kernel
theorem Si.left (L:Lp n D E X Y) (S:Si D E X Y f x0 x1 y0 y1):∀ i,lc D E X Y f i=true
 | 0=>by
  obtain ⟨a1,a2,a3,a4⟩:=S.on L 0
  obtain ⟨_,_,p3,_,_⟩:=L.last
  unfold lc
  rw [if_pos rfl,if_pos L.fst]
  have z:f (X 0 - 1) (Y 0)=false:=by
   cases h:f (X 0 - 1) (Y 0) with
   | false=>rfl
   | true =>
    -- the least point's left cell is out
    exfalso
    have key:∀ k:Nat,f (X 0 - 1 - (k:Int)) (Y 0)=true:=by
     intro k
     induction k with
     | zero=>rw [show X 0 - 1 - ((0:Nat):Int)=X 0 - 1 by omega]; exact h
     | succ k ih =>
      have:=(S.fh (X 0 - 1 - (k:Int)) (Y 0)).mpr (by
       rintro ⟨i,_,ex,_⟩
       have:=L.least i
       omega)
      rw [show X 0 - 1 - ((k+1:Nat):Int)=X 0 - 1 - (k:Int) - 1 by omega,this]
      exact ih
    have:=S.out _ _ (key (X 0 - x0).toNat)
    have:=S.inb 0
    omega
  rw [z] at a1
  cases h:f (X 0) (Y 0) with
  | true => rfl
  | false => rw [h] at a1; exact absurd (.inl ⟨rfl, p3⟩) (a1.mp rfl)
 | i+1=>(S.next L i (left L S i)).1
theorem Si.wx (L:Lp n D E X Y) (S:Si D E X Y f x0 x1 y0 y1) (i:Nat):wt f (X (i+1)) (Y (i+1))=2 - tu D E X Y i:=(S.next L i (S.left L i)).2
theorem Si.offw (L:Lp n D E X Y) (S:Si D E X Y f x0 x1 y0 y1) {x y:Int} (h:¬ On X Y x y):f (x - 1) y=f x y∧f x (y - 1)=f x y∧f (x - 1) (y - 1)=f x y:=by
 obtain ⟨a1,a2,a3,a4⟩:=L.off h
 have g1:=(S.fh x y).mpr a1
 have g2:=(S.fh x (y - 1)).mpr a2
 have g3:=(S.fv L y x).mpr a3
 exact ⟨g1,g3,g2.trans g3⟩
theorem tu_pm (L:Lp n D E X Y) (i:Nat):tu D E X Y i=1∨tu D E X Y i=-1:=by
 rcases Nat.mod_two_eq_zero_or_one i with m | m
 ·obtain ⟨d,e,hd,he,_,_,_,_,_,_,h5⟩:=L.ev2 m
  rw [h5]
  rcases hd with rfl | rfl<;>rcases he with rfl | rfl<;>decide
 ·obtain ⟨d,e,hd,he,_,_,_,_,_,_,h5⟩:=L.od2 m
  rw [h5]
  rcases hd with rfl | rfl<;>rcases he with rfl | rfl<;>decide
end
end Ar
set_option linter.all false
set_option Elab.async false
set_option maxHeartbeats 4000000
namespace Ar
section
variable {n:Nat} {D E:Int→Int} {X Y:Nat→Int} {f:Int→Int→Bool} {x0 x1 y0 y1:Int}
theorem sum_tel (g:Nat→Int):∀ k,((List.range k).map fun i=>g (i+1)).sum=((List.range k).map g).sum+g k - g 0
 | 0=>by simp
 | k+1=>by
  have ih:=sum_tel g k
  rw [List.range_succ,List.map_append,List.map_append,List.sum_append,List.sum_append,ih]
  simp only [List.map_cons,List.map_nil,List.sum_cons,List.sum_nil]
  omega
theorem sum_he (D E:Int→Int) (X Y:Nat→Int):∀ k:Nat,2*((List.range k).map fun i=>2 - tu D E X Y i).sum=4*(k:Int) - He D E X Y k
 | 0=>by simp [He]
 | k+1=>by
  have ih:=sum_he D E X Y k
  rw [List.range_succ,List.map_append,List.sum_append]
  simp only [List.map_cons,List.map_nil,List.sum_cons,List.sum_nil]
  have:He D E X Y (k+1)=He D E X Y k+2*tu D E X Y k:=rfl
  omega
theorem Si.sumw (L:Lp n D E X Y) (S:Si D E X Y f x0 x1 y0 y1):((List.range n).map fun i=>wt f (X i) (Y i)).sum=2*(n:Int) - 4:=by
 obtain ⟨_,_,_,pn,qn⟩:=L.last
 have t:=sum_tel (fun i=>wt f (X i) (Y i)) n
 have e:((List.range n).map fun i=>wt f (X (i+1)) (Y (i+1)))=(List.range n).map fun i=>2 - tu D E X Y i:=List.map_congr_left fun i _=>S.wx L i
 have h:=sum_he D E X Y n
 rw [L.turns] at h
 rw [e,pn,qn] at t
 omega
def pts (n:Nat) (X Y:Nat→Int):List (Int×Int):=(List.range n).map fun i=>(X i,Y i)
theorem Lp.mem_pts (L:Lp n D E X Y) {q:Int×Int}:q∈pts n X Y↔On X Y q.1 q.2:=by
 unfold pts
 rw [List.mem_map]
 have h4:=L.n4
 constructor
 ·rintro ⟨i,_,rfl⟩; exact ⟨i,rfl,rfl⟩
 ·rintro ⟨i,hx,hy⟩
  exact ⟨i%n,List.mem_range.mpr (Nat.mod_lt _ (by omega)),Prod.ext (by show X (i%n)=q.1; rw [(L.low i).1,hx]) (by show Y (i%n)=q.2; rw [(L.low i).2,hy])⟩
theorem Lp.pts_nd (L:Lp n D E X Y):(pts n X Y).Nodup:=by
 unfold pts List.Nodup
 rw [List.pairwise_map]
 refine List.Pairwise.imp_of_mem (R:=fun a b=>a<b) (fun {i j} hi hj h e=>?_) List.pairwise_lt_range
 rw [List.mem_range] at hi hj
 have:=L.inj i j hi hj (congrArg Prod.fst e) (congrArg Prod.snd e)
 omega
open NR in
theorem Si.area {m:Nat} (L:Lp n D E X Y) (S:Si D E X Y f 0 m 0 m) {C U:List (Int×Int)} (nd:C.Nodup) (hC:∀ q:Int×Int,q∈C↔f q.1 q.2=true) (nu:U.Nodup) (hU:∀ q:Int×Int,q∈U↔¬ On X Y q.1 q.2∧f q.1 q.2=true):4*(C.length:Int)=2*(n:Int) - 4+4*(U.length:Int):=by
 have z:∀ x y,¬ ((0≤x∧x<(m:Int))∧0≤y∧y<(m:Int))→bI (f x y)=0:=fun x y h=>by
  unfold bI
  rw [if_neg fun e=>h (S.out x y e)]
 have g0:grid (m+1) (m+1) (fun q=>bI (f q.1 q.2))=(C.length:Int):=by
  rw [← grid_all (fun q=>bI (f q.1 q.2)) nd (fun q hq=>by have:=S.out _ _ ((hC q).mp hq); omega) (fun x y _ _ h=>by
   unfold bI; rw [if_neg fun e=>h ((hC _).mpr e)])]
  rw [sum_const _ 1 C fun q hq=>by unfold bI; rw [if_pos ((hC q).mp hq)]]
  omega
 have sx:∀ g:Int→Int→Int,(∀ x y,¬ ((0≤x∧x<(m:Int))∧-1≤y∧y<(m:Int))→g x y=0)→grid (m+1) (m+1) (fun q=>g (q.1 - 1) q.2)=grid (m+1) (m+1) (fun q=>g q.1 q.2):=fun g hg=>by
  unfold grid
  refine sm_shift (n:=m) (f:=fun x=>sm (m+1) fun y=>g x (y:Int)) ?_ ?_
  ·show sm (m+1) (fun y=>g (-1) (y:Int))=0
   rw [sm_congr (g:=fun _=>0) fun y _=>hg _ _ (by omega)]
   exact sm_zero _
  ·show sm (m+1) (fun y=>g (m:Int) (y:Int))=0
   rw [sm_congr (g:=fun _=>0) fun y _=>hg _ _ (by omega)]
   exact sm_zero _
 have sy:∀ g:Int→Int→Int,(∀ x y,¬ (-1≤x∧0≤y∧y<(m:Int))→g x y=0)→grid (m+1) (m+1) (fun q=>g q.1 (q.2 - 1))=grid (m+1) (m+1) (fun q=>g q.1 q.2):=fun g hg=>by
  unfold grid
  refine sm_congr fun x _=>?_
  exact sm_shift (n:=m) (f:=fun y=>g (x:Int) y) (hg _ _ (by omega)) (hg _ _ (by omega))
 have g1:grid (m+1) (m+1) (fun q=>bI (f (q.1 - 1) q.2))=(C.length:Int):=by
  rw [← g0]; exact sx (fun x y=>bI (f x y)) fun x y h=>z x y (by omega)
 have g2:grid (m+1) (m+1) (fun q=>bI (f q.1 (q.2 - 1)))=(C.length:Int):=by
  rw [← g0]; exact sy (fun x y=>bI (f x y)) fun x y h=>z x y (by omega)
 have g3:grid (m+1) (m+1) (fun q=>bI (f (q.1 - 1) (q.2 - 1)))=(C.length:Int):=by
  rw [← g1]
  exact sy (fun x y=>bI (f (x - 1) y)) fun x y h=>z _ _ (by omega)
 have gw:grid (m+1) (m+1) (fun q=>wt f q.1 q.2)=4*(C.length:Int):=by
  have e:grid (m+1) (m+1) (fun q=>wt f q.1 q.2)=_:=grid_add (m+1) (m+1) (fun q=>bI (f q.1 q.2)+bI (f (q.1 - 1) q.2)+bI (f q.1 (q.2 - 1))) (fun q=>bI (f (q.1 - 1) (q.2 - 1)))
  rw [grid_add,grid_add,g0,g1,g2,g3] at e
  omega
 have gs:grid (m+1) (m+1) (fun q=>wt f q.1 q.2)=grid (m+1) (m+1) (fun q=>(if q∈pts n X Y then wt f q.1 q.2 else 0)+(if q∈U then 4 else 0)):=grid_congr fun x y hx hy=>by
  dsimp only
  by_cases on:On X Y (x:Int) (y:Int)
  ·rw [if_pos (L.mem_pts.mpr on),if_neg fun h=>((hU _).mp h).1 on]; omega
  ·rw [if_neg fun h=>on (L.mem_pts.mp h)]
   obtain ⟨a1,a2,a3⟩:=S.offw L on
   unfold wt
   rw [a1,a2,a3]
   cases hf:f (x:Int) (y:Int) with
   | true=>rw [if_pos ((hU _).mpr ⟨on,hf⟩)]; rfl
   | false=>rw [if_neg fun h=>by have:=((hU _).mp h).2; dsimp only at this; rw [hf] at this; cases this]; rfl
 rw [grid_add,grid_list (fun q=>wt f q.1 q.2) _ L.pts_nd fun q hq=>by
  obtain ⟨i,hx,hy⟩:=L.mem_pts.mp hq
  have:=S.inb i
  omega,grid_list (fun _=>4) U nu fun q hq=>by have:=S.out _ _ ((hU q).mp hq).2; omega,sum_const _ 4 U fun _ _=>rfl] at gs
 have e:((pts n X Y).map fun q=>wt f q.1 q.2).sum=2*(n:Int) - 4:=by
  rw [← S.sumw L]
  unfold pts
  rw [List.map_map]; rfl
 omega
theorem ext {U V:Nat→Int} {a b:Int→Int} {κ:Int} {inn:Int→Int→Prop} (hh:∀ i,a (U i) - b (V i) - κ=1∨a (U i) - b (V i) - κ=-1) (hin:∀ i,a (U i) - b (V i) - κ=-1→inn (U i) (V i))
  (st:∀ i,(V (i+1)=V i∧(U (i+1)=U i+1∨U (i+1)=U i - 1))∨U (i+1)=U i) (pr:∀ u u' v,(u'=u+1∨u'=u - 1)→inn u v→a u' - b v - κ<1→inn u' v) {c:Int} (no:∀ v,¬ inn c v) {i:Nat} (hc:U i=c) :
  ∀ k,b (V (i+k))≤b (V i)∧∀ x,(c≤x∧x≤U (i+k))∨(U (i+k)≤x∧x≤c)→a x≤a c:=by
 have h1:a c - b (V i) - κ=1:=by
  have:=hh i
  rw [hc] at this
  rcases this with h | h
  ·exact h
  ·have:=hin i (by rw [hc]; exact h)
   rw [hc] at this
   exact absurd this (no _)
 intro k
 induction k with
 | zero=>exact ⟨Int.le_refl _,fun x hx=>by rw [Nat.add_zero,hc] at hx; rw [show x=c by omega]; exact Int.le_refl _⟩
 | succ k ih =>
  obtain ⟨ih1,ih2⟩:=ih
  have hk:=hh (i+k+1)
  rcases st (i+k) with ⟨e1,e2⟩ | e
  ·rw [show i+(k+1)=i+k+1 by omega,e1]
   rw [e1] at hk
   refine ⟨ih1,fun x hx=>?_⟩
   by_cases hx':x=U (i+k+1)
   ·rw [hx']; omega
   ·exact ih2 x (by omega)
  ·rw [show i+(k+1)=i+k+1 by omega,e]
   rw [e] at hk
   refine ⟨?_,ih2⟩
   by_cases hb:b (V (i+k+1))≤b (V i)
   ·exact hb
   ·exfalso
    have hu:=ih2 (U (i+k)) (by omega)
    have h2:a (U (i+k)) - b (V (i+k+1)) - κ=-1:=by omega
    have i1:inn (U (i+k)) (V (i+k+1)):=by
     have:=hin (i+k+1) (by rw [e]; exact h2)
     rwa [e] at this
    have go:∀ (j:Nat) (x:Int),(c≤x∧x≤U (i+k)∧x=U (i+k) - j)∨(U (i+k)≤x∧x≤c∧x=U (i+k)+j)→inn x (V (i+k+1)):=by
     intro j
     induction j with
     | zero=>intro x hx; rw [show x=U (i+k) by omega]; exact i1
     | succ j ihj =>
      intro x hx
      have hx2:=ih2 x (by omega)
      rcases hx with hx | hx
      ·exact pr (x+1) x _ (by omega) (ihj (x+1) (by omega)) (by omega)
      ·exact pr (x - 1) x _ (by omega) (ihj (x - 1) (by omega)) (by omega)
    exact no _ (go (c - U (i+k)).natAbs c (by omega))
def acc (E:Int→Int):Nat→Int
 | 0=>0
 | k+1=>acc E k+E (k:Int)+E ((k+1:Nat):Int)
def A2 (E:Int→Int) (x:Int):Int:=acc E x.toNat
theorem A2_succ (E:Int→Int) {x:Int} (h:0≤x):A2 E (x+1)=A2 E x+E x+E (x+1):=by
 obtain ⟨k,rfl⟩:∃ k:Nat,x=k:=⟨x.toNat,by omega⟩
 unfold A2
 rw [show ((k:Int)+1).toNat=k+1 by omega,Int.toNat_natCast]
 rfl
theorem A2_mod {E:Int→Int} (e1:∀ x,E x=1∨E x=-1) {x:Int} (h:0≤x):(A2 E x - E x - 2*x+E 0)%4=0:=by
 obtain ⟨k,rfl⟩:∃ k:Nat,x=k:=⟨x.toNat,by omega⟩
 unfold A2
 rw [Int.toNat_natCast]
 clear h
 induction k with
 | zero=>show ((0:Int) - E ((0:Nat):Int) - 2*((0:Nat):Int)+E 0)%4=0; rw [show (((0:Nat):Int))=0 from rfl]; omega
 | succ k ih =>
  have:acc E (k+1)=acc E k+E (k:Int)+E ((k+1:Nat):Int):=rfl
  have:=e1 (k:Int)
  omega
theorem A2_mv {E:Int→Int} {x d:Int} (h:0≤x) (h':0≤x+d) (hd:d=1∨d=-1):A2 E (x+d) - A2 E x=d*(E x+E (x+d)):=by
 rcases hd with rfl | rfl
 ·rw [A2_succ E h]; omega
 ·have:=A2_succ E h'
  rw [show x+-1+1=x by omega] at this
  omega
theorem Lp.lev (L:Lp n D E X Y) (hp:∀ i,0≤X i∧0≤Y i):∃ κ,∀ i,A2 E (X (i+1)) - A2 D (Y (i+1)) - κ=tu D E X Y i:=by
 refine ⟨A2 E (X 1) - A2 D (Y 1) - tu D E X Y 0,fun i=>?_⟩
 induction i with
 | zero=>show A2 E (X 1) - A2 D (Y 1) - _=_; omega
 | succ i ih =>
  have h1:=hp (i+1)
  have h2:=hp (i+1+1)
  rcases Nat.mod_two_eq_zero_or_one i with m | m
  ·obtain ⟨d,e,hd,he,qd,qe,a1,a2,a3,a4,t1⟩:=L.ev2 m
   obtain ⟨d',e',hd',he',qd',qe',b1,b2,b3,b4,t2⟩:=L.od2 (i:=i+1) (by omega)
   have mv:=A2_mv (E:=D) (x:=Y (i+1)) (d:=e) h1.2 (by omega) he
   rw [t1] at ih
   rw [t2]
   have ee:e'=e:=qe'.symm.trans qe
   subst ee
   rw [b1,b2]
   rw [b2] at qd'
   rw [qd',a2,qd] at mv
   rw [a2] at ih ⊢
   rw [a2] at b2
   rw [Int.mul_add] at mv
   rw [Int.mul_comm d] at ih
   omega
  ·obtain ⟨d,e,hd,he,qd,qe,a1,a2,a3,a4,t1⟩:=L.od2 m
   obtain ⟨d',e',hd',he',qd',qe',b1,b2,b3,b4,t2⟩:=L.ev2 (i:=i+1) (by omega)
   have mv:=A2_mv (E:=E) (x:=X (i+1)) (d:=d) h1.1 (by omega) hd
   rw [t1] at ih
   rw [t2]
   have ee:d'=d:=qd'.symm.trans qd
   subst ee
   rw [b1,b2]
   rw [b1] at qe'
   rw [qe',a1,qe] at mv
   rw [a1] at ih ⊢
   rw [Int.mul_add] at mv
   rw [Int.mul_comm e] at ih
   omega
theorem w31:∀ F a b:Bool,3≤bI F+bI a+bI F+bI b→3≤bI F+bI F+bI F+bI F:=by decide
theorem w32:∀ F a b:Bool,3≤bI a+bI F+bI b+bI F→3≤bI F+bI F+bI F+bI F:=by decide
theorem w33:∀ F a b:Bool,3≤bI F+bI F+bI a+bI b→3≤bI F+bI F+bI F+bI F:=by decide
theorem w34:∀ F a b:Bool,3≤bI a+bI b+bI F+bI F→3≤bI F+bI F+bI F+bI F:=by decide
theorem w35:∀ a b:Bool,¬ 3≤bI a+bI false+bI b+bI false:=by decide
theorem w36:∀ a b:Bool,¬ 3≤bI false+bI a+bI false+bI b:=by decide
theorem w37:∀ a b:Bool,¬ 3≤bI a+bI b+bI false+bI false:=by decide
theorem w38:∀ a b:Bool,¬ 3≤bI false+bI false+bI a+bI b:=by decide
theorem Lp.reach (L:Lp n D E X Y) (i j:Nat):∃ k,X (i+k+1)=X (j+1)∧Y (i+k+1)=Y (j+1):=by
 have h4:=L.n4
 have:=L.per (j+1) i
 have hm:i≤n*i:=Nat.le_mul_of_pos_left _ (by omega)
 exact ⟨j+n*i - i,by rw [show i+(j+n*i - i)+1=j+1+n*i by omega]; exact this.1,by rw [show i+(j+n*i - i)+1=j+1+n*i by omega]; exact this.2⟩
theorem Lp.shift (L:Lp n D E X Y) (j:Nat):∃ i,X (i+1)=X j∧Y (i+1)=Y j:=let ⟨i,_,h⟩:=L.bef j; ⟨i,h⟩
theorem Si.odd (L:Lp n D E X Y) (S:Si D E X Y f x0 x1 y0 y1) (h0:0≤x0) (h0':0≤y0) (a0:∃ i,X i=x0) (a1:∃ i,X i=x1) (b0:∃ i,Y i=y0) (b1:∃ i,Y i=y1):(x1 - x0)%2=1∧(y1 - y0)%2=1:=by
 obtain ⟨κ,lv⟩:=L.lev fun i=>by have:=S.inb i; omega
 have out:∀ x y,¬ ((x0≤x∧x<x1)∧y0≤y∧y<y1)→f x y=false:=fun x y h=>by
  cases hf:f x y with
  | false => rfl
  | true => exact absurd (S.out x y hf) h
 have prow:∀ u u' v,(u'=u+1∨u'=u - 1)→3≤wt f u v→A2 E u' - A2 D v - κ<1→3≤wt f u' v:=fun u u' v hu hi hl=>by
  by_cases on:On X Y u' v
  ·obtain ⟨j,rfl,rfl⟩:=on
   obtain ⟨i,e1,e2⟩:=L.shift j
   have:=lv i
   have w:=S.wx L i
   have t:=tu_pm L i
   rw [e1,e2] at this w
   omega
  ·obtain ⟨g1,g2,g3⟩:=S.offw L on
   unfold wt at hi ⊢
   rw [g1,g2,g3]
   rcases hu with rfl | rfl
   ·rw [show u+1 - 1=u by omega] at g1 g3
    rw [g1,g3] at hi
    exact w31 _ _ _ hi
   ·rw [g2] at hi
    exact w32 _ _ _ hi
 have pcol:∀ u u' v,(u'=u+1∨u'=u - 1)→3≤wt f v u→A2 E v - A2 D u' - κ<1→3≤wt f v u':=fun u u' v hu hi hl=>by
  by_cases on:On X Y v u'
  ·obtain ⟨j,rfl,rfl⟩:=on
   obtain ⟨i,e1,e2⟩:=L.shift j
   have:=lv i
   have w:=S.wx L i
   have t:=tu_pm L i
   rw [e1,e2] at this w
   omega
  ·obtain ⟨g1,g2,g3⟩:=S.offw L on
   unfold wt at hi ⊢
   rw [g1,g2,g3]
   rcases hu with rfl | rfl
   ·rw [show u+1 - 1=u by omega] at g2 g3
    rw [g2,g3] at hi
    exact w33 _ _ _ hi
   ·rw [g1] at hi
    exact w34 _ _ _ hi
 have hh:∀ i,A2 E (X (i+1)) - A2 D (Y (i+1)) - κ=1∨A2 E (X (i+1)) - A2 D (Y (i+1)) - κ=-1:=fun i=>by rw [lv i]; exact tu_pm L i
 have hin:∀ i,A2 E (X (i+1)) - A2 D (Y (i+1)) - κ=-1→3≤wt f (X (i+1)) (Y (i+1)):=fun i h=>by rw [lv i] at h; rw [S.wx L i]; omega
 have nox0:∀ y,¬ 3≤wt f x0 y:=fun y=>by
  unfold wt
  rw [out (x0 - 1) y (by omega),out (x0 - 1) (y - 1) (by omega)]
  exact w35 _ _
 have nox1:∀ y,¬ 3≤wt f x1 y:=fun y=>by
  unfold wt
  rw [out x1 y (by omega),out x1 (y - 1) (by omega)]
  exact w36 _ _
 have noy0:∀ x,¬ 3≤wt f x y0:=fun x=>by
  unfold wt
  rw [out x (y0 - 1) (by omega),out (x - 1) (y0 - 1) (by omega)]
  exact w37 _ _
 have noy1:∀ x,¬ 3≤wt f x y1:=fun x=>by
  unfold wt
  rw [out x y1 (by omega),out (x - 1) y1 (by omega)]
  exact w38 _ _
 have tone:∀ i,¬ 3≤wt f (X (i+1)) (Y (i+1))→tu D E X Y i=1:=fun i h=>by
  rw [S.wx L i] at h
  have:=tu_pm L i
  omega
 have ex:∀ c,(∀ y,¬ 3≤wt f c y)→∀ i,X (i+1)=c→∀ j,A2 D (Y (j+1))≤A2 D (Y (i+1)):=fun c no i hc j=>by
  obtain ⟨k,e1,e2⟩:=L.reach i j
  have:=(ext (U:=fun i=>X (i+1)) (V:=fun i=>Y (i+1)) (a:=A2 E) (b:=A2 D) (κ:=κ) (inn:=fun u v=>3≤wt f u v) hh hin
   (fun i=>(L.unit (i+1)).elim (fun h=>.inr h.1) fun h=>.inl h) prow no hc k).1
  rw [e2] at this
  exact this
 have ey:∀ c,(∀ x,¬ 3≤wt f x c)→∀ i,Y (i+1)=c→∀ j,-A2 E (X (j+1))≤-A2 E (X (i+1)):=fun c no i hc j=>by
  obtain ⟨k,e1,e2⟩:=L.reach i j
  have:=(ext (U:=fun i=>Y (i+1)) (V:=fun i=>X (i+1)) (a:=fun y=>-A2 D y) (b:=fun x=>-A2 E x) (κ:=κ) (inn:=fun u v=>3≤wt f v u) (fun i=>by have:=hh i; omega) (fun i h=>hin i (by omega))
   (fun i=>(L.unit (i+1)).elim (fun h=>.inl h) fun h=>.inr h.1) (fun u u' v h1 h2 h3=>pcol u u' v h1 h2 (by omega)) no hc k).1
  rw [e1] at this
  exact this
 obtain ⟨j,rfl⟩:=a0
 obtain ⟨i0,p1,p2⟩:=L.shift j
 obtain ⟨j',rfl⟩:=a1
 obtain ⟨i1,q1,q2⟩:=L.shift j'
 obtain ⟨k,rfl⟩:=b0
 obtain ⟨k0,r1,r2⟩:=L.shift k
 obtain ⟨k',rfl⟩:=b1
 obtain ⟨k1,s1,s2⟩:=L.shift k'
 have odC:∀ j,∃ i,i%2=1∧X i=X j:=fun j=>by
  rcases Nat.mod_two_eq_zero_or_one j with m | m
  ·obtain ⟨b,hb,bx,_⟩:=L.bef j
   exact ⟨b,by omega,by rw [← bx]; exact (L.col b (by omega)).1.symm⟩
  ·exact ⟨j,m,rfl⟩
 have evR:∀ j,∃ i,i%2=0∧Y i=Y j:=fun j=>by
  rcases Nat.mod_two_eq_zero_or_one j with m | m
  ·exact ⟨j,m,rfl⟩
  ·obtain ⟨b,hb,_,by'⟩:=L.bef j
   exact ⟨b,by omega,by rw [← by']; exact (L.row b (by omega)).2.symm⟩
 have E0:E (X j)=-1:=by
  obtain ⟨i,hi,e⟩:=odC j
  have l:=S.left L i
  unfold lc at l
  rw [if_neg (by omega),e] at l
  by_cases c:E (X j)=1
  ·rw [if_pos c,out _ _ (by omega)] at l; cases l
  ·have:=L.e1 (X j); omega
 have E1:E (X j')=1:=by
  obtain ⟨i,hi,e⟩:=odC j'
  have l:=S.left L i
  unfold lc at l
  rw [if_neg (by omega),e] at l
  by_cases c:E (X j')=1
  ·exact c
  ·rw [if_neg c,out _ _ (by omega)] at l; cases l
 have D0:D (Y k)=1:=by
  obtain ⟨i,hi,e⟩:=evR k
  have l:=S.left L i
  unfold lc at l
  rw [if_pos hi,e] at l
  by_cases c:D (Y k)=1
  ·exact c
  ·rw [if_neg c,out _ _ (by omega)] at l; cases l
 have D1:D (Y k')=-1:=by
  obtain ⟨i,hi,e⟩:=evR k'
  have l:=S.left L i
  unfold lc at l
  rw [if_pos hi,e] at l
  by_cases c:D (Y k')=1
  ·rw [if_pos c,out _ _ (by omega)] at l; cases l
  ·have:=L.d1 (Y k'); omega
 have t0:=tone i0 (by rw [p1]; exact nox0 _)
 have t1:=tone i1 (by rw [q1]; exact nox1 _)
 have u0:=tone k0 (by rw [r2]; exact noy0 _)
 have u1:=tone k1 (by rw [s2]; exact noy1 _)
 have v0:=ex _ nox0 i0 p1 i1
 have v1:=ex _ nox1 i1 q1 i0
 have w0:=ey _ noy0 k0 r2 k1
 have w1:=ey _ noy1 k1 s2 k0
 have l0:=lv i0
 have l1:=lv i1
 have l2:=lv k0
 have l3:=lv k1
 rw [p1] at l0
 rw [q1] at l1
 rw [r2] at l2
 rw [s2] at l3
 have B0:=S.inb j'
 have B1:=S.inb k'
 have m0:=A2_mod L.e1 (x:=X j) h0
 have m1:=A2_mod L.e1 (x:=X j') (by omega)
 have m2:=A2_mod L.d1 (x:=Y k) h0'
 have m3:=A2_mod L.d1 (x:=Y k') (by omega)
 constructor<;>omega
end
end Ar
set_option Elab.async false
set_option linter.all false
set_option maxRecDepth 100000
set_option maxHeartbeats 4000000
namespace L2
open PySem PySem.Spec PyProof.Rows PySem.W
end L2
set_option Elab.async false
set_option linter.all false
set_option maxHeartbeats 4000000
namespace Sm
section
variable {nb nb':Pnt→List Pnt}
end
end Sm
set_option Elab.async false
set_option linter.all false
set_option maxRecDepth 100000
set_option maxHeartbeats 4000000
namespace L2
open PySem PySem.Spec PyProof.Rows
end L2
set_option Elab.async false
set_option linter.all false
set_option maxRecDepth 100000
set_option maxHeartbeats 4000000
namespace L2
open PySem PySem.Spec PyProof.Rows PySem.W
section
variable {X:Cx} {pins:List (Addr×Obj)} {σ:St} {H H':Hp} {s:Shared} {h':Heap}
end
def ViewAt (T:String) (v d:Addr) (h:Heap):Prop:=∃ o,h.get? v=some o∧o.cls=.type T∧o.data=.fields #[.ref d]
def ViewO (T:String) (v d:Addr):HO:=.ext (ViewAt T v d)
theorem view_ok {P:Program} {w:World} {H:Hp} {h:Heap} {T:String} {d:Addr}:ObjOk P w H (h.push { cls:=.type T,data:=.fields #[.ref d] }) h.objs.size (ViewO T h.objs.size d) :=
 ⟨⟨_,Heap.get?_push_size _ rfl,rfl,rfl⟩,⟨_,Heap.get?_push_size _ rfl⟩,fun h1 h2 ⟨o,e,r⟩ k=>⟨o,k o e,r⟩⟩
def rView (T:String):V→List V→Hp→VK→Prop:=fun x xs H Q=>∃ d kvs,x=.ref d∧xs=[]∧H d=some (.dK kvs)∧∀ v,H v=none→Q (.ref v) (upd H v (ViewO T v d))
section
variable {X:Cx}
theorem mt_items:MtR X "dict.items" (rView "dict_items"):=by
 intro pins s σ H x xs v us Q I rx rs h
 obtain ⟨d,kvs,rfl,rfl,hd,q⟩:=h
 cases (show v=Value.ref d from rx)
 cases rs
 obtain ⟨_,lo,vs,_,dd⟩:=dk_of I.hok hd
 exact call_meetsIn PySem.F.slot_dict_items dd.typeIs PySem.F.entry_dict_items (PySem.F.args_dict_items_1 _) (meets_dict_items (mixKind X.prog X.w) d lo)
  ⟨⟨vs,dd⟩,.ref s.heap.objs.size,_,I.laid (a:=s.heap.objs.size) (o:=ViewO "dict_items" s.heap.objs.size d) (t':=s.toks) (fun b u e=>Heap.get?_push_of_some _ e) (Nat.le_refl _) view_ok,rfl,q _ (I.hok.fresh (Nat.le_refl _))⟩
end
theorem kv_get {κ:Type}:∀ {kvs:List (κ×V)} {vs:List (κ×Value)} {i:Nat} {k:κ} {u:Value},KV kvs vs→vs[i]?=some (k,u)→∃ x,kvs[i]?=some (k,x)∧RelV x u
 | _,_,_,_,_,.nil,e=>by simp at e
 | _,_,0,k,u,.cons (a:=p) r t,e=>by
  (simp only [List.getElem?_cons_zero,Option.some.injEq] at e; subst e)
  exact ⟨p.2,congrArg some (Prod.ext r.1 rfl),r.2⟩
 | _,_,i+1,k,u,.cons r t,e=>by
  obtain ⟨x,h1,h2⟩:=kv_get (i:=i) t (by simpa using e)
  exact ⟨x,by simpa using h1,h2⟩
theorem key_rel {P:Program} {w:World} {k:Key} {u:Value} (h:(mixKind P w).is k u=true):RelV (kV k) u:=by
 rcases keyIs_shape (show keyIs k u=true from h) with ⟨i,t,rfl,rfl⟩ | ⟨x,t,rfl,rfl⟩
 ·exact ⟨t,rfl⟩
 ·exact ⟨t,rfl⟩
theorem rd_viewv {H:Hp} {Q:VK} {T:String} {d:Addr} {kvs:List (Key×V)} (hd:H d=some (.dK kvs)) (q:∀ v,H v=none→Q (.ref v) (upd H v (ViewO T v d))):rView T (.ref d) [] H Q:=⟨d,kvs,rfl,rfl,hd,q⟩
theorem rd_bmD {K:PySem.W.Frag} {H:Hp} {d:Addr} {kvs:List (Key×V)} {q:Prop} (hd:H d=some (.dK kvs)) (hq:q):rBM K "dict" (.ref d) H q:=⟨.inr (.inr (.inl ⟨rfl,.inl ⟨kvs,hd⟩⟩)),hq⟩
end L2
set_option Elab.async false
set_option linter.all false
set_option maxRecDepth 100000
set_option maxHeartbeats 4000000
namespace L2
open PySem PySem.Spec PyProof.Rows PySem.W
section
variable {prog:Program} {w:World} {A:Around} {E:Value→Shared→Prop} {s:Shared} {d it:Addr} {es:Array DictEntry} {ep i n:Nat}
end
end L2
set_option Elab.async false
set_option linter.all false
set_option maxRecDepth 100000
set_option maxHeartbeats 4000000
namespace L2
open PySem PySem.Spec PyProof.Rows PySem.W
end L2
set_option linter.all false
set_option Elab.async false
set_option maxHeartbeats 4000000
namespace Fm
abbrev Strip:=List L2.Key
abbrev Tie:=Strip×Strip×Int
inductive Con (F:List Tie):Strip→Strip→Prop
 | refl (a:Strip):Con F a a
 | fwd {a b c:Strip} {w:Int}:Con F a b→(b,c,w)∈F→Con F a c
 | bwd {a b c:Strip} {w:Int}:Con F a b→(c,b,w)∈F→Con F a c
section
variable {F:List Tie} {v:Strip→Int} {G:Strip→Strip×Int} {D:List Strip}
end
end Fm
set_option Elab.async false
set_option linter.all false
set_option maxRecDepth 100000
set_option maxHeartbeats 4000000
namespace L2
open PySem PySem.Spec PyProof.Rows PySem.W
theorem rd_dnewK {σ:St} {H:Hp} {Q:VK} (h:∀ p,H p=none→Q (.ref p) (upd H p (.dK []))):tDNewK σ H Q:=h
def rIsD (x:V) (H:Hp) (q:Addr→Prop):Prop:=∃ a,x=.ref a∧IsD H a∧q a
theorem rd_isDK {H:Hp} {a:Addr} {kvs:List (Key×V)} {q:Addr→Prop} (h:H a=some (.dK kvs)) (k:q a):rIsD (.ref a) H q:=⟨a,rfl,.inl ⟨kvs,.inl h⟩,k⟩
def sx (i:Int):List Key:=[.inr "x",.inl i]
def sy (i:Int):List Key:=[.inr "y",.inl i]
theorem valV_mem {κ:Type} [DecidableEq κ] {kvs:List (κ×V)} {k:κ}:(valV kvs k).isSome=true↔k∈kvs.map (·.1):=by
 rw [← valV_any,List.any_eq_true]
 constructor
 ·rintro ⟨p,hp,e⟩; exact List.mem_map.mpr ⟨p,hp,of_decide_eq_true e⟩
 ·intro h
  obtain ⟨p,hp,e⟩:=List.mem_map.mp h
  exact ⟨p,hp,decide_eq_true e⟩
def ButL (S:List Addr) (H H':Hp):Prop:=∀ b o,H b=some o→b∉S→H' b=some o
theorem ButL.refl (S:List Addr) (H:Hp):ButL S H H:=fun _ _ e _=>e
theorem Same.butL {H H':Hp} (s:Same H H') (S:List Addr):ButL S H H':=fun b o e _=>s b o e
theorem ButL.trans {S:List Addr} {H H1 H2:Hp} (a:ButL S H H1) (b:ButL S H1 H2):ButL S H H2:=fun c o e n=>b c o (a c o e n) n
theorem ButL.upd {S:List Addr} {H H1:Hp} {p:Addr} {o:HO} (a:ButL S H H1) (h:p∈S):ButL S H (L2.upd H1 p o):=fun c o' e n=>by
 rw [upd_ne (fun z=>n (by rw [z]; exact h))]; exact a c o' e n
end L2
set_option Elab.async false
set_option linter.all false
set_option maxRecDepth 100000
set_option maxHeartbeats 4000000
namespace L2
open PySem PySem.Spec PyProof.Rows
end L2
set_option Elab.async false
set_option linter.all false
set_option maxRecDepth 100000
set_option maxHeartbeats 4000000
namespace L2
open PySem PySem.Spec PyProof.Rows PySem.W
def FzAt (P:Program) (w:World) (d:Addr) (kvs:List (Key×V)) (vs:List (Key×Value)) (ep:Nat) (h:Heap):Prop:=kvs.length≤sizeLine∧(d==sysModules)=false∧KV kvs vs∧h.DictAt (mixKind P w) d vs ep
def FzO (P:Program) (w:World) (d:Addr) (kvs:List (Key×V)) (vs:List (Key×Value)) (ep:Nat):HO:=.ext (FzAt P w d kvs vs ep)
def IsFz (P:Program) (w:World) (d:Addr) (kvs:List (Key×V)) (F:HO):Prop:=∃ vs ep,F=FzO P w d kvs vs ep
theorem IsFz.ext {P:Program} {w:World} {d:Addr} {kvs:List (Key×V)} {F:HO} (h:IsFz P w d kvs F):∃ φ,F=.ext φ:=let ⟨_,_,e⟩:=h; ⟨_,e⟩
section
variable {X:Cx} {pins:List (Addr×Obj)} {σ:St} {H:Hp} {s:Shared} {d:Addr} {kvs:List (Key×V)} {vs:List (Key×Value)} {ep:Nat}
theorem Inv.freeze (I:Inv X pins σ H s) (hd:H d=some (.dK kvs)):∃ vs ep,Inv X pins σ (upd H d (FzO X.prog X.w d kvs vs ep)) s∧s.heap.DictAt (mixKind X.prog X.w) d vs ep:=by
 obtain ⟨z,lo,vs,rel,dd⟩:=dk_of I.hok hd
 obtain ⟨ep,at'⟩:=dd.dictAt
 obtain ⟨o,es,ho,r⟩:=id at'
 exact ⟨vs,ep,I.write (e:=d) (t':=s.toks) (h':=s.heap) (by rw [hd]; trivial) (.inl rfl) (fun _ _ _ q=>q) ⟨o,ho⟩ ⟨⟨z,lo,rel,at'⟩,⟨o,ho⟩,fun h1 h2 ⟨a1,a2,a3,a4⟩ k=>⟨a1,a2,a3,a4.at' k⟩⟩,at'⟩
theorem Inv.thaw {F:HO} (I:Inv X pins σ H s) (hF:IsFz X.prog X.w d kvs F) (hd:H d=some F):Inv X pins σ (upd H d (.dK kvs)) s:=by
 obtain ⟨vs,ep,rfl⟩:=hF
 obtain ⟨⟨z,lo,rel,at'⟩,⟨o,ho⟩,_⟩:=(show ObjOk X.prog X.w H s.heap d (.ext (FzAt X.prog X.w d kvs vs ep)) from I.hok d _ hd)
 exact I.write (e:=d) (t':=s.toks) (h':=s.heap) (by rw [hd]; trivial) (.inl rfl) (fun _ _ _ q=>q) ⟨o,ho⟩ ⟨z,lo,vs,rel,at'.dictOf⟩
end
def Thaw (P:Program) (w:World) (H1 H2:Hp):Prop:=∃ d kvs F,IsFz P w d kvs F∧H1 d=some F∧H2=upd H1 d (.dK kvs)
def tThawS (P:Program) (w:World) (ts:TS):TS:=fun D σ H=>ts { D with nx:=fun σ1 H1=>∃ H2,Thaw P w H1 H2∧D.nx σ1 H2 } σ H
theorem ps_thaw {X:Cx} {st:Stmt} {ts:TS} (h:PS X st ts):PS X st (tThawS X.prog X.w ts):=by
 intro pins s σ H D I q
 refine wpAny_mono (h pins s σ H _ I q) (fun f s1 q1=>?_) fun _ _ z=>z
 cases f with
 | next =>
  obtain ⟨σ',H',I',H2,⟨d,kvs,F,hF,hd,rfl⟩,q2⟩:=q1
  exact ⟨σ',_,I'.thaw hF hd,q2⟩
 | brk=>exact q1
 | cont=>exact q1
 | ret u=>exact q1
theorem rd_thawS {P:Program} {w:World} {ts:TS} {D:Ends} {σ:St} {H:Hp} (h:ts { D with nx:=fun σ1 H1=>∃ H2,Thaw P w H1 H2∧D.nx σ1 H2 } σ H):tThawS P w ts D σ H:=h
def Iti (d:Addr) (F:HO) (kvs:List (Key×V)):It :=
 ⟨fun i H=>H d=some F∧i<kvs.length,fun i H x H'=>∃ b k v,kvs[i]?=some (k,v)∧x=.ref b∧H b=none∧H'=upd H b (.tup [kV k,v]),fun i H=>H d=some F∧kvs.length≤i⟩
theorem turn_items {P:Program} {w:World} {K:PySem.W.Frag} {elts:List Expr} {kt:Nat} {pt:Pos} (d it:Addr) (kvs:List (Key×V)) (vs:List (Key×Value)) (ep:Nat) :
    Turn P w K (.Tuple elts kt pt) (Iti d (FzO P w d kvs vs ep) kvs) [it] it (fun i h=>∃ ok ov,IsItemIter h it d i vs.length ep ok ov) where
  mem:=by simp
  obj:=fun i h st b hb=>by
    have e:b=it:=by simpa using hb
    subst e
    obtain ⟨ok,ov,e⟩:=st
    exact ⟨_,e,fun v z=>by cases z⟩
  keep:=fun i h h' ⟨ok,ov,e⟩ k=>⟨ok,ov,k it (by simp) _ e⟩
  item:=by
    intro X hP hw hK hc i pins s σ H E I hf st hg
    subst hP hw hK
    obtain ⟨hd,hi⟩:=hg
    obtain ⟨ok,ov,st⟩:=st
    obtain ⟨⟨z,lo,rel,at'⟩,_,_⟩:=(show ObjOk X.prog X.w H s.heap d (.ext (FzAt X.prog X.w d kvs vs ep)) from I.hok d _ hd)
    have hl:i<vs.length:=by rw [← rel.length]; exact hi
    obtain ⟨⟨k,u⟩,hu⟩:∃ q,vs[i]?=some q:=⟨_,List.getElem?_eq_getElem hl⟩
    obtain ⟨x,hx,ru⟩:=kv_get rel hu
    have lti:it<s.heap.objs.size:=Heap.lt_size st
    refine wpAny_pyNext_items_item st at' hu fun key h' hkey ho hT hsz hk=>?_
    refine ⟨_,rfl,wpAny_letOwnedTupleGo_items (s:={ s with heap:=h' }) ho fun h2 he2 hs=>?_⟩
    have kk:∀ c o,c∉[it]→s.heap.get? c=some o→h2.get? c=some o:=fun c o hc e=>by
      rw [List.mem_singleton] at hc
      exact hs.extBut c o hc (hk c o hc e)
    have qT:=hs.extBut _ _ (Ne.symm (Nat.ne_of_lt lti)) hT
    have I1:Inv X pins σ (upd H s.heap.objs.size (.tup [kV k,x])) { s with heap:=h2 }:=I.turnedL (t':=s.toks) (ch:=[it]) kk hf (fun c hc=>by
        rw [List.mem_singleton] at hc
        subst hc
        exact ⟨_,he2⟩) (Nat.le_refl _) ⟨by show 2≤sizeLine; decide,[key,u],.cons (key_rel hkey) (.cons ru .nil),_,qT,rfl,_,rfl⟩
    refine ⟨.ref s.heap.objs.size,_,I1,rfl,⟨_,k,x,hx,rfl,I.hok.fresh (Nat.le_refl _),rfl⟩,⟨_,_,he2⟩,fun c hc=>?_⟩
    have ec:=List.mem_singleton.mp hc
    subst ec
    rw [upd_ne (Nat.ne_of_lt lti)]
    exact (hf c hc).1
  done:=by
    intro X hP hw hK hc i pins s σ H E I hf st hg
    subst hP hw hK
    obtain ⟨hd,hi⟩:=hg
    obtain ⟨ok,ov,st⟩:=st
    obtain ⟨⟨z,lo,rel,at'⟩,_,_⟩:=(show ObjOk X.prog X.w H s.heap d (.ext (FzAt X.prog X.w d kvs vs ep)) from I.hok d _ hd)
    obtain ⟨f0,f1,f2,f3,f4,f5⟩:=hf it (by simp)
    exact wpAny_pyNext_items_end (I.ok.hd hc) st at' (List.getElem?_eq_none (by rw [← rel.length]; exact hi)) fun h' eb=>⟨rfl,I.turned (t':=s.toks) (fun b o hb e=>eb b o hb e) f0 f1 f3 f4 f5⟩
  self:=fun _ _ _ _ _ ⟨_,_,st⟩ h=>kcp_self st h
def iItems (P:Program) (w:World) (tl:TE):TI:=fun σ H R=>tl σ H fun x H1=>∃ v d kvs,x=.ref v∧H1 v=some (ViewO "dict_items" v d)∧H1 d=some (.dK kvs)∧∀ F,IsFz P w d kvs F→R (Iti d F kvs) (upd H1 d F)
theorem pi_items {X:Cx} {elts:List Expr} {kt:Nat} {pt:Pos} {l:Expr} {tl:TE} (hl:PE X l tl):PI X (.Tuple elts kt pt) l (iItems X.prog X.w tl):=by
 intro pins s σ H R I h
 refine thn (hl pins s σ H _ I h) fun v s1 ⟨x,H1,I1,r1,q1⟩=>?_
 obtain ⟨vw,d,kvs,e,hv,hd,q⟩:=q1
 subst e
 cases r1
 obtain ⟨vs,ep,I2,at'⟩:=I1.freeze hd
 have vv:s1.heap.IsItemsView vw d:=(show ObjOk X.prog X.w H1 s1.heap vw (.ext (ViewAt "dict_items" vw d)) from I1.hok vw _ hv).1
 refine wpAny_pyIter_items vv at' ?_
 refine ⟨s1.heap.objs.size,[s1.heap.objs.size],_,_,_,rfl,I2.kept (t':=s1.toks) fun b o e=>Heap.get?_push_of_some _ e,turn_items d _ kvs vs ep,⟨_,_,Heap.get?_push_size _ rfl⟩,fun b hb=>?_,q _ ⟨vs,ep,rfl⟩⟩
 have e:b=s1.heap.objs.size:=by simpa using hb
 subst e
 exact I2.fpOk (Nat.le_refl _) (I2.hok.fresh (Nat.le_refl _))
theorem rd_iitems {P:Program} {w:World} {tl:TE} {σ:St} {H:Hp} {R:It→Hp→Prop} (h:tl σ H fun x H1=>∃ v d kvs,x=.ref v∧H1 v=some (ViewO "dict_items" v d)∧H1 d=some (.dK kvs)∧∀ F,IsFz P w d kvs F→R (Iti d F kvs) (upd H1 d F)):iItems P w tl σ H R:=h
theorem forW_items {σ:St} {H:Hp} {d:Addr} {F:HO} {kvs:List (Key×V)} {g:TG} {tb:TS} {D:Ends} (Pv:Nat→St→Hp→Prop) (h0:Pv 0 σ H) (hl:∀ i σ H,i≤kvs.length→Pv i σ H→H d=some F)
  (hs:∀ i k v b σ H,kvs[i]?=some (k,v)→Pv i σ H→H b=none→g (.ref b) σ (upd H b (.tup [kV k,v])) fun σ2 H2=>tb { D with nx:=Pv (i+1),ct:=Pv (i+1),bk:=D.nx } σ2 H2) (hd:∀ σ H,Pv kvs.length σ H→D.nx σ H):ForW (Iti d F kvs) g tb D σ H:=by
 refine ⟨fun i m σ H=>m=kvs.length - i∧i≤kvs.length∧Pv i σ H,⟨kvs.length,by simp,Nat.zero_le _,h0⟩,?_⟩
 rintro i m σ H ⟨rfl,hi,p⟩
 have q:=hl i σ H hi p
 by_cases hlt:i<kvs.length
 ·refine .inr ⟨⟨q,hlt⟩,Pv (i+1),fun σ' H' p'=>⟨kvs.length - (i+1),by omega,rfl,hlt,p'⟩,fun x H' y=>?_⟩
  obtain ⟨b,k,v,hk,rfl,hb,rfl⟩:=y
  exact hs i k v b σ _ hk p hb
 ·have e:i=kvs.length:=by omega
  subst e
  exact .inl ⟨⟨q,Nat.le_refl _⟩,hd σ H p⟩
end L2
namespace L2
open PySem PySem.Spec PyProof.Rows PySem.W
end L2
namespace L2
open PySem PySem.Spec PyProof.Rows PySem.W
section
variable {K:PySem.W.Frag} {H:Hp} {Q:VK}
end
end L2
set_option Elab.async false
set_option linter.all false
set_option maxRecDepth 100000
set_option maxHeartbeats 4000000
namespace L2
open PySem PySem.Spec PyProof.Rows PySem.W
section
variable {K:PySem.W.Frag} {σ:St} {H:Hp} {Q:VK} {te:TE} {tt:TT} {cap:List (Option Nat)} {l:Addr}
end
end L2
namespace L2
open PySem PySem.Spec PyProof.Rows PySem.W
theorem rd_rng2 {σ:St} {H:Hp} {ta:TA} {R:It→Hp→Prop} (h:ta σ H fun vs H1=>∃ i j:Int,vs=[.int i,.int j]∧(-(2 ^ 62)≤i∧i<2 ^ 62∧-(2 ^ 62)≤j∧j<2 ^ 62)∧R (Itr i (j - i).toNat) H1):iRng2 ta σ H R:=h
end L2
set_option Elab.async false
set_option linter.all false
set_option maxRecDepth 100000
set_option maxHeartbeats 4000000
namespace L2
open PySem PySem.Spec PyProof.Rows PySem.W
end L2
set_option Elab.async false
set_option linter.all false
set_option maxRecDepth 100000
set_option maxHeartbeats 4000000
namespace PySem
end PySem
set_option Elab.async false
set_option linter.all false
set_option maxRecDepth 100000
set_option maxHeartbeats 4000000
namespace PyProof.Rows
open PySem PySem.Spec
section
variable {prog:Program} {w:World} {A:Around} {R:Result→Shared→Prop} {I:Addr} {fp wr:List Addr} {G:Array GenState→Array GenState→Prop} {n:Nat} {P:Nat→Value→Prop} {St:Nat→Shared→Prop} {K:Type} [DecidableEq K] {knd:PySem.KeyKind prog w K}
end
end PyProof.Rows
set_option Elab.async false
set_option linter.all false
set_option maxRecDepth 100000
set_option maxHeartbeats 4000000
namespace PySem
open PySem.Spec PyProof.Rows
section
variable {prog:Program} {w:World} {K:Type} [DecidableEq K] {knd:KeyKind prog w K} {A:Around} {E:Value→Shared→Prop} {s:Shared}
end
end PySem
set_option Elab.async false
set_option linter.all false
set_option maxRecDepth 100000
set_option maxHeartbeats 4000000
namespace L2
open PySem PySem.Spec PyProof.Rows PySem.W
section
variable {X:Cx} {pins:List (Addr×Obj)} {σ:St} {H:Hp} {s:Shared}
end
end L2
set_option Elab.async false
set_option linter.all false
set_option maxRecDepth 100000
set_option maxHeartbeats 4000000
namespace L2
open PySem PySem.Spec PyProof.Rows
end L2
set_option Elab.async false
set_option linter.all false
set_option maxRecDepth 100000
namespace L2
open PySem PySem.Spec PyProof.Rows
section
variable {K:PySem.W.Frag} {x qual:Str} {st:Stmt} {f:Addr} {fd:FuncData}
theorem Fun.b1 {p0:Str} (F:Fun K x qual st f fd) (h:∀ (kV doc pm:Value) (an:Option Addr) (cdv ct a0:Value),bindArgs (PySem.W.fnOf x qual (defArgs st) (defBody st) (defScope st) .none kV doc pm an cdv ct) ⟨[a0],[]⟩=pure [(p0,a0)]):Binds K fd [p0] [] :=
 F.binds fun kV doc pm an cdv ct us hl=>by obtain ⟨a0,rfl⟩:=len1 hl; exact h kV doc pm an cdv ct a0
theorem Fun.b2 {p0 p1:Str} (F:Fun K x qual st f fd) (h:∀ (kV doc pm:Value) (an:Option Addr) (cdv ct a0 a1:Value),bindArgs (PySem.W.fnOf x qual (defArgs st) (defBody st) (defScope st) .none kV doc pm an cdv ct) ⟨[a0,a1],[]⟩=pure [(p0,a0),(p1,a1)]):Binds K fd [p0,p1] [] :=
 F.binds fun kV doc pm an cdv ct us hl=>by obtain ⟨a0,a1,rfl⟩:=len2 hl; exact h kV doc pm an cdv ct a0 a1
theorem Fun.b3 {p0 p1 p2:Str} (F:Fun K x qual st f fd) (h:∀ (kV doc pm:Value) (an:Option Addr) (cdv ct a0 a1 a2:Value),bindArgs (PySem.W.fnOf x qual (defArgs st) (defBody st) (defScope st) .none kV doc pm an cdv ct) ⟨[a0,a1,a2],[]⟩=pure [(p0,a0),(p1,a1),(p2,a2)]):Binds K fd [p0,p1,p2] [] :=
 F.binds fun kV doc pm an cdv ct us hl=>by obtain ⟨a0,a1,a2,rfl⟩:=len3 hl; exact h kV doc pm an cdv ct a0 a1 a2
theorem Fun.b4 {p0 p1 p2 p3:Str} (F:Fun K x qual st f fd) (h:∀ (kV doc pm:Value) (an:Option Addr) (cdv ct a0 a1 a2 a3:Value),bindArgs (PySem.W.fnOf x qual (defArgs st) (defBody st) (defScope st) .none kV doc pm an cdv ct) ⟨[a0,a1,a2,a3],[]⟩=pure [(p0,a0),(p1,a1),(p2,a2),(p3,a3)]):Binds K fd [p0,p1,p2,p3] [] :=
 F.binds fun kV doc pm an cdv ct us hl=>by obtain ⟨a0,a1,a2,a3,rfl⟩:=len4 hl; exact h kV doc pm an cdv ct a0 a1 a2 a3
theorem Fun.b5 {p0 p1 p2 p3 p4:Str} (F:Fun K x qual st f fd) (h:∀ (kV doc pm:Value) (an:Option Addr) (cdv ct a0 a1 a2 a3 a4:Value),bindArgs (PySem.W.fnOf x qual (defArgs st) (defBody st) (defScope st) .none kV doc pm an cdv ct) ⟨[a0,a1,a2,a3,a4],[]⟩=pure [(p0,a0),(p1,a1),(p2,a2),(p3,a3),(p4,a4)]):Binds K fd [p0,p1,p2,p3,p4] [] :=
 F.binds fun kV doc pm an cdv ct us hl=>by obtain ⟨a0,a1,a2,a3,a4,rfl⟩:=len5 hl; exact h kV doc pm an cdv ct a0 a1 a2 a3 a4
theorem Fun.bl {p:Str} (F:Fun K x qual st f fd) (h:∀ (kV doc pm:Value) (an:Option Addr) (cdv ct a:Value),bindArgs (PySem.W.fnOf x qual (defArgs st) (defBody st) (defScope st) .none kV doc pm an cdv ct) ⟨[a],[]⟩=pure [(p,a)]) (s:Shared) (v:Value):BindsTo s fd ⟨[v],[]⟩ [(p,v)]:=by
 obtain ⟨_,_,kV,doc,pm,an,cdv,ct,_,rfl,_,_⟩:=F.ex
 exact .of_eq (h kV doc pm an cdv ct v)
end
theorem FnScope.by {N P:List Str} {sc:Scope} (h1:sc.kind=.function:=by rfl) (h2:sc.isCoroutine=false:=by rfl) (h3:sc.isGenerator=false:=by rfl) (h4:N.Nodup:=by decide +kernel) (h5:N.take P.length=P:=by rfl) (h6:∀ x∈P,sc.names.lookup x=some .local∨sc.names.lookup x=some .cell:=by decide +kernel) (h7:∀ y∈sc.names,y.2≠.free:=by decide +kernel):FnScope N P sc:=⟨h1,h2,h3,h4,h5,h6,h7⟩
end L2
set_option Elab.async false
set_option linter.all false
set_option maxRecDepth 100000
set_option maxHeartbeats 4000000
namespace L2
open PySem PySem.Spec PyProof.Rows PySem.W
section
variable {prog:Program} {w:World} {κ:Type} [DecidableEq κ] {knd:KeyKind prog w κ} {A:Around} {E:Value→Shared→Prop} {s:Shared} {d:Addr} {kvs:List (κ×Value)} {k:κ} {key v:Value}
theorem sdK_new {Q:Value→Shared→Prop} (hkey:knd.is k key=true) (hm:s.heap.DictOf knd d kvs) (hz:kvs.length≤sizeLine) (no:k∉kvs.map (·.1))
  (q:∀ h',h'.DictOf knd d (kvs++[(k,v)])→Heap.SameBut d s.heap h'→Q v { s with heap:=h',toks:=s.toks+1 }):wpAny (model prog w) A (dictSetDefault d key v) Q E s:=by
 obtain ⟨o,es,ep,ho,hc,hd,hk,hp,hn⟩:=hm
 have se:es.size≤sizeLine:=by
  have:=hp.length
  rw [Array.length_toList] at this
  omega
 have nf:(es.findIdx? fun e=>knd.is k e.key)=none:=by
  have e1:(es.toList.findIdx? fun e=>knd.is k e.key)=kvs.findIdx? fun kv=>decide (kv.1=k):=hp.findIdx k
  have e2:(es.findIdx? fun e=>knd.is k e.key)=es.toList.findIdx? fun e=>knd.is k e.key:=by obtain ⟨l⟩:=es; simp
  rw [e2,e1,List.findIdx?_eq_none_iff]
  intro kv hkv
  exact decide_eq_false fun z=>no (List.mem_map.mpr ⟨kv,hkv,z⟩)
 unfold dictSetDefault
 (try with_reducible refine wpAny_holding ?_)
 refine wpAny_bind (knd.pyHash hkey (wpAny_bind (wpAny_dictFind_of (s:={ s with toks:=s.toks+1 }) hkey ho hd hk ?_)))
 rw [nf]
 refine wpAny_bind (wpAny_rule (wpAny_bind (wpAny_updateDictKeys (hz:=se) (s:={ s with toks:=s.toks+1 }) ho hd (wpAny_pure (q _ ⟨_,_,ep+1,Heap.get?_update_self _ ho (Obj.isFreed_of_dict (Obj.data_mapDictKeys hd _)),hc.mapDictKeys _,Obj.data_mapDictKeys hd _,hk.push hkey _,?_,?_⟩ (Heap.SameBut.update ..))))))
 ·obtain ⟨l⟩:=es
  simp only [List.push_toArray]
  exact hp.append hkey _ v
 ·rw [List.map_append,List.nodup_append]
  exact ⟨hn,by simp,fun x hx y hy z=>no (by rw [List.map_singleton,List.mem_singleton] at hy; rw [← (show y=k from hy),← z]; exact hx)⟩
theorem sdK_meets (hkey : knd.is k key = true) (hd : (d == sysModules) = false) : MeetsIn prog w (Builtin.«dict.setdefault» ⟨[.ref d, key, v], []⟩) (fun _ R s => ∃ kvs, s.heap.DictOf knd d kvs ∧ kvs.length ≤ sizeLine ∧
      (∀ u,valueAt kvs k=some u→R (.ok (.ret u)) { s with toks:=s.toks+1 }) ∧
      (k∉kvs.map (·.1)→∀ h',h'.DictOf knd d (kvs++[(k,v)])→Heap.SameBut d s.heap h'→R (.ok (.ret v)) { s with heap:=h',toks:=s.toks+1 })) :=
  .of_wp fun A R s ⟨kvs,hm,hz,h1,h2⟩=>by
    have ti:=hm.typeIs
    unfold Builtin.«dict.setdefault» Builtin.Dict.keyAndDefault
    (refine wpAny_bind (wpAny_bind (wpAny_notOrdered_dict ti ?_)); show wpAny _ _ (pure (d,key,some v)) _ _ s; refine wpAny_pure ?_)
    (show wpAny _ _ (if (d==sysModules)=true then _ else (dictSetDefault d key v >>= _)) _ _ s; rw [if_neg (by rw [hd]; exact Bool.false_ne_true)])
    by_cases hk:k∈kvs.map (·.1)
    · have hz':s.heap.DictLe d sizeLine:=by
        obtain ⟨o,es,ep,ho,_,hdd,_,hp,_⟩:=id hm
        intro o' es' ep' ho' hd'
        rw [ho] at ho'
        cases ho'
        rw [hdd] at hd'
        cases hd'
        have:=hp.length
        rw [Array.length_toList] at this
        omega
      refine wpAny_bind (wpAny_dictSetDefault_of (hz:=hz') hkey hm.mapOf (fun u hu=>wpAny_pure ⟨u,rfl,h1 u hu⟩) fun hn=>?_)
      exfalso
      unfold valueAt at hn
      rw [Option.map_eq_none_iff,List.find?_eq_none] at hn
      obtain ⟨kv,hkv,e⟩:=List.mem_map.mp hk
      exact hn kv hkv (decide_eq_true e)
    · exact wpAny_bind (sdK_new hkey hm hz hk fun h' hm' hs'=>wpAny_pure ⟨v,rfl,h2 hk h' hm' hs'⟩)
end
theorem kv_snoc {κ:Type} {k:κ} {z:V} {r:Value} (rz:RelV z r):∀ {kvs:List (κ×V)} {vs:List (κ×Value)},KV kvs vs→KV (kvs++[(k,z)]) (vs++[(k,r)])
 | _,_,.nil=>.cons ⟨rfl,rz⟩ .nil
 | _,_,.cons a t=>.cons a (kv_snoc rz t)
section
variable {X:Cx} {pins:List (Addr×Obj)} {σ:St} {H:Hp} {s:Shared} {a:Addr} {z:V} {r u:Value} {A:Around} {E:Value→Shared→Prop} {kvs:List (Key×V)} {k:Key}
theorem d_setdK {Q:Value→Shared→Prop} (I:Inv X pins σ H s) (e:H a=some (.dK kvs)) (ry:RelV (kV k) u) (hl:kvs.length<sizeLine) (rz:RelV z r)
    (h1:∀ v,valV kvs k=some v→∀ w' s',Inv X pins σ H s'→RelV v w'→Q w' s') (h2:valV kvs k=none→∀ s',Inv X pins σ (upd H a (.dK (putK kvs k z))) s'→Q r s') :
    wpAny (model X.prog X.w) A (call (.builtin "dict.setdefault") [.ref a,u,r]) Q E s:=by
  obtain ⟨zl,hd,vs,rel,dd⟩:=dk_of I.hok e
  have hl':(putK kvs k z).length≤sizeLine:=by have:=length_putK kvs k z; omega
  have rv:=rel.val k
  refine call_meetsIn PySem.F.slot_dict_setdefault dd.typeIs PySem.F.entry_dict_setdefault (PySem.F.args_dict_setdefault_3 _ _ _) (sdK_meets (knd:=mixKind X.prog X.w) (kV_is ry) hd)
    ⟨vs,dd,by rw [← rel.length]; exact zl,fun p hp=>?_,fun hp h' dd' hs=>?_⟩
  · rw [hp] at rv
    cases hv:valV kvs k with
    | none=>rw [hv] at rv; exact absurd rv (by intro z; cases z)
    | some v =>
      rw [hv] at rv
      exact h1 v hv _ _ (I.tok _) rv
  · have hv:valV kvs k=none:=by
      cases hv:valV kvs k with
      | none=>rfl
      | some v =>
        exfalso
        rw [hv] at rv
        cases hq:valueAt vs k with
        | none=>rw [hq] at rv; exact rv
        | some q =>
          unfold valueAt at hq
          obtain ⟨kv,h3,_⟩:=Option.map_eq_some_iff.mp hq
          have h4:=List.find?_some h3
          exact hp (List.mem_map.mpr ⟨kv,List.mem_of_find?_eq_some h3,of_decide_eq_true h4⟩)
    have he:∃ q,h'.get? a=some q:=let ⟨q,_,_,hq,_⟩:=dd'; ⟨q,hq⟩
    have es:putK kvs k z=kvs++[(k,z)]:=putK_new z hv
    refine h2 hv _ (d_write I (by rw [e]; exact True.intro) hs he (dk_new hl' hd ?_ dd'))
    rw [es]
    exact kv_snoc rz rel
end
def tDSetdK (td ty tx:TE):TE:=fun σ H Q=>td σ H fun x H1=>∃ a,x=.ref a∧IsD H1 a∧ty σ H1 fun y H2=>tx σ H2 fun z H3=>∃ kvs k,y=kV k∧H3 a=some (.dK kvs)∧kvs.length<sizeLine ∧
 (∀ v,valV kvs k=some v→Q v H3)∧(valV kvs k=none→Q z (upd H3 a (.dK (putK kvs k z))))
theorem pe_dsetdK {X:Cx} {o e f:Expr} {apos cpos:Pos} {td ty tx:TE} (ho:PE X o td) (he:PE X e ty) (hf:PE X f tx) (m:M2 X o "setdefault" apos e f cpos):PE X (.Call (.Attribute o "setdefault" apos) [e,f] [] cpos) (tDSetdK td ty tx):=by
 intro pins s σ H Q I h
 refine wpAny_Call_method m.base m.few m.line PySem.F.plainAttrs_dict PySem.F.slot_dict_setdefault PySem.F.type_dict_setdefault (thn (ho pins s σ H _ I h) fun u s1 ⟨x,H1,I1,rx,a,ex,d,q1⟩=>?_)
 subst ex
 obtain rfl:u=Value.ref a:=rx
 obtain ⟨t1,t2,_⟩:=isD_at I1 d
 refine ⟨t1,t2,?_⟩
 rw [m.trees]
 refine Calls.callWith_builtin rfl (Calls.evalArgs_plain (Calls.spliced_cons (thn (he pins s1 σ H1 _ I1 q1) fun iv s2 ⟨y,H2,I2,ry,q2⟩ =>
  Calls.spliced_cons (thn (hf pins s2 σ H2 _ I2 q2) fun fv s3 ⟨z,H3,I3,rz,kvs,k,ey,e3,hl,k1,k2⟩=>Calls.spliced_nil ?_))))
 subst ey
 exact d_setdK I3 e3 ry hl rz (fun v hv w' s4 I4 rw'=>⟨v,H3,I4,rw',k1 v hv⟩) fun hv s4 I4=>⟨z,_,I4,rz,k2 hv⟩
theorem rd_dsetdK {td ty tx:TE} {σ:St} {H:Hp} {Q:VK} (h:td σ H fun x H1=>rIsD x H1 fun a=>ty σ H1 fun y H2=>tx σ H2 fun z H3=>∃ kvs k,y=kV k∧H3 a=some (.dK kvs)∧kvs.length<sizeLine ∧
 (∀ v,valV kvs k=some v→Q v H3)∧(valV kvs k=none→Q z (upd H3 a (.dK (putK kvs k z))))):tDSetdK td ty tx σ H Q:=h
theorem valV_at {κ:Type} [DecidableEq κ]:∀ {kvs:List (κ×V)} {i:Nat} {k:κ} {v:V},(kvs.map (·.1)).Nodup→kvs[i]?=some (k,v)→valV kvs k=some v
 | [],i,k,v,_,h=>by simp at h
 | (k',v')::r,0,k,v,_,h=>by
  simp only [List.getElem?_cons_zero,Option.some.injEq,Prod.mk.injEq] at h
  obtain ⟨rfl,rfl⟩:=h
  exact valV_pos rfl
 | (k',v')::r,i+1,k,v,nd,h=>by
  rw [List.map_cons,List.nodup_cons] at nd
  have h:r[i]?=some (k,v):=by simpa using h
  rw [valV_neg (fun z=>nd.1 (by rw [z]; exact List.mem_map.mpr ⟨_,List.mem_of_getElem? h,rfl⟩))]
  exact valV_at nd.2 h
end L2
set_option linter.all false
set_option Elab.async false
set_option maxHeartbeats 4000000
namespace Wn
abbrev Pnt:=Int×Int
def gt (M:List Pnt) (k:Nat):Pnt:=M.getD k (0,0)
def pv (n k:Nat):Nat:=if k=0 then n - 1 else k - 1
def vw (p q:Pnt):Option Pnt:=if p.1=q.1 then some (p.1,if q.2<p.2 then q.2 else p.2) else none
def W (M:List Pnt):List Pnt:=(List.range M.length).filterMap fun k=>vw (gt M (pv M.length k)) (gt M k)
def rw (M:List Pnt) (y:Int):List Int:=((W M).filter fun p=>decide (p.2=y)).map (·.1)
def ins (M:List Pnt) (q:Pnt):Bool:=decide (((rw M q.2).filter fun x=>decide (x≤q.1)).length%2=1)
def Adj (p q:Pnt):Prop:=(p.1=q.1∧(q.2=p.2+1∨p.2=q.2+1))∨(p.2=q.2∧(q.1=p.1+1∨p.1=q.1+1))
structure Cyc (M:List Pnt):Prop where
 nd:M.Nodup
 len:3≤M.length
 adj:∀ k,k<M.length→Adj (gt M (pv M.length k)) (gt M k)
theorem gt_eq {M:List Pnt} {k:Nat} {p:Pnt} (h:M[k]?=some p):gt M k=p:=by unfold gt; rw [List.getD_eq_getElem?_getD,h]; rfl
theorem gt_inj {M:List Pnt} (nd:M.Nodup) {i j:Nat} (hi:i<M.length) (hj:j<M.length) (h:gt M i=gt M j):i=j:=by
 rw [gt_eq (List.getElem?_eq_getElem hi),gt_eq (List.getElem?_eq_getElem hj)] at h
 exact (List.getElem_inj nd).mp h
theorem pv_lt {n k:Nat} (h:k<n):pv n k<n:=by unfold pv; split<;>omega
theorem vw_some {p q:Pnt} {x y:Int} (a:Adj p q) (h:vw p q=some (x,y)):(p=(x,y)∧q=(x,y+1))∨(p=(x,y+1)∧q=(x,y)):=by
 unfold vw at h
 obtain ⟨p1,p2⟩:=p
 obtain ⟨q1,q2⟩:=q
 unfold Adj at a
 dsimp only at a h
 by_cases e:p1=q1
 ·rw [if_pos e] at h
  simp only [Option.some.injEq,Prod.mk.injEq] at h
  obtain ⟨h1,h2⟩:=h
  simp only [Prod.mk.injEq]
  by_cases c:q2<p2
  ·rw [if_pos c] at h2; omega
  ·rw [if_neg c] at h2; omega
 ·rw [if_neg e] at h; cases h
theorem Cyc.wnd {M:List Pnt} (c:Cyc M):(W M).Nodup:=by
 unfold W List.Nodup
 rw [List.pairwise_filterMap]
 refine List.Pairwise.imp_of_mem (R:=fun a b=>a<b) (fun {i j} hi hj hij=>?_) List.pairwise_lt_range
 rw [List.mem_range] at hi hj
 rintro ⟨x,y⟩ h1 ⟨x',y'⟩ h2 e
 cases e
 have li:=pv_lt hi
 have lj:=pv_lt hj
 have l3:=c.len
 have di:pv M.length i=if i=0 then M.length - 1 else i - 1:=rfl
 have dj:pv M.length j=if j=0 then M.length - 1 else j - 1:=rfl
 rcases vw_some (c.adj i hi) h1 with ⟨a1,a2⟩ | ⟨a1,a2⟩<;>rcases vw_some (c.adj j hj) h2 with ⟨b1,b2⟩ | ⟨b1,b2⟩
 ·have:=gt_inj c.nd hi hj (a2.trans b2.symm); omega
 ·have e1:=gt_inj c.nd li hj (a1.trans b2.symm)
  have e2:=gt_inj c.nd hi lj (a2.trans b1.symm)
  rw [di] at e1; rw [dj] at e2
  split at e1<;>split at e2<;>omega
 ·have e1:=gt_inj c.nd li hj (a1.trans b2.symm)
  have e2:=gt_inj c.nd hi lj (a2.trans b1.symm)
  rw [di] at e1; rw [dj] at e2
  split at e1<;>split at e2<;>omega
 ·have:=gt_inj c.nd hi hj (a2.trans b2.symm); omega
theorem Cyc.rnd {M:List Pnt} (c:Cyc M) (y:Int):(rw M y).Nodup:=by
 unfold rw List.Nodup
 rw [List.pairwise_map]
 refine List.Pairwise.imp_of_mem (R:=fun a b=>a≠b) (fun {a b} ha hb h e=>h ?_) (List.Pairwise.filter _ c.wnd)
 have h1:=of_decide_eq_true (List.mem_filter.mp ha).2
 have h2:=of_decide_eq_true (List.mem_filter.mp hb).2
 exact Prod.ext e (h1.trans h2.symm)
theorem lin_par (f:Nat→Bool) (m:Nat):((List.range m).filter fun k=>f k != f (k+1)).length%2=if f 0=f m then 0 else 1:=by
 induction m with
 | zero=>rw [if_pos rfl]; rfl
 | succ m ih =>
  rw [List.range_succ,List.filter_append,List.length_append]
  cases h0:f 0<;>cases h1:f m<;>cases h2:f (m+1)<;>simp only [h0,h1,h2,List.filter_cons,List.filter_nil,bne_self_eq_false,Bool.true_bne,Bool.false_bne,Bool.not_true,Bool.not_false] at ih ⊢<;>simp at ih ⊢<;>omega
theorem cyc_par (f:Nat→Bool) {n:Nat} (hn:1≤n):((List.range n).filter fun k=>f (pv n k) != f k).length%2=0:=by
 obtain ⟨m,rfl⟩:∃ m,n=m+1:=⟨n - 1,by omega⟩
 have h:=lin_par f m
 rw [List.range_succ_eq_map,List.filter_cons,List.filter_map,← List.length_map (f:=id)]
 have e:((List.range m).filter ((fun k=>f (pv (m+1) k) != f k)∘Nat.succ))=(List.range m).filter fun k=>f k != f (k+1):=by
  refine List.filter_congr fun k _=>?_
  show (f (pv (m+1) (k+1)) != f (k+1))=_
  have:pv (m+1) (k+1)=k:=by unfold pv; rw [if_neg (by omega)]; omega
  rw [this]
 have e0:pv (m+1) 0=m:=by unfold pv; rw [if_pos rfl]; omega
 rw [e,e0]
 by_cases c:f 0=f m
 ·rw [if_pos c] at h
  rw [if_neg (by rw [c]; simp)]
  simp only [List.map_id,List.length_map]
  exact h
 ·rw [if_neg c] at h
  rw [if_pos (by rw [bne_iff_ne]; exact fun z=>c z.symm)]
  simp only [List.map_id,List.length_map,List.length_cons]
  omega
theorem fm_len {α β:Type} (g:α→Option β) (p:β→Bool):∀ l:List α,((l.filterMap g).filter p).length=(l.filter fun k=>(g k).any p).length
 | []=>rfl
 | a::l=>by
  have ih:=fm_len g p l
  rw [List.filterMap_cons,List.filter_cons]
  cases h:g a with
  | none => simp only [Option.any_none]; exact ih
  | some b =>
   simp only [Option.any_some]
   rw [List.filter_cons]
   by_cases hp:p b=true
   ·rw [if_pos hp,if_pos hp,List.length_cons,List.length_cons,ih]
   ·rw [if_neg hp,if_neg hp,ih]
theorem Cyc.even {M:List Pnt} (c:Cyc M) (y:Int):(rw M y).length%2=0:=by
 unfold rw W
 rw [List.length_map,fm_len]
 have h:=cyc_par (fun k=>decide ((gt M k).2≤y)) (n:=M.length) (by have:=c.len; omega)
 rw [← h]
 congr 2
 refine List.filter_congr fun k hk=>?_
 rw [List.mem_range] at hk
 have a:=c.adj k hk
 generalize gt M (pv M.length k)=p at a
 generalize gt M k=q at a
 obtain ⟨p1,p2⟩:=p
 obtain ⟨q1,q2⟩:=q
 unfold Adj at a
 unfold vw
 dsimp only at a ⊢
 by_cases e:p1=q1
 ·rw [if_pos e,Option.any_some,Bool.eq_iff_iff,bne_iff_ne,decide_eq_true_eq,ne_eq,decide_eq_decide]
  dsimp only
  by_cases d:q2<p2
  ·rw [if_pos d]; omega
  ·rw [if_neg d]; omega
 ·rw [if_neg e,Option.any_none]
  have:p2=q2:=by omega
  rw [this]; simp
def within:List Int→Int→Bool
 | a::b::t,x=>(decide (a≤x)&&decide (x<b))||within t x
 | _,_=>false
theorem cnt_zero {x:Int}:∀ {l:List Int},(∀ z∈l,x<z)→(l.filter fun z=>decide (z≤x)).length=0
 | [],_=>rfl
 | a::l,h=>by
  rw [List.filter_cons,if_neg (by rw [decide_eq_true_eq]; have:=h a List.mem_cons_self; omega)]
  exact cnt_zero fun z hz=>h z (List.mem_cons_of_mem _ hz)
theorem within_iff:∀ {ms:List Int},ms.Pairwise (·<·)→ms.length%2=0→∀ x,within ms x=decide ((ms.filter fun z=>decide (z≤x)).length%2=1)
 | [],_,_,x=>rfl
 | [a],_,h,x=>by simp at h
 | a::b::t,h,hl,x=>by
  rw [List.pairwise_cons,List.pairwise_cons] at h
  obtain ⟨h1,h2,h3⟩:=h
  have ih:=within_iff h3 (by rw [List.length_cons,List.length_cons] at hl; omega) x
  have hab:=h1 b List.mem_cons_self
  unfold within
  rw [ih,List.filter_cons,List.filter_cons]
  by_cases c1:a≤x
  ·rw [if_pos (decide_eq_true c1)]
   by_cases c2:b≤x
   ·rw [if_pos (decide_eq_true c2),decide_eq_false (show ¬ x<b by omega),Bool.and_false,Bool.false_or,List.length_cons,List.length_cons]
    exact decide_eq_decide.mpr (by omega)
   ·rw [if_neg (by rw [decide_eq_true_eq]; exact c2),decide_eq_true c1,decide_eq_true (show x<b by omega),List.length_cons,cnt_zero fun z hz=>by have:=h2 z hz; omega]
    rfl
  ·rw [if_neg (by rw [decide_eq_true_eq]; exact c1),if_neg (by rw [decide_eq_true_eq]; omega),decide_eq_false c1,Bool.false_and,Bool.false_or]
def span (a b:Int) (y:Int):List Pnt:=(List.range (b - a).toNat).map fun i=>(a+((i:Nat):Int),y)
def cl (y:Int):List Int→List Pnt
 | a::b::t=>span a b y++cl y t
 | _=>[]
theorem mem_span {a b y:Int} {q:Pnt}:q∈span a b y↔q.2=y∧a≤q.1∧q.1<b:=by
 unfold span
 rw [List.mem_map]
 constructor
 ·rintro ⟨i,hi,rfl⟩
  rw [List.mem_range] at hi
  exact ⟨rfl,by show a≤a+_; omega,by show a+((i:Nat):Int)<b; omega⟩
 ·rintro ⟨h1,h2,h3⟩
  exact ⟨(q.1 - a).toNat,List.mem_range.mpr (by omega),Prod.ext (by show a+(((q.1 - a).toNat:Nat):Int)=q.1; omega) h1.symm⟩
theorem mem_cl {y:Int} {q:Pnt}:∀ {ms:List Int},q∈cl y ms↔q.2=y∧within ms q.1=true
 | []=>by simp [cl,within]
 | [a]=>by simp [cl,within]
 | a::b::t=>by
  unfold cl within
  rw [List.mem_append,mem_span,mem_cl (ms:=t),Bool.or_eq_true,Bool.and_eq_true,decide_eq_true_eq,decide_eq_true_eq]
  constructor
  ·rintro (⟨h1,h2⟩ | ⟨h1,h2⟩)
   ·exact ⟨h1,.inl h2⟩
   ·exact ⟨h1,.inr h2⟩
  ·rintro ⟨h1,h2 | h2⟩
   ·exact .inl ⟨h1,h2⟩
   ·exact .inr ⟨h1,h2⟩
theorem within_ge {x:Int}:∀ {ms:List Int} {a:Int},(∀ z∈ms,a<z)→within ms x=true→a<x
 | [],_,_,h=>by cases h
 | [_],_,_,h=>by cases h
 | b::c::t,a,h,hw=>by
  unfold within at hw
  rw [Bool.or_eq_true,Bool.and_eq_true,decide_eq_true_eq,decide_eq_true_eq] at hw
  rcases hw with ⟨h1,_⟩ | h1
  ·have:=h b List.mem_cons_self; omega
  ·exact within_ge (fun z hz=>h z (List.mem_cons_of_mem _ (List.mem_cons_of_mem _ hz))) h1
theorem span_nd (a b y:Int):(span a b y).Nodup:=by
 unfold span List.Nodup
 rw [List.pairwise_map]
 refine List.Pairwise.imp (fun {i j} (h:i<j) e=>?_) List.pairwise_lt_range
 have:a+((i:Nat):Int)=a+((j:Nat):Int):=congrArg Prod.fst e
 omega
theorem cl_nd (y:Int):∀ {ms:List Int},ms.Pairwise (·<·)→(cl y ms).Nodup
 | [],_=>List.nodup_nil
 | [_],_=>List.nodup_nil
 | a::b::t,h=>by
  rw [List.pairwise_cons,List.pairwise_cons] at h
  unfold cl
  rw [List.nodup_append]
  refine ⟨span_nd a b y,cl_nd y h.2.2,fun p hp q hq e=>?_⟩
  subst e
  have h1:=mem_span.mp hp
  have h2:=within_ge h.2.1 (mem_cl.mp hq).2
  omega
theorem cl_take (y:Int):∀ (j:Nat) {ms:List Int} {a b:Int},ms[2*j]?=some a→ms[2*j+1]?=some b→cl y (ms.take (2*(j+1)))=cl y (ms.take (2*j))++span a b y
 | 0,c::d::t,a,b,h1,h2=>by
  simp only [Nat.mul_zero,List.getElem?_cons_zero,Option.some.injEq,Nat.zero_add,List.getElem?_cons_succ] at h1 h2
  subst h1 h2
  show span c d y++cl y (t.take 0)=[]++span c d y
  simp [cl]
 | 0,[c],a,b,h1,h2=>by simp at h2
 | 0,[],a,b,h1,h2=>by simp at h1
 | j+1,c::d::t,a,b,h1,h2=>by
  have e1:2*(j+1)=2*j+1+1:=by omega
  rw [e1,List.getElem?_cons_succ,List.getElem?_cons_succ] at h1
  rw [show 2*(j+1)+1=2*j+1+1+1 by omega,List.getElem?_cons_succ,List.getElem?_cons_succ] at h2
  have ih:=cl_take y j h1 h2
  rw [show 2*(j+1+1)=2*(j+1)+1+1 by omega,List.take_succ_cons,List.take_succ_cons,e1,List.take_succ_cons,List.take_succ_cons]
  show span c d y++cl y (t.take (2*(j+1)))=(span c d y++cl y (t.take (2*j)))++span a b y
  rw [ih,List.append_assoc]
 | j+1,[c],a,b,h1,h2=>by simp at h1
 | j+1,[],a,b,h1,h2=>by simp at h1
theorem cl_pre (y:Int):∀ (j:Nat) (ms:List Int),∃ r,cl y ms=cl y (ms.take (2*j))++r
 | 0,ms=>⟨cl y ms,by simp [cl]⟩
 | j+1,[]=>⟨[],by simp [cl]⟩
 | j+1,[a]=>⟨[],by rw [show 2*(j+1)=2*j+1+1 by omega]; simp [cl]⟩
 | j+1,a::b::t=>by
  obtain ⟨r,e⟩:=cl_pre y j t
  refine ⟨r,?_⟩
  rw [show 2*(j+1)=2*j+1+1 by omega,List.take_succ_cons,List.take_succ_cons]
  show span a b y++cl y t=(span a b y++cl y (t.take (2*j)))++r
  rw [e,List.append_assoc]
theorem Cyc.row {M:List Pnt} (c:Cyc M) {y:Int} {ms:List Int} (pm:ms.Perm (rw M y)) (pw:ms.Pairwise (·≤·)):ms.Pairwise (·<·)∧ms.length%2=0∧∀ q:Pnt,q∈cl y ms↔q.2=y∧ins M q=true:=by
 have nd:ms.Nodup:=pm.nodup_iff.mpr (c.rnd y)
 have lt:ms.Pairwise (·<·):=by
  have:=List.pairwise_and_iff.mpr ⟨pw,nd⟩
  exact List.Pairwise.imp (fun {a b} (h:a≤b∧a≠b)=>by omega) this
 have ev:ms.length%2=0:=by rw [pm.length_eq]; exact c.even y
 refine ⟨lt,ev,fun q=>?_⟩
 rw [mem_cl]
 refine and_congr_right fun e=>?_
 rw [within_iff lt ev]
 unfold ins
 rw [e,(pm.filter _).length_eq]
def Wk (M:List Pnt) (k:Nat):List Pnt:=(List.range k).filterMap fun k=>vw (gt M (pv M.length k)) (gt M k)
def rwk (M:List Pnt) (k:Nat) (y:Int):List Int:=((Wk M k).filter fun p=>decide (p.2=y)).map (·.1)
theorem Wk_all (M:List Pnt):Wk M M.length=W M:=rfl
theorem rwk_all (M:List Pnt):rwk M M.length=rw M:=rfl
theorem Wk_none {M:List Pnt} {k:Nat} (h:vw (gt M (pv M.length k)) (gt M k)=none):Wk M (k+1)=Wk M k:=by
 unfold Wk
 rw [List.range_succ,List.filterMap_append]
 simp [h]
theorem Wk_some {M:List Pnt} {k:Nat} {q:Pnt} (h:vw (gt M (pv M.length k)) (gt M k)=some q):Wk M (k+1)=Wk M k++[q]:=by
 unfold Wk
 rw [List.range_succ,List.filterMap_append]
 simp [h]
theorem rwk_none {M:List Pnt} {k:Nat} (h:vw (gt M (pv M.length k)) (gt M k)=none):rwk M (k+1)=rwk M k:=by
 funext y; unfold rwk; rw [Wk_none h]
theorem rwk_some {M:List Pnt} {k:Nat} {x y:Int} (h:vw (gt M (pv M.length k)) (gt M k)=some (x,y)):rwk M (k+1)=fun z=>if z=y then rwk M k z++[x] else rwk M k z:=by
 funext z
 unfold rwk
 rw [Wk_some h,List.filter_append,List.map_append,List.filter_cons]
 by_cases e:z=y
 ·rw [if_pos e,if_pos (by subst e; exact decide_eq_true rfl)]; rfl
 ·rw [if_neg e,if_neg (by rw [decide_eq_true_eq]; exact fun q=>e q.symm)]; simp
theorem Wk_len (M:List Pnt) (k:Nat):(Wk M k).length≤k:=by
 unfold Wk
 exact Nat.le_trans (List.length_filterMap_le _ _) (by rw [List.length_range]; exact Nat.le_refl _)
theorem rwk_len (M:List Pnt) (k:Nat) (y:Int):(rwk M k y).length≤k:=by
 unfold rwk
 rw [List.length_map]
 exact Nat.le_trans (List.length_filter_le _ _) (Wk_len M k)
theorem Cyc.ends {M:List Pnt} (c:Cyc M) {x y:Int} (h:(x,y)∈W M):(x,y)∈M∧(x,y+1)∈M:=by
 unfold W at h
 obtain ⟨k,hk,e⟩:=List.mem_filterMap.mp h
 rw [List.mem_range] at hk
 have m:∀ {i:Nat},i<M.length→gt M i∈M:=fun {i} hi=>by rw [gt_eq (List.getElem?_eq_getElem hi)]; exact List.getElem_mem hi
 have m1:=m hk
 have m2:=m (pv_lt hk)
 rcases vw_some (c.adj k hk) e with ⟨a,b⟩ | ⟨a,b⟩
 ·rw [a] at m2; rw [b] at m1; exact ⟨m2,m1⟩
 ·rw [a] at m2; rw [b] at m1; exact ⟨m1,m2⟩
theorem mem_rw {M:List Pnt} {x y:Int}:x∈rw M y↔(x,y)∈W M:=by
 unfold rw
 rw [List.mem_map]
 constructor
 ·rintro ⟨p,hp,rfl⟩
  rw [List.mem_filter,decide_eq_true_eq] at hp
  obtain ⟨h1,rfl⟩:=hp
  exact h1
 ·intro h
  exact ⟨(x,y),List.mem_filter.mpr ⟨h,decide_eq_true rfl⟩,rfl⟩
theorem cnt_split {x:Int} (l:List Int):(l.filter fun z=>decide (z≤x)).length+(l.filter fun z=>decide (x<z)).length=l.length:=by
 induction l with
 | nil=>rfl
 | cons a l ih =>
  rw [List.filter_cons,List.filter_cons,List.length_cons]
  by_cases h:a≤x
  ·rw [if_pos (decide_eq_true h),if_neg (by rw [decide_eq_true_eq]; omega),List.length_cons]; omega
  ·rw [if_neg (by rw [decide_eq_true_eq]; exact h),if_pos (decide_eq_true (by omega)),List.length_cons]; omega
theorem Cyc.between {M:List Pnt} (c:Cyc M) {q:Pnt} (h:ins M q=true):∃ a b,(a,q.2)∈W M∧(b,q.2)∈W M∧a≤q.1∧q.1<b:=by
 unfold ins at h
 have h:=of_decide_eq_true h
 have e:=c.even q.2
 have sp:=cnt_split (x:=q.1) (rw M q.2)
 obtain ⟨a,ha⟩:=List.exists_mem_of_length_pos (l:=(rw M q.2).filter fun z=>decide (z≤q.1)) (by omega)
 obtain ⟨b,hb⟩:=List.exists_mem_of_length_pos (l:=(rw M q.2).filter fun z=>decide (q.1<z)) (by omega)
 rw [List.mem_filter,decide_eq_true_eq] at ha hb
 exact ⟨a,b,mem_rw.mp ha.1,mem_rw.mp hb.1,ha.2,hb.2⟩
theorem cnt_step {l:List Int} (nd:l.Nodup) (x:Int):(l.filter fun z=>decide (z≤x)).length=(l.filter fun z=>decide (z≤x - 1)).length+if x∈l then 1 else 0:=by
 induction l with
 | nil=>rfl
 | cons a l ih =>
  rw [List.nodup_cons] at nd
  have ih:=ih nd.2
  rw [List.filter_cons,List.filter_cons]
  by_cases e:a=x
  ·subst e
   rw [if_neg nd.1] at ih
   rw [if_pos (decide_eq_true (Int.le_refl a)),if_neg (by rw [decide_eq_true_eq]; omega),if_pos List.mem_cons_self,List.length_cons]
   omega
  ·have m:(x∈a::l)↔x∈l:=⟨fun h=>(List.mem_cons.mp h).resolve_left fun z=>e z.symm,List.mem_cons_of_mem _⟩
   have e2:(if x∈a::l then 1 else 0)=(if x∈l then 1 else 0):=by
    by_cases hm:x∈l
    ·rw [if_pos hm,if_pos (m.mpr hm)]
    ·rw [if_neg hm,if_neg fun z=>hm (m.mp z)]
   rw [e2]
   by_cases h:a≤x - 1
   ·rw [if_pos (decide_eq_true (show a≤x by omega)),if_pos (decide_eq_true h),List.length_cons,List.length_cons]; omega
   ·rw [if_neg (by rw [decide_eq_true_eq]; omega),if_neg (by rw [decide_eq_true_eq]; exact h)]; exact ih
theorem Cyc.step {M:List Pnt} (c:Cyc M) (x y:Int):ins M (x,y)=(ins M (x - 1,y) != decide ((x,y)∈W M)):=by
 unfold ins
 dsimp only
 rw [cnt_step (c.rnd y) x]
 by_cases h:x∈rw M y
 ·rw [if_pos h,decide_eq_true (mem_rw.mp h)]
  generalize ((rw M y).filter fun z=>decide (z≤x - 1)).length=n
  by_cases z:n%2=1
  ·rw [decide_eq_true z,decide_eq_false (by omega)]; rfl
  ·rw [decide_eq_false z,decide_eq_true (by omega)]; rfl
 ·rw [if_neg h,decide_eq_false (fun z=>h (mem_rw.mpr z)),Nat.add_zero]
  simp
theorem Cyc.left {M:List Pnt} (c:Cyc M) {a y:Int} (h:∀ p∈M,a≤p.1):ins M (a - 1,y)=false:=by
 unfold ins
 dsimp only
 rw [cnt_zero fun z hz=>by have:=h _ (c.ends (mem_rw.mp hz)).1; dsimp only at this; omega]
 rfl
def rowc (M:List Pnt) (y a:Int) (n:Nat):List Pnt:=((List.range n).map fun i=>(a+((i:Nat):Int),y)).filter (ins M)
theorem rowc_succ (M:List Pnt) (y a:Int) (n:Nat):rowc M y a (n+1)=rowc M y a n++if ins M (a+((n:Nat):Int),y)=true then [(a+((n:Nat):Int),y)] else []:=by
 unfold rowc
 rw [List.range_succ,List.map_append,List.filter_append]
 congr 1
 rw [List.map_singleton,List.filter_cons]
 rfl
theorem mem_rowc {M:List Pnt} {y a:Int} {n:Nat} {q:Pnt}:q∈rowc M y a n↔q.2=y∧a≤q.1∧q.1<a+((n:Nat):Int)∧ins M q=true:=by
 unfold rowc
 rw [List.mem_filter,List.mem_map]
 constructor
 ·rintro ⟨⟨i,hi,rfl⟩,h⟩
  rw [List.mem_range] at hi
  exact ⟨rfl,by show a≤a+_; omega,by show a+_<_; omega,h⟩
 ·rintro ⟨h1,h2,h3,h4⟩
  exact ⟨⟨(q.1 - a).toNat,List.mem_range.mpr (by omega),Prod.ext (by show a+(((q.1 - a).toNat:Nat):Int)=q.1; omega) h1.symm⟩,h4⟩
theorem rowc_nd (M:List Pnt) (y a:Int) (n:Nat):(rowc M y a n).Nodup:=by
 unfold rowc
 refine List.Pairwise.filter _ ?_
 rw [List.pairwise_map]
 refine List.Pairwise.imp (fun {i j} (h:i<j) e=>?_) List.pairwise_lt_range
 have:a+((i:Nat):Int)=a+((j:Nat):Int):=congrArg Prod.fst e
 omega
def patc (M:List Pnt) (b a:Int) (w h:Nat):List Pnt:=(List.range h).flatMap fun j=>rowc M (b+((j:Nat):Int)) a w
theorem patc_succ (M:List Pnt) (b a:Int) (w h:Nat):patc M b a w (h+1)=patc M b a w h++rowc M (b+((h:Nat):Int)) a w:=by
 unfold patc
 rw [List.range_succ,List.flatMap_append]
 simp
theorem mem_patc {M:List Pnt} {b a:Int} {w h:Nat} {q:Pnt}:q∈patc M b a w h↔(b≤q.2∧q.2<b+((h:Nat):Int))∧(a≤q.1∧q.1<a+((w:Nat):Int))∧ins M q=true:=by
 unfold patc
 rw [List.mem_flatMap]
 constructor
 ·rintro ⟨j,hj,h⟩
  rw [List.mem_range] at hj
  rw [mem_rowc] at h
  exact ⟨⟨by omega,by omega⟩,⟨h.2.1,h.2.2.1⟩,h.2.2.2⟩
 ·rintro ⟨⟨h1,h2⟩,⟨h3,h4⟩,h5⟩
  exact ⟨(q.2 - b).toNat,List.mem_range.mpr (by omega),mem_rowc.mpr ⟨by omega,h3,h4,h5⟩⟩
theorem patc_nd (M:List Pnt) (b a:Int) (w:Nat):∀ h,(patc M b a w h).Nodup
 | 0=>List.nodup_nil
 | h+1=>by
  rw [patc_succ,List.nodup_append]
  refine ⟨patc_nd M b a w h,rowc_nd _ _ _ _,fun p hp q hq e=>?_⟩
  subst e
  have h1:=mem_patc.mp hp
  have h2:=mem_rowc.mp hq
  omega
theorem Cyc.box {M:List Pnt} (c:Cyc M) {x0 x1 y0 y1:Int} (h:∀ p∈M,(x0≤p.1∧p.1≤x1)∧y0≤p.2∧p.2≤y1) {q:Pnt} (hq:ins M q=true):(x0≤q.1∧q.1<x1)∧y0≤q.2∧q.2<y1:=by
 obtain ⟨a,b,ha,hb,h1,h2⟩:=c.between hq
 have e1:=h _ (c.ends ha).1
 have e2:=h _ (c.ends ha).2
 have e3:=h _ (c.ends hb).1
 dsimp only at e1 e2 e3
 omega
theorem nodup_few {l:List Pnt} (nd:l.Nodup) {n:Nat} (h:∀ q∈l,(0≤q.1∧q.1<(n:Nat))∧0≤q.2∧q.2<(n:Nat)):l.length≤n*n:=by
 have key:∀ (a b:List Pnt),a.Nodup→(∀ x∈a,x∈b)→a.length≤b.length:=by
  intro a
  induction a with
  | nil => intro b _ _; exact Nat.zero_le _
  | cons x a ih =>
   intro b hn hs
   rw [List.nodup_cons] at hn
   have hx:=hs x List.mem_cons_self
   have:=ih (b.erase x) hn.2 fun y hy=>(List.mem_erase_of_ne (show y≠x from fun e=>hn.1 (by rw [← e]; exact hy))).mpr (hs y (List.mem_cons_of_mem _ hy))
   rw [List.length_erase_of_mem hx] at this
   have:=List.length_pos_of_mem hx
   rw [List.length_cons]
   omega
 have:=key l ((List.range n).flatMap fun i=>(List.range n).map fun j=>(((i:Nat):Int),((j:Nat):Int))) nd fun q hq=>by
  obtain ⟨⟨a,b⟩,c,d⟩:=h q hq
  exact List.mem_flatMap.mpr ⟨q.1.toNat,List.mem_range.mpr (by omega),List.mem_map.mpr ⟨q.2.toNat,List.mem_range.mpr (by omega),Prod.ext (by show ((q.1.toNat:Nat):Int)=q.1; omega) (by show ((q.2.toNat:Nat):Int)=q.2; omega)⟩⟩
 refine Nat.le_trans this ?_
 rw [List.length_flatMap]
 simp only [List.length_map,List.length_range,List.map_const',List.sum_replicate_nat]
 exact Nat.le_refl _
theorem Cyc.wknd {M:List Pnt} (c:Cyc M) {k:Nat} (h:k≤M.length):(Wk M k).Nodup:=by
 have e:W M=Wk M k++((List.range' k (M.length - k)).filterMap fun k=>vw (gt M (pv M.length k)) (gt M k)):=by
  unfold W Wk
  have er:List.range' 0 k++List.range' k (M.length - k)=List.range' 0 M.length:=by
   have h0:=List.range'_append (s:=0) (m:=k) (n:=M.length - k) (step:=1)
   rw [show k+(M.length - k)=M.length by omega] at h0
   simpa using h0
  rw [← List.filterMap_append,List.range_eq_range',List.range_eq_range',er]
 have:=c.wnd
 rw [e] at this
 exact (List.nodup_append.mp this).1
theorem Cyc.fresh {M:List Pnt} (c:Cyc M) {k:Nat} (h:k<M.length) {q:Pnt} (e:vw (gt M (pv M.length k)) (gt M k)=some q):q∉Wk M k:=fun z=>by
 have:=c.wknd (k:=k+1) (by omega)
 rw [Wk_some e,List.nodup_append] at this
 exact this.2.2 q z q (by simp) rfl
end Wn
set_option Elab.async false
set_option maxHeartbeats 4000000
set_option linter.all false
set_option maxRecDepth 100000
namespace My
open PySem PySem.Spec PyProof.Rows L2
def top (i:Nat):Stmt:=PySem.Challenge.pw_sashiko_k14_whole_areas_leave_one.main.body.getD i (.Pass ⟨0,0,0,0⟩)
abbrev s_isnumber:Stmt:=(top 10)
abbrev s_isbelow:Stmt:=(top 11)
abbrev s_isbit:Stmt:=(top 12)
abbrev s_allbits:Stmt:=(top 13)
abbrev s_isside:Stmt:=(top 14)
abbrev s_BoardInit:Stmt:=(inClass (top 33) 0)
abbrev s_ClothInit:Stmt:=(inClass (top 34) 0)
abbrev s_Clothwide:Stmt:=(inClass (top 33) 1)
abbrev s_Clothtall:Stmt:=(inClass (top 33) 2)
abbrev s_Clothbitsalong:Stmt:=(inClass (top 33) 5)
abbrev s_Clothbit:Stmt:=(inClass (top 33) 6)
abbrev s_Clothstitched:Stmt:=(inClass (top 33) 7)
abbrev s_sewnright:Stmt:=(top 17)
abbrev s_sewnup:Stmt:=(top 18)
abbrev s_joined:Stmt:=(top 19)
abbrev s_walk:Stmt:=(top 20)
abbrev s_toldround:Stmt:=(top 21)
abbrev s_toldopen:Stmt:=(top 22)
abbrev s_seam:Stmt:=(top 23)
abbrev s_firstpoint:Stmt:=(top 24)
abbrev s_seams:Stmt:=(top 25)
abbrev s_rounds:Stmt:=(top 26)
abbrev s_box:Stmt:=(top 28)
abbrev s_walls:Stmt:=(top 29)
abbrev s_inside:Stmt:=(top 30)
abbrev s_area:Stmt:=(top 31)
abbrev s_Ldraws:Stmt:=(top 36)
abbrev s_Lbits:Stmt:=(top 37)
abbrev s_Lrow:Stmt:=(top 38)
abbrev s_Lplan:Stmt:=(top 39)
abbrev s_Lmade:Stmt:=(top 40)
abbrev s_Lpatch:Stmt:=(top 41)
abbrev s_law:Stmt:=(top 42)
theorem sc_isnumber:FnScope ["value"] ["value"] (defScope s_isnumber):=.by
theorem sc_isbelow:FnScope ["value","bound"] ["value","bound"] (defScope s_isbelow):=.by
theorem sc_isbit:FnScope ["value"] ["value"] (defScope s_isbit):=.by
theorem sc_allbits:FnScope ["values"] ["values"] (defScope s_allbits):=.by
theorem sc_isside:FnScope ["count"] ["count"] (defScope s_isside):=.by
theorem sc_BoardInit:FnScope ["self","wide","tall","cols","rows"] ["self","wide","tall","cols","rows"] (defScope s_BoardInit):=.by
theorem sc_ClothInit:FnScope ["self","shade","cols","rows"] ["self","shade","cols","rows"] (defScope s_ClothInit):=.by
theorem sc_Clothwide:FnScope ["self"] ["self"] (defScope s_Clothwide):=.by
theorem sc_Clothtall:FnScope ["self"] ["self"] (defScope s_Clothtall):=.by
theorem sc_Clothbitsalong:FnScope ["self","way"] ["self","way"] (defScope s_Clothbitsalong):=.by
theorem sc_Clothbit:FnScope ["self","way","k","bits"] ["self","way","k"] (defScope s_Clothbit):=.by
theorem sc_Clothstitched:FnScope ["self","way","k","step","line_bit","steps"] ["self","way","k","step"] (defScope s_Clothstitched):=.by
theorem sc_sewnright:FnScope ["cloth","x","y"] ["cloth","x","y"] (defScope s_sewnright):=.by
theorem sc_sewnup:FnScope ["cloth","x","y"] ["cloth","x","y"] (defScope s_sewnup):=.by
theorem sc_joined:FnScope ["cloth","point","x","y","found"] ["cloth","point"] (defScope s_joined):=.by
theorem sc_walk:FnScope ["cloth","start","onward","line","here","behind","ways"] ["cloth","start","onward"] (defScope s_walk):=.by
theorem sc_toldround:FnScope ["cloth","line","least"] ["cloth","line"] (defScope s_toldround):=.by
theorem sc_toldopen:FnScope ["cloth","end","line"] ["cloth","end"] (defScope s_toldopen):=.by
theorem sc_seam:FnScope ["cloth","point","ways","line"] ["cloth","point"] (defScope s_seam):=.by
theorem sc_firstpoint:FnScope ["told"] ["told"] (defScope s_firstpoint):=.by
theorem sc_seams:FnScope ["cloth","found","seen","x","y","told","point"] ["cloth"] (defScope s_seams):=.by
theorem sc_rounds:FnScope ["cloth"] ["cloth"] (defScope s_rounds):=.by
theorem sc_box:FnScope ["line","across","upward"] ["line"] (defScope s_box):=.by
theorem sc_walls:FnScope ["line","found","k","one","other"] ["line"] (defScope s_walls):=.by
theorem sc_inside:FnScope ["line","found","y","places","marks","k"] ["line"] (defScope s_inside):=.by
theorem sc_area:FnScope ["line"] ["line"] (defScope s_area):=.by
theorem sc_Ldraws:FnScope ["_law_script","_law_many","_law_rows","_law_mix","_law_cell","_law_rest"] ["_law_script","_law_many"] (defScope s_Ldraws):=.by
theorem sc_Lbits:FnScope ["_law_number","_law_many","_law_row_here","_law_k"] ["_law_number","_law_many"] (defScope s_Lbits):=.by
theorem sc_Lrow:FnScope ["_law_some","_law_many","_law_raw","_law_row_here"] ["_law_some","_law_many"] (defScope s_Lrow):=.by
theorem sc_Lplan:FnScope ["_law_some","_law_wide","_law_tall"] ["_law_some"] (defScope s_Lplan):=.by
theorem sc_Lmade:FnScope ["_law_plan_here"] ["_law_plan_here"] (defScope s_Lmade):=.by
theorem sc_Lpatch:FnScope ["_law_line","_law_left","_law_right","_law_low","_law_high","_law_shuts","_law_at","_law_found","_law_y","_law_within","_law_x"] ["_law_line"] (defScope s_Lpatch):=.by
theorem sc_law:FnScope ["_law_script","_law_some","_law_plan_here","_law_line","_law_many","_law_left","_law_low","_law_right","_law_high"] ["_law_script"] (defScope s_law):=.by
abbrev QNs (K:PySem.W.Frag) (x:Str) (C:Addr):Prop:=PySem.W.nsIn K mainGlobals x=some (some (.ref C))
abbrev QNn (K:PySem.W.Frag) (x:Str):Prop:=PySem.W.nsIn K mainGlobals x=some none
abbrev QFi (K:PySem.W.Frag) (C:Addr) (x:Str) (f:Addr):Prop:=PySem.W.findIn K (.ref C) x=some (some (.ref f))
abbrev QFn (K:PySem.W.Frag) (C:Addr) (x:Str):Prop:=PySem.W.findIn K (.ref C) x=some none
abbrev QIf (K:PySem.W.Frag) (f:Addr):Prop:=PySem.W.isFn K (.ref f)=true
abbrev QXc (K:PySem.W.Frag) (C:Addr):Prop:=PySem.W.excIn K C [.type "ValueError",.type "Exception",.type "BaseException",.type "object"] "ValueError.__new__"=true
set_option genInjectivity false in
set_option genSizeOf false in
structure Ad where
 (a_Board a_Cloth f_isnumber f_isbelow f_isbit f_allbits f_isside f_BoardInit f_ClothInit f_Clothwide f_Clothtall f_Clothbitsalong:Addr)
 (f_Clothbit f_Clothstitched f_sewnright f_sewnup f_joined f_walk f_toldround f_toldopen f_seam f_firstpoint f_seams f_rounds:Addr)
 (f_box f_walls f_inside f_area f_Ldraws f_Lbits f_Lrow f_Lplan f_Lmade f_Lpatch f_law a_BadSize:Addr)
 (a_BadBit a_NoLine a_NoStep a_NoPoint:Addr)
 (d_isnumber d_isbelow d_isbit d_allbits d_isside d_BoardInit d_ClothInit d_Clothwide d_Clothtall d_Clothbitsalong d_Clothbit d_Clothstitched:FuncData)
 (d_sewnright d_sewnup d_joined d_walk d_toldround d_toldopen d_seam d_firstpoint d_seams d_rounds d_box d_walls:FuncData)
 (d_inside d_area d_Ldraws d_Lbits d_Lrow d_Lplan d_Lmade d_Lpatch d_law:FuncData)
 (tk_LONGEST_SIDE:Tok)
structure Txt (K:PySem.W.Frag) (mg:Str→Option Value) (t:Ad):Prop where
 mg_Board:mg "Board"=some (.ref t.a_Board)
 mg_Cloth:mg "Cloth"=some (.ref t.a_Cloth)
 cl_Cloth:Cls K t.a_Cloth
 mk_Cloth:Mk K t.a_Cloth t.f_ClothInit
 na_columns_count:NoAttr K t.a_Cloth "columns_count"
 na_rows_count:NoAttr K t.a_Cloth "rows_count"
 na_col_bits:NoAttr K t.a_Cloth "col_bits"
 na_row_bits:NoAttr K t.a_Cloth "row_bits"
 na_first_colour:NoAttr K t.a_Cloth "first_colour"
 F_isnumber:Fun K "is_number" "is_number" s_isnumber t.f_isnumber t.d_isnumber
 b_isnumber:Binds K t.d_isnumber ["value"] []
 mg_isnumber:mg "is_number"=some (.ref t.f_isnumber)
 F_isbelow:Fun K "is_below" "is_below" s_isbelow t.f_isbelow t.d_isbelow
 b_isbelow:Binds K t.d_isbelow ["value","bound"] []
 mg_isbelow:mg "is_below"=some (.ref t.f_isbelow)
 F_isbit:Fun K "is_bit" "is_bit" s_isbit t.f_isbit t.d_isbit
 b_isbit:Binds K t.d_isbit ["value"] []
 mg_isbit:mg "is_bit"=some (.ref t.f_isbit)
 F_allbits:Fun K "all_bits" "all_bits" s_allbits t.f_allbits t.d_allbits
 b_allbits:Binds K t.d_allbits ["values"] []
 mg_allbits:mg "all_bits"=some (.ref t.f_allbits)
 F_isside:Fun K "is_side" "is_side" s_isside t.f_isside t.d_isside
 b_isside:Binds K t.d_isside ["count"] []
 mg_isside:mg "is_side"=some (.ref t.f_isside)
 F_BoardInit:Fun K "__init__" "Board.__init__" s_BoardInit t.f_BoardInit t.d_BoardInit
 b_BoardInit:Binds K t.d_BoardInit ["self","wide","tall","cols","rows"] []
 cf_BoardInit:ClsFn K t.a_Board "__init__" t.f_BoardInit
 F_ClothInit:Fun K "__init__" "Cloth.__init__" s_ClothInit t.f_ClothInit t.d_ClothInit
 b_ClothInit:Binds K t.d_ClothInit ["self","shade","cols","rows"] []
 F_Clothwide:Fun K "wide" "Board.wide" s_Clothwide t.f_Clothwide t.d_Clothwide
 b_Clothwide:Binds K t.d_Clothwide ["self"] []
 m_Clothwide:Meth K t.a_Cloth "wide" t.f_Clothwide
 F_Clothtall:Fun K "tall" "Board.tall" s_Clothtall t.f_Clothtall t.d_Clothtall
 b_Clothtall:Binds K t.d_Clothtall ["self"] []
 m_Clothtall:Meth K t.a_Cloth "tall" t.f_Clothtall
 F_Clothbitsalong:Fun K "bits_along" "Board.bits_along" s_Clothbitsalong t.f_Clothbitsalong t.d_Clothbitsalong
 b_Clothbitsalong:Binds K t.d_Clothbitsalong ["self","way"] []
 m_Clothbitsalong:Meth K t.a_Cloth "bits_along" t.f_Clothbitsalong
 F_Clothbit:Fun K "bit" "Board.bit" s_Clothbit t.f_Clothbit t.d_Clothbit
 b_Clothbit:Binds K t.d_Clothbit ["self","way","k"] []
 m_Clothbit:Meth K t.a_Cloth "bit" t.f_Clothbit
 F_Clothstitched:Fun K "stitched" "Board.stitched" s_Clothstitched t.f_Clothstitched t.d_Clothstitched
 b_Clothstitched:Binds K t.d_Clothstitched ["self","way","k","step"] []
 m_Clothstitched:Meth K t.a_Cloth "stitched" t.f_Clothstitched
 F_sewnright:Fun K "sewn_right" "sewn_right" s_sewnright t.f_sewnright t.d_sewnright
 b_sewnright:Binds K t.d_sewnright ["cloth","x","y"] []
 mg_sewnright:mg "sewn_right"=some (.ref t.f_sewnright)
 F_sewnup:Fun K "sewn_up" "sewn_up" s_sewnup t.f_sewnup t.d_sewnup
 b_sewnup:Binds K t.d_sewnup ["cloth","x","y"] []
 mg_sewnup:mg "sewn_up"=some (.ref t.f_sewnup)
 F_joined:Fun K "joined" "joined" s_joined t.f_joined t.d_joined
 b_joined:Binds K t.d_joined ["cloth","point"] []
 mg_joined:mg "joined"=some (.ref t.f_joined)
 F_walk:Fun K "walk" "walk" s_walk t.f_walk t.d_walk
 b_walk:Binds K t.d_walk ["cloth","start","onward"] []
 mg_walk:mg "walk"=some (.ref t.f_walk)
 F_toldround:Fun K "told_round" "told_round" s_toldround t.f_toldround t.d_toldround
 b_toldround:Binds K t.d_toldround ["cloth","line"] []
 mg_toldround:mg "told_round"=some (.ref t.f_toldround)
 F_toldopen:Fun K "told_open" "told_open" s_toldopen t.f_toldopen t.d_toldopen
 b_toldopen:Binds K t.d_toldopen ["cloth","end"] []
 mg_toldopen:mg "told_open"=some (.ref t.f_toldopen)
 F_seam:Fun K "seam" "seam" s_seam t.f_seam t.d_seam
 b_seam:Binds K t.d_seam ["cloth","point"] []
 mg_seam:mg "seam"=some (.ref t.f_seam)
 F_firstpoint:Fun K "first_point" "first_point" s_firstpoint t.f_firstpoint t.d_firstpoint
 b_firstpoint:Binds K t.d_firstpoint ["told"] []
 mg_firstpoint:mg "first_point"=some (.ref t.f_firstpoint)
 F_seams:Fun K "seams" "seams" s_seams t.f_seams t.d_seams
 b_seams:Binds K t.d_seams ["cloth"] []
 mg_seams:mg "seams"=some (.ref t.f_seams)
 F_rounds:Fun K "rounds" "rounds" s_rounds t.f_rounds t.d_rounds
 b_rounds:Binds K t.d_rounds ["cloth"] []
 mg_rounds:mg "rounds"=some (.ref t.f_rounds)
 F_box:Fun K "box" "box" s_box t.f_box t.d_box
 b_box:Binds K t.d_box ["line"] []
 mg_box:mg "box"=some (.ref t.f_box)
 F_walls:Fun K "walls" "walls" s_walls t.f_walls t.d_walls
 b_walls:Binds K t.d_walls ["line"] []
 mg_walls:mg "walls"=some (.ref t.f_walls)
 F_inside:Fun K "inside" "inside" s_inside t.f_inside t.d_inside
 b_inside:Binds K t.d_inside ["line"] []
 mg_inside:mg "inside"=some (.ref t.f_inside)
 F_area:Fun K "area" "area" s_area t.f_area t.d_area
 b_area:Binds K t.d_area ["line"] []
 mg_area:mg "area"=some (.ref t.f_area)
 F_Ldraws:Fun K "_law_draws" "_law_draws" s_Ldraws t.f_Ldraws t.d_Ldraws
 b_Ldraws:Binds K t.d_Ldraws ["_law_script","_law_many"] []
 mg_Ldraws:mg "_law_draws"=some (.ref t.f_Ldraws)
 F_Lbits:Fun K "_law_bits" "_law_bits" s_Lbits t.f_Lbits t.d_Lbits
 b_Lbits:Binds K t.d_Lbits ["_law_number","_law_many"] []
 mg_Lbits:mg "_law_bits"=some (.ref t.f_Lbits)
 F_Lrow:Fun K "_law_row" "_law_row" s_Lrow t.f_Lrow t.d_Lrow
 b_Lrow:Binds K t.d_Lrow ["_law_some","_law_many"] []
 mg_Lrow:mg "_law_row"=some (.ref t.f_Lrow)
 F_Lplan:Fun K "_law_plan" "_law_plan" s_Lplan t.f_Lplan t.d_Lplan
 b_Lplan:Binds K t.d_Lplan ["_law_some"] []
 mg_Lplan:mg "_law_plan"=some (.ref t.f_Lplan)
 F_Lmade:Fun K "_law_made" "_law_made" s_Lmade t.f_Lmade t.d_Lmade
 b_Lmade:Binds K t.d_Lmade ["_law_plan_here"] []
 mg_Lmade:mg "_law_made"=some (.ref t.f_Lmade)
 F_Lpatch:Fun K "_law_patch" "_law_patch" s_Lpatch t.f_Lpatch t.d_Lpatch
 b_Lpatch:Binds K t.d_Lpatch ["_law_line"] []
 mg_Lpatch:mg "_law_patch"=some (.ref t.f_Lpatch)
 F_law:Fun K "law" "law" s_law t.f_law t.d_law
 b_law:Binds K t.d_law ["_law_script"] []
 mg_law:mg "law"=some (.ref t.f_law)
 mg_BadSize:mg "BadSize"=some (.ref t.a_BadSize)
 mg_BadBit:mg "BadBit"=some (.ref t.a_BadBit)
 mg_NoLine:mg "NoLine"=some (.ref t.a_NoLine)
 mg_NoStep:mg "NoStep"=some (.ref t.a_NoStep)
 mg_NoPoint:mg "NoPoint"=some (.ref t.a_NoPoint)
 x_BadSize:QXc K t.a_BadSize
 x_BadBit:QXc K t.a_BadBit
 x_NoLine:QXc K t.a_NoLine
 x_NoStep:QXc K t.a_NoStep
 x_NoPoint:QXc K t.a_NoPoint
 mg_LONGEST_SIDE:mg "LONGEST_SIDE"=some (.int 40 t.tk_LONGEST_SIDE)
 no_isinstance:mg "isinstance"=none
 no_int:mg "int"=none
 no_bool:mg "bool"=none
 no_all:mg "all"=none
 no_len:mg "len"=none
 no_tuple:mg "tuple"=none
 no_list:mg "list"=none
 no_range:mg "range"=none
 no_abs:mg "abs"=none
 no_str:mg "str"=none
 no_zip:mg "zip"=none
 no_ValueError:mg "ValueError"=none
 no_sorted:mg "sorted"=none
 no_min:mg "min"=none
 no_max:mg "max"=none
 no_reversed:mg "reversed"=none
theorem txt_mk {K:PySem.W.Frag} {h:Heap} {mg:Str→Option Value} (X:K.In h) (G:h.Ns mainGlobals mg) {C_Board C_Cloth f_isnumber f_isbelow f_isbit f_allbits f_isside f_BoardInit f_ClothInit f_Clothwide f_Clothtall f_Clothbitsalong:Addr} {f_Clothbit f_Clothstitched f_sewnright f_sewnup f_joined f_walk f_toldround f_toldopen f_seam f_firstpoint f_seams f_rounds:Addr} {f_box f_walls f_inside f_area f_Ldraws f_Lbits f_Lrow f_Lplan f_Lmade f_Lpatch f_law C_BadSize:Addr} {C_BadBit C_NoLine C_NoStep C_NoPoint:Addr} {d_isnumber d_isbelow d_isbit d_allbits d_isside d_BoardInit d_ClothInit d_Clothwide d_Clothtall d_Clothbitsalong d_Clothbit d_Clothstitched:FuncData} {d_sewnright d_sewnup d_joined d_walk d_toldround d_toldopen d_seam d_firstpoint d_seams d_rounds d_box d_walls:FuncData} {d_inside d_area d_Ldraws d_Lbits d_Lrow d_Lplan d_Lmade d_Lpatch d_law:FuncData} {tk_LONGEST_SIDE:Tok}
  (aC_Board:QNs K "Board" C_Board)
  (ga_Board:PySem.W.specialIn K (.ref C_Board) "__getattribute__"=some (some (.builtin "type.__getattribute__")))
  (rd_Board:PySem.W.readsIn K C_Board (.type "type")=true)
  (aC_Cloth:QNs K "Cloth" C_Cloth)
  (pg_Cloth:PySem.W.plainGet K C_Cloth Str.empty=true)
  (hd_Cloth:PySem.W.hasDictIn K C_Cloth=true)
  (po_Cloth:PySem.W.plainOver K C_Cloth=true)
  (sa_Cloth:PySem.W.findIn K (.ref C_Cloth) "__setattr__"=some (some (.builtin "object.__setattr__")))
  (mk_Cloth:PySem.W.makesIn K C_Cloth=true)
  (kc_Cloth:PySem.W.keepIn K (.ref C_Cloth)=true)
  (na_columns_count:QFn K C_Cloth "columns_count")
  (na_rows_count:QFn K C_Cloth "rows_count")
  (na_col_bits:QFn K C_Cloth "col_bits")
  (na_row_bits:QFn K C_Cloth "row_bits")
  (na_first_colour:QFn K C_Cloth "first_colour")
  (a_isnumber:QNs K "is_number" f_isnumber)
  (F_isnumber:Fun K "is_number" "is_number" s_isnumber f_isnumber d_isnumber)
  (a_isbelow:QNs K "is_below" f_isbelow)
  (F_isbelow:Fun K "is_below" "is_below" s_isbelow f_isbelow d_isbelow)
  (a_isbit:QNs K "is_bit" f_isbit)
  (F_isbit:Fun K "is_bit" "is_bit" s_isbit f_isbit d_isbit)
  (a_allbits:QNs K "all_bits" f_allbits)
  (F_allbits:Fun K "all_bits" "all_bits" s_allbits f_allbits d_allbits)
  (a_isside:QNs K "is_side" f_isside)
  (F_isside:Fun K "is_side" "is_side" s_isside f_isside d_isside)
  (fc_BoardInit:PySem.W.findCls K (.ref C_Board) (.type "type") "__init__"=some (.val (.ref f_BoardInit)))
  (F_BoardInit:Fun K "__init__" "Board.__init__" s_BoardInit f_BoardInit d_BoardInit)
  (a_ClothInit:QFi K C_Cloth "__init__" f_ClothInit)
  (i_ClothInit:QIf K f_ClothInit)
  (F_ClothInit:Fun K "__init__" "Cloth.__init__" s_ClothInit f_ClothInit d_ClothInit)
  (a_Clothwide:QFi K C_Cloth "wide" f_Clothwide)
  (i_Clothwide:QIf K f_Clothwide)
  (F_Clothwide:Fun K "wide" "Board.wide" s_Clothwide f_Clothwide d_Clothwide)
  (a_Clothtall:QFi K C_Cloth "tall" f_Clothtall)
  (i_Clothtall:QIf K f_Clothtall)
  (F_Clothtall:Fun K "tall" "Board.tall" s_Clothtall f_Clothtall d_Clothtall)
  (a_Clothbitsalong:QFi K C_Cloth "bits_along" f_Clothbitsalong)
  (i_Clothbitsalong:QIf K f_Clothbitsalong)
  (F_Clothbitsalong:Fun K "bits_along" "Board.bits_along" s_Clothbitsalong f_Clothbitsalong d_Clothbitsalong)
  (a_Clothbit:QFi K C_Cloth "bit" f_Clothbit)
  (i_Clothbit:QIf K f_Clothbit)
  (F_Clothbit:Fun K "bit" "Board.bit" s_Clothbit f_Clothbit d_Clothbit)
  (a_Clothstitched:QFi K C_Cloth "stitched" f_Clothstitched)
  (i_Clothstitched:QIf K f_Clothstitched)
  (F_Clothstitched:Fun K "stitched" "Board.stitched" s_Clothstitched f_Clothstitched d_Clothstitched)
  (a_sewnright:QNs K "sewn_right" f_sewnright)
  (F_sewnright:Fun K "sewn_right" "sewn_right" s_sewnright f_sewnright d_sewnright)
  (a_sewnup:QNs K "sewn_up" f_sewnup)
  (F_sewnup:Fun K "sewn_up" "sewn_up" s_sewnup f_sewnup d_sewnup)
  (a_joined:QNs K "joined" f_joined)
  (F_joined:Fun K "joined" "joined" s_joined f_joined d_joined)
  (a_walk:QNs K "walk" f_walk)
  (F_walk:Fun K "walk" "walk" s_walk f_walk d_walk)
  (a_toldround:QNs K "told_round" f_toldround)
  (F_toldround:Fun K "told_round" "told_round" s_toldround f_toldround d_toldround)
  (a_toldopen:QNs K "told_open" f_toldopen)
  (F_toldopen:Fun K "told_open" "told_open" s_toldopen f_toldopen d_toldopen)
  (a_seam:QNs K "seam" f_seam)
  (F_seam:Fun K "seam" "seam" s_seam f_seam d_seam)
  (a_firstpoint:QNs K "first_point" f_firstpoint)
  (F_firstpoint:Fun K "first_point" "first_point" s_firstpoint f_firstpoint d_firstpoint)
  (a_seams:QNs K "seams" f_seams)
  (F_seams:Fun K "seams" "seams" s_seams f_seams d_seams)
  (a_rounds:QNs K "rounds" f_rounds)
  (F_rounds:Fun K "rounds" "rounds" s_rounds f_rounds d_rounds)
  (a_box:QNs K "box" f_box)
  (F_box:Fun K "box" "box" s_box f_box d_box)
  (a_walls:QNs K "walls" f_walls)
  (F_walls:Fun K "walls" "walls" s_walls f_walls d_walls)
  (a_inside:QNs K "inside" f_inside)
  (F_inside:Fun K "inside" "inside" s_inside f_inside d_inside)
  (a_area:QNs K "area" f_area)
  (F_area:Fun K "area" "area" s_area f_area d_area)
  (a_Ldraws:QNs K "_law_draws" f_Ldraws)
  (F_Ldraws:Fun K "_law_draws" "_law_draws" s_Ldraws f_Ldraws d_Ldraws)
  (a_Lbits:QNs K "_law_bits" f_Lbits)
  (F_Lbits:Fun K "_law_bits" "_law_bits" s_Lbits f_Lbits d_Lbits)
  (a_Lrow:QNs K "_law_row" f_Lrow)
  (F_Lrow:Fun K "_law_row" "_law_row" s_Lrow f_Lrow d_Lrow)
  (a_Lplan:QNs K "_law_plan" f_Lplan)
  (F_Lplan:Fun K "_law_plan" "_law_plan" s_Lplan f_Lplan d_Lplan)
  (a_Lmade:QNs K "_law_made" f_Lmade)
  (F_Lmade:Fun K "_law_made" "_law_made" s_Lmade f_Lmade d_Lmade)
  (a_Lpatch:QNs K "_law_patch" f_Lpatch)
  (F_Lpatch:Fun K "_law_patch" "_law_patch" s_Lpatch f_Lpatch d_Lpatch)
  (a_law:QNs K "law" f_law)
  (F_law:Fun K "law" "law" s_law f_law d_law)
  (aX_BadSize:QNs K "BadSize" C_BadSize)
  (aX_BadBit:QNs K "BadBit" C_BadBit)
  (aX_NoLine:QNs K "NoLine" C_NoLine)
  (aX_NoStep:QNs K "NoStep" C_NoStep)
  (aX_NoPoint:QNs K "NoPoint" C_NoPoint)
  (x_BadSize:QXc K C_BadSize)
  (x_BadBit:QXc K C_BadBit)
  (x_NoLine:QXc K C_NoLine)
  (x_NoStep:QXc K C_NoStep)
  (x_NoPoint:QXc K C_NoPoint)
  (v_LONGEST_SIDE:PySem.W.nsIn K mainGlobals "LONGEST_SIDE"=some (some (.int 40 tk_LONGEST_SIDE)))
  (z_isinstance:QNn K "isinstance")
  (z_int:QNn K "int")
  (z_bool:QNn K "bool")
  (z_all:QNn K "all")
  (z_len:QNn K "len")
  (z_tuple:QNn K "tuple")
  (z_list:QNn K "list")
  (z_range:QNn K "range")
  (z_abs:QNn K "abs")
  (z_str:QNn K "str")
  (z_zip:QNn K "zip")
  (z_ValueError:QNn K "ValueError")
  (z_sorted:QNn K "sorted")
  (z_min:QNn K "min")
  (z_max:QNn K "max")
  (z_reversed:QNn K "reversed"):∃ t:Ad,Txt K mg t :=
 ⟨{ a_Board:=C_Board,a_Cloth:=C_Cloth,f_isnumber:=f_isnumber,d_isnumber:=d_isnumber,f_isbelow:=f_isbelow,d_isbelow:=d_isbelow,f_isbit:=f_isbit,d_isbit:=d_isbit,f_allbits:=f_allbits,d_allbits:=d_allbits,f_isside:=f_isside,d_isside:=d_isside,f_BoardInit:=f_BoardInit,d_BoardInit:=d_BoardInit,f_ClothInit:=f_ClothInit,d_ClothInit:=d_ClothInit,f_Clothwide:=f_Clothwide,d_Clothwide:=d_Clothwide,f_Clothtall:=f_Clothtall,d_Clothtall:=d_Clothtall,f_Clothbitsalong:=f_Clothbitsalong,d_Clothbitsalong:=d_Clothbitsalong,f_Clothbit:=f_Clothbit,d_Clothbit:=d_Clothbit,f_Clothstitched:=f_Clothstitched,d_Clothstitched:=d_Clothstitched,f_sewnright:=f_sewnright,d_sewnright:=d_sewnright,f_sewnup:=f_sewnup,d_sewnup:=d_sewnup,f_joined:=f_joined,d_joined:=d_joined,f_walk:=f_walk,d_walk:=d_walk,f_toldround:=f_toldround,d_toldround:=d_toldround,f_toldopen:=f_toldopen,d_toldopen:=d_toldopen,f_seam:=f_seam,d_seam:=d_seam,f_firstpoint:=f_firstpoint,d_firstpoint:=d_firstpoint,f_seams:=f_seams,d_seams:=d_seams,f_rounds:=f_rounds,d_rounds:=d_rounds,f_box:=f_box,d_box:=d_box,f_walls:=f_walls,d_walls:=d_walls,f_inside:=f_inside,d_inside:=d_inside,f_area:=f_area,d_area:=d_area,f_Ldraws:=f_Ldraws,d_Ldraws:=d_Ldraws,f_Lbits:=f_Lbits,d_Lbits:=d_Lbits,f_Lrow:=f_Lrow,d_Lrow:=d_Lrow,f_Lplan:=f_Lplan,d_Lplan:=d_Lplan,f_Lmade:=f_Lmade,d_Lmade:=d_Lmade,f_Lpatch:=f_Lpatch,d_Lpatch:=d_Lpatch,f_law:=f_law,d_law:=d_law,a_BadSize:=C_BadSize,a_BadBit:=C_BadBit,a_NoLine:=C_NoLine,a_NoStep:=C_NoStep,a_NoPoint:=C_NoPoint,tk_LONGEST_SIDE:=tk_LONGEST_SIDE },⟨PySem.W.mg_of X G aC_Board,PySem.W.mg_of X G aC_Cloth,⟨pg_Cloth,hd_Cloth,po_Cloth,sa_Cloth⟩,⟨mk_Cloth,a_ClothInit,i_ClothInit,kc_Cloth⟩,na_columns_count,na_rows_count,na_col_bits,na_row_bits,na_first_colour,F_isnumber,F_isnumber.b1 fun _ _ _ _ _ _ _=>rfl,PySem.W.mg_of X G a_isnumber,F_isbelow,F_isbelow.b2 fun _ _ _ _ _ _ _ _=>rfl,PySem.W.mg_of X G a_isbelow,F_isbit,F_isbit.b1 fun _ _ _ _ _ _ _=>rfl,PySem.W.mg_of X G a_isbit,F_allbits,F_allbits.b1 fun _ _ _ _ _ _ _=>rfl,PySem.W.mg_of X G a_allbits,F_isside,F_isside.b1 fun _ _ _ _ _ _ _=>rfl,PySem.W.mg_of X G a_isside,F_BoardInit,F_BoardInit.b5 fun _ _ _ _ _ _ _ _ _ _ _=>rfl,⟨ga_Board,rd_Board,fc_BoardInit,F_BoardInit.kp⟩,F_ClothInit,F_ClothInit.b4 fun _ _ _ _ _ _ _ _ _ _=>rfl,F_Clothwide,F_Clothwide.b1 fun _ _ _ _ _ _ _=>rfl,⟨a_Clothwide,i_Clothwide,F_Clothwide.kp⟩,F_Clothtall,F_Clothtall.b1 fun _ _ _ _ _ _ _=>rfl,⟨a_Clothtall,i_Clothtall,F_Clothtall.kp⟩,F_Clothbitsalong,F_Clothbitsalong.b2 fun _ _ _ _ _ _ _ _=>rfl,⟨a_Clothbitsalong,i_Clothbitsalong,F_Clothbitsalong.kp⟩,F_Clothbit,F_Clothbit.b3 fun _ _ _ _ _ _ _ _ _=>rfl,⟨a_Clothbit,i_Clothbit,F_Clothbit.kp⟩,F_Clothstitched,F_Clothstitched.b4 fun _ _ _ _ _ _ _ _ _ _=>rfl,⟨a_Clothstitched,i_Clothstitched,F_Clothstitched.kp⟩,F_sewnright,F_sewnright.b3 fun _ _ _ _ _ _ _ _ _=>rfl,PySem.W.mg_of X G a_sewnright,F_sewnup,F_sewnup.b3 fun _ _ _ _ _ _ _ _ _=>rfl,PySem.W.mg_of X G a_sewnup,F_joined,F_joined.b2 fun _ _ _ _ _ _ _ _=>rfl,PySem.W.mg_of X G a_joined,F_walk,F_walk.b3 fun _ _ _ _ _ _ _ _ _=>rfl,PySem.W.mg_of X G a_walk,F_toldround,F_toldround.b2 fun _ _ _ _ _ _ _ _=>rfl,PySem.W.mg_of X G a_toldround,F_toldopen,F_toldopen.b2 fun _ _ _ _ _ _ _ _=>rfl,PySem.W.mg_of X G a_toldopen,F_seam,F_seam.b2 fun _ _ _ _ _ _ _ _=>rfl,PySem.W.mg_of X G a_seam,F_firstpoint,F_firstpoint.b1 fun _ _ _ _ _ _ _=>rfl,PySem.W.mg_of X G a_firstpoint,F_seams,F_seams.b1 fun _ _ _ _ _ _ _=>rfl,PySem.W.mg_of X G a_seams,F_rounds,F_rounds.b1 fun _ _ _ _ _ _ _=>rfl,PySem.W.mg_of X G a_rounds,F_box,F_box.b1 fun _ _ _ _ _ _ _=>rfl,PySem.W.mg_of X G a_box,F_walls,F_walls.b1 fun _ _ _ _ _ _ _=>rfl,PySem.W.mg_of X G a_walls,F_inside,F_inside.b1 fun _ _ _ _ _ _ _=>rfl,PySem.W.mg_of X G a_inside,F_area,F_area.b1 fun _ _ _ _ _ _ _=>rfl,PySem.W.mg_of X G a_area,F_Ldraws,F_Ldraws.b2 fun _ _ _ _ _ _ _ _=>rfl,PySem.W.mg_of X G a_Ldraws,F_Lbits,F_Lbits.b2 fun _ _ _ _ _ _ _ _=>rfl,PySem.W.mg_of X G a_Lbits,F_Lrow,F_Lrow.b2 fun _ _ _ _ _ _ _ _=>rfl,PySem.W.mg_of X G a_Lrow,F_Lplan,F_Lplan.b1 fun _ _ _ _ _ _ _=>rfl,PySem.W.mg_of X G a_Lplan,F_Lmade,F_Lmade.b1 fun _ _ _ _ _ _ _=>rfl,PySem.W.mg_of X G a_Lmade,F_Lpatch,F_Lpatch.b1 fun _ _ _ _ _ _ _=>rfl,PySem.W.mg_of X G a_Lpatch,F_law,F_law.b1 fun _ _ _ _ _ _ _=>rfl,PySem.W.mg_of X G a_law,PySem.W.mg_of X G aX_BadSize,PySem.W.mg_of X G aX_BadBit,PySem.W.mg_of X G aX_NoLine,PySem.W.mg_of X G aX_NoStep,PySem.W.mg_of X G aX_NoPoint,x_BadSize,x_BadBit,x_NoLine,x_NoStep,x_NoPoint,PySem.W.mg_of X G v_LONGEST_SIDE,PySem.W.mg_none_of X G z_isinstance,PySem.W.mg_none_of X G z_int,PySem.W.mg_none_of X G z_bool,PySem.W.mg_none_of X G z_all,PySem.W.mg_none_of X G z_len,PySem.W.mg_none_of X G z_tuple,PySem.W.mg_none_of X G z_list,PySem.W.mg_none_of X G z_range,PySem.W.mg_none_of X G z_abs,PySem.W.mg_none_of X G z_str,PySem.W.mg_none_of X G z_zip,PySem.W.mg_none_of X G z_ValueError,PySem.W.mg_none_of X G z_sorted,PySem.W.mg_none_of X G z_min,PySem.W.mg_none_of X G z_max,PySem.W.mg_none_of X G z_reversed⟩⟩
local macro_rules | `(tactic| walk_at "rdf1") => `(tactic| first
 | ((with_reducible refine' rd_var (v:=?kv) ?ke ?kh); (case ke=>exact rfl))
 | (with_reducible refine rd_seqA fun _ _=>?_) | (with_reducible refine rd_asg ?_) | (with_reducible refine rd_name ?_) | (with_reducible refine rd_ret ?_) | (with_reducible refine rd_retN ?_) | (with_reducible refine rd_drop ?_)
 | (with_reducible refine rd_ifS ?_) | (with_reducible refine rd_tB ?_) | (with_reducible refine rd_tTest ?_) | (with_reducible refine rd_exbl ?_) | (with_reducible refine rd_c ?_) | (with_reducible refine rd_op ?_) | (with_reducible refine rd_un ?_)
 | (with_reducible refine rd_andV ?_) | (with_reducible refine rd_orV ?_) | (with_reducible refine rd_notV ?_) | (with_reducible refine rd_and ?_) | (with_reducible refine rd_or ?_) | (with_reducible refine rd_not ?_) | (with_reducible refine rd_true ?_)
 | (with_reducible refine rd_I0 ?_) | (with_reducible refine rd_U ?_) | (with_reducible refine rd_eqI ?_) | (with_reducible refine rd_neI ?_) | (with_reducible refine rd_eqS ?_) | (with_reducible refine rd_eqB ?_) | (with_reducible refine rd_neB ?_)
 | (with_reducible refine rd_chain ?_) | (with_reducible refine rd_call ?_) | (with_reducible refine rd_nil ?_) | (with_reducible refine rd_cons ?_) | (with_reducible refine rd_CB ?_) | (with_reducible refine rd_tup ?_) | (with_reducible refine rd_lst ?_)
 | (with_reducible refine rd_next ?_) | (with_reducible refine rd_try2 ?_) | (with_reducible refine rd_thawE ?_) | (with_reducible refine rd_thawS ?_) | (with_reducible refine rd_ivals ?_) | (with_reducible refine rd_iitems ?_) | ((with_reducible refine' rd_aug (x:=?kv) ?ke ?kh); (case ke=>exact rfl)) | (with_reducible refine rd_ipI ?_) | (with_reducible refine rd_gcons ?_) | (with_reducible refine rd_gnil ?_) | (with_reducible refine rd_gsub ?_) | (with_reducible refine rd_sfld ?_) | (with_reducible refine rd_while ?_) | (with_reducible refine rd_comp ?_) | (with_reducible refine rd_fld ?_) | (with_reducible refine rd_meth ?_) | (with_reducible refine rd_make ?_) | (with_reducible refine rd_raise ?_) | (with_reducible refine rd_try ?_) | (with_reducible refine rd_callS ?_) | (with_reducible refine rd_methS ?_) | (with_reducible refine rd_makeS ?_) | (with_reducible refine rd_bm ?_) | (with_reducible refine rd_bm0 ?_) | (with_reducible refine rd_sl ?_) | (with_reducible refine rd_nopart ?_) | (with_reducible refine rd_part ?_) | (with_reducible refine rd_exint ?_) | (with_reducible refine rd_exref ?_)
 | (with_reducible refine rd_if ?_) | (with_reducible refine rd_augS ?_) | (with_reducible refine rd_dput ?_) | (with_reducible refine rd_din ?_) | (with_reducible refine rd_dnotin ?_) | (with_reducible refine rd_dnewT ?_) | (with_reducible refine rd_dnewK ?_) | (with_reducible refine rd_par ?_) | (with_reducible refine rd_dget ?_) | (with_reducible refine rd_disp1 ?_) | (with_reducible refine rd_dget1 ?_) | (with_reducible refine rd_dget2 ?_) | (with_reducible refine rd_dpop1 ?_) | (with_reducible refine rd_rng3 ?_) | (with_reducible refine rd_ienum ?_) | (with_reducible refine rd_abs ?_) | (with_reducible refine rd_min2 ?_) | (with_reducible refine rd_max2 ?_) | (with_reducible refine rd_intB ?_) | (with_reducible refine rd_for ?_) | (with_reducible refine rd_rng1 ?_) | (with_reducible refine rd_ilist ?_) | (with_reducible refine rd_itup ?_) | (with_reducible refine rd_izipS ?_) | (with_reducible refine iteT ?_) | (with_reducible refine iteF ?_) | (with_reducible refine if_true_do ?_) | (with_reducible refine iteNN ?_) | (with_reducible refine iteTA ?_) | (with_reducible refine iteFA ?_) | ((with_reducible refine' rd_cut (r:=?kr) ?ke ?kh); (case ke=>assumption)) | (dsimp only))
local macro_rules | `(tactic| walk_at "rdf") => `(tactic| repeat walk_at "rdf1")
section
variable {P:Program} {w:World} {K:PySem.W.Frag} {mg:Str→Option Value} {base:Heap} {t:Ad}
def isBit (i:Int):Bool:=decide (0≤i)&&decide (i<2)
def sp_isnumber:Sp:=fun vs H Q _=>∃ i,vs=[.int i]∧Q (.bl true) H
theorem ok_isnumber (T:Txt K mg t):FnOk P w K mg base CX0 1 t.f_isnumber t.d_isnumber ["value"] sp_isnumber:=by
 refine T.F_isnumber.ok sc_isnumber (fun vs H Q E h=>?_) (fun cdv A outer s H vs Q E hr h=>?_)
 ·obtain ⟨i,rfl,_⟩:=h; rfl
 ·obtain ⟨i,rfl,k⟩:=h
  refine ⟨_,(pss_one (ps_ret (pe_and (pe_callB (cI_isinstK K rfl) rfl T.no_isinstance (by rfl) (pa_cons (pv 0) (pa_cons (pe_bltn (v:=.ty "int") rfl T.no_int (by rfl:bootBuiltins "int"=some (.type "int")) rfl) pa_nil))) (pe_one (pe_not (pe_callB (cI_isinstK K rfl) rfl T.no_isinstance (by rfl) (pa_cons (pv 0) (pa_cons (pe_bltn (v:=.ty "bool") rfl T.no_bool (by rfl:bootBuiltins "bool"=some (.type "bool")) rfl) pa_nil)))))))),?_⟩
  walk_at "rdf"
  refine rd_isi (.int i) kit_ii ?_
  walk_at "rdf"
  refine rd_isi (.int i) kit_ib ?_
  walk_at "rdf"
  exact k
def sp_isbelow:Sp:=fun vs H Q _=>∃ i b,vs=[.int i,.int b]∧Q (.bl (decide (0≤i)&&decide (i<b))) H
theorem ok_isbelow (T:Txt K mg t):FnOk P w K mg base CX0 2 t.f_isbelow t.d_isbelow ["value","bound"] sp_isbelow:=by
 have G_isnumber:=ok_isnumber (P:=P) (w:=w) (base:=base) T
 refine T.F_isbelow.ok sc_isbelow (fun vs H Q E h=>?_) (fun cdv A outer s H vs Q E hr h=>?_)
 ·obtain ⟨i,b,rfl,_⟩:=h; rfl
 ·obtain ⟨i,b,rfl,k⟩:=h
  refine ⟨_,(pss_one (ps_ret (pe_and (pe_call G_isnumber (hr.mono (by first | decide | omega)) rfl T.mg_isnumber T.F_isnumber.kp T.b_isnumber .nil pass0 (pa_cons (pv 0) pa_nil)) (pe_one (pe_chain op_le op_lt pe_int (pv 0) (pv 1)))))),?_⟩
  walk_at "rdf"
  refine ⟨i,rfl,?_⟩
  walk_at "rdf"
  refine ite2 (fun h0=>?_) (fun h0=>?_)
  ·walk_at "rdf"
   rw [h0] at k
   exact k
  ·rw [Bool.not_eq_true] at h0
   rw [h0] at k
   exact k
def sp_isbit:Sp:=fun vs H Q _=>∃ i,vs=[.int i]∧Q (.bl (isBit i)) H
theorem ok_isbit (T:Txt K mg t):FnOk P w K mg base CX0 3 t.f_isbit t.d_isbit ["value"] sp_isbit:=by
 have G_isbelow:=ok_isbelow (P:=P) (w:=w) (base:=base) T
 refine T.F_isbit.ok sc_isbit (fun vs H Q E h=>?_) (fun cdv A outer s H vs Q E hr h=>?_)
 ·obtain ⟨i,rfl,_⟩:=h; rfl
 ·obtain ⟨i,rfl,k⟩:=h
  refine ⟨_,(pss_one (ps_ret (pe_call G_isbelow (hr.mono (by first | decide | omega)) rfl T.mg_isbelow T.F_isbelow.kp T.b_isbelow .nil pass0 (pa_cons (pv 0) (pa_cons pe_int pa_nil))))),?_⟩
  walk_at "rdf"
  exact ⟨i,2,rfl,k⟩
def isSide (n:Int):Bool:=decide (0<n)&&decide (n<41)
def sp_isside:Sp:=fun vs H Q _=>∃ i,vs=[.int i]∧Q (.bl (isSide i)) H
theorem ok_isside (T:Txt K mg t):FnOk P w K mg base CX0 3 t.f_isside t.d_isside ["count"] sp_isside:=by
  have G_isbelow:=ok_isbelow (P:=P) (w:=w) (base:=base) T
  refine T.F_isside.ok sc_isside (fun vs H Q E h=>?_) (fun cdv A outer s H vs Q E hr h=>?_)
  · obtain ⟨i,rfl,_⟩:=h; rfl
  · obtain ⟨i,rfl,k⟩:=h
    refine ⟨_,(pss_one (ps_ret (pe_and (pe_call G_isbelow (hr.mono (by first | decide | omega)) rfl T.mg_isbelow T.F_isbelow.kp T.b_isbelow .nil pass0 (pa_cons (pv 0) (pa_cons (pe_op op_add (pe_glob (v:=.int 40) rfl T.mg_LONGEST_SIDE ⟨_,rfl⟩) pe_int) pa_nil))) (pe_one (pe_cmpR op_gt (pv 0) pe_int (nomark _)))))),?_⟩
    walk_at "rdf"
    refine ⟨i,_,rfl,?_⟩
    walk_at "rdf"
    refine ite2 (fun h0=>?_) (fun h0=>?_)
    · walk_at "rdf"
      have e:isSide i=decide (0<i):=by
        rw [Bool.and_eq_true,decide_eq_true_eq,decide_eq_true_eq] at h0
        unfold isSide
        rw [decide_eq_true (by omega:i<41),Bool.and_true]
      rw [e] at k
      exact k
    · have e:isSide i=false:=by
        rw [Bool.and_eq_true,decide_eq_true_eq,decide_eq_true_eq] at h0
        unfold isSide
        by_cases hi:0<i
        · rw [decide_eq_false (by omega:¬ i<41),Bool.and_false]
        · rw [decide_eq_false hi,Bool.false_and]
      rw [e] at k
      exact k
theorem side_len {n:Nat}:isSide ((n:Int)+1)=decide (n≤39):=by
 unfold isSide
 rw [decide_eq_true (by omega:(0:Int)<(n:Int)+1),Bool.true_and]
 exact decide_eq_decide.mpr (by omega)
end
section
variable {P:Program} {w:World} {K:PySem.W.Frag} {mg:Str→Option Value} {base:Heap} {t:Ad}
def sp_allbits:Sp:=fun vs H Q _=>∃ (p:Addr) (ns:List Int),vs=[.ref p]∧H p=some (.lst (ns.map V.int))∧ns.length≤1000∧∀ H',Same H H'→Q (.bl (ns.all isBit)) H'
theorem ok_allbits (T:Txt K mg t):FnOk P w K mg base CX0 4 t.f_allbits t.d_allbits ["values"] sp_allbits:=by
 have G_isbit:=ok_isbit (P:=P) (w:=w) (base:=base) T
 refine T.F_allbits.ok sc_allbits (fun vs H Q E h=>?_) (fun cdv A outer s H vs Q E hr h=>?_)
 ·obtain ⟨p,ns,rfl,_⟩:=h; rfl
 ·obtain ⟨p,ns,rfl,hp,hl,k⟩:=h
  refine ⟨_,(pss_one (ps_ret (pe_callB (cI_allK K rfl rfl) rfl T.no_all (by rfl) (pa_cons (pe_comp (N:=["value"]) (cap:=[none]) rfl ⟨rfl,rfl,rfl,rfl,rfl,rfl⟩ (pi_list (pv 0)) (fun _ _ _=>(pg_name (i:=0) (show (["value"]:List Str).Nodup by decide +kernel) rfl (Or.inl rfl))) (fun _ _ _=>pts_nil) (fun _ _ _=>(pe_call G_isbit (hr.mono (by first | decide | omega)) rfl T.mg_isbit T.F_isbit.kp T.b_isbit .nil pass0 (pa_cons (pv 0) pa_nil)))) pa_nil)))),?_⟩
  walk_at "rdf"
  refine ⟨⟨_,SqL.of hp⟩,fun l hn=>?_⟩
  refine compW_list (fun v=>match v with | .int i=>.bl (isBit i) | _=>.non) (SqL.of hp) (by rw [List.length_map]; exact hl) hn (fun x o H' Q' hx s1 q=>?_) (fun H' s1 e=>?_)
  ·obtain ⟨i,_,rfl⟩:=List.mem_map.mp hx
   walk_at "rdf"
   exact ⟨i,rfl,q H' (Same.refl _)⟩
  ·walk_at "rdf"
   have e':H' l=some (.lst ((ns.map isBit).map V.bl)):=by rw [e,List.map_map,List.map_map]; rfl
   refine rd_all e' ?_
   rw [List.all_map]
   exact k H' s1
def bfl (a b:Addr) (w h:Int):List (Str×V):=putF "row_bits" (.ref b) (putF "col_bits" (.ref a) (putF "rows_count" (.int h) (putF "columns_count" (.int w) [])))
def cfl (s:Int) (a b:Addr) (w h:Int):List (Str×V):=putF "first_colour" (.int s) (bfl a b w h)
abbrev NoF (m:Str):Prop:=((¬ m="first_colour")∧¬ m="col_bits")∧(¬ m="row_bits")∧(¬ m="columns_count")∧¬ m="rows_count"
theorem bfl_w {w h:Int} (a b:Addr):(bfl a b w h).lookup ("columns_count":Str)=some (.int w):=by
 unfold bfl; rw [lookup_putF,if_neg (by decide +kernel),lookup_putF,if_neg (by decide +kernel),lookup_putF,if_neg (by decide +kernel),lookup_putF,if_pos rfl]
theorem bfl_h {w h:Int} (a b:Addr):(bfl a b w h).lookup ("rows_count":Str)=some (.int h):=by
 unfold bfl; rw [lookup_putF,if_neg (by decide +kernel),lookup_putF,if_neg (by decide +kernel),lookup_putF,if_pos rfl]
theorem bfl_c {w h:Int} (a b:Addr):(bfl a b w h).lookup ("col_bits":Str)=some (.ref a):=by
 unfold bfl; rw [lookup_putF,if_neg (by decide +kernel),lookup_putF,if_pos rfl]
theorem bfl_r {w h:Int} (a b:Addr):(bfl a b w h).lookup ("row_bits":Str)=some (.ref b):=by
 unfold bfl; rw [lookup_putF,if_pos rfl]
theorem bfl_no {w h:Int} (a b:Addr) {m:Str} (n:NoF m):(bfl a b w h).lookup m=none:=by
 obtain ⟨⟨n1,n2⟩,n3,n4,n5⟩:=n
 unfold bfl; rw [lookup_putF,if_neg n3,lookup_putF,if_neg n2,lookup_putF,if_neg n5,lookup_putF,if_neg n4]; rfl
theorem cfl_w {w h:Int} (s:Int) (a b:Addr):(cfl s a b w h).lookup ("columns_count":Str)=some (.int w):=by
 unfold cfl; rw [lookup_putF,if_neg (by decide +kernel),bfl_w]
theorem cfl_h {w h:Int} (s:Int) (a b:Addr):(cfl s a b w h).lookup ("rows_count":Str)=some (.int h):=by
 unfold cfl; rw [lookup_putF,if_neg (by decide +kernel),bfl_h]
theorem cfl_c {w h:Int} (s:Int) (a b:Addr):(cfl s a b w h).lookup ("col_bits":Str)=some (.ref a):=by
 unfold cfl; rw [lookup_putF,if_neg (by decide +kernel),bfl_c]
theorem cfl_r {w h:Int} (s:Int) (a b:Addr):(cfl s a b w h).lookup ("row_bits":Str)=some (.ref b):=by
 unfold cfl; rw [lookup_putF,if_neg (by decide +kernel),bfl_r]
theorem cfl_no {w h:Int} (s:Int) (a b:Addr) {m:Str} (n:NoF m):(cfl s a b w h).lookup m=none:=by
 unfold cfl; rw [lookup_putF,if_neg n.1.1,bfl_no _ _ n]
structure BoardAt (C:Addr) (H:Hp) (p:Addr) (w h:Int) (cs rs:List Int):Prop where
 ob:∃ dx a b,H p=some (.ins C dx (bfl a b w h))∧H a=some (.tup (cs.map V.int))∧H b=some (.tup (rs.map V.int))
structure ClothAt (C:Addr) (H:Hp) (p:Addr) (s:Int) (cs rs:List Int):Prop where
 ob:∃ dx a b,H p=some (.ins C dx (cfl s a b ((cs.length:Int)+1) ((rs.length:Int)+1)))∧H a=some (.tup (cs.map V.int))∧H b=some (.tup (rs.map V.int))
theorem ClothAt.mono {C:Addr} {H H':Hp} {p:Addr} {s:Int} {cs rs:List Int} (e:Same H H') (c:ClothAt C H p s cs rs):ClothAt C H' p s cs rs:=by
 obtain ⟨dx,a,b,h1,h2,h3⟩:=c.ob
 exact ⟨dx,a,b,e _ _ h1,e _ _ h2,e _ _ h3⟩
def Bits (l:List Int):Prop:=l.length≤39∧∀ z∈l,z=0∨z=1
theorem Bits.all {l:List Int} (h:Bits l):l.all isBit=true:=by
 rw [List.all_eq_true]
 intro z hz
 rcases h.2 z hz with rfl | rfl<;>rfl
def KpBut (H:Hp) (p:Addr) (H':Hp):Prop:=∀ b o,H b=some o→b≠p→H' b=some o
def bitsOk (s:Int) (cs rs:List Int):Bool:=isBit s&&(cs.all isBit&&rs.all isBit)
theorem Bits.ok {s:Int} {cs rs:List Int} (hs:s=0∨s=1) (bc:Bits cs) (br:Bits rs):bitsOk s cs rs=true:=by
 unfold bitsOk
 rw [bc.all,br.all]
 rcases hs with rfl | rfl<;>rfl
def spx_BoardInit (C BB:Addr):Sp:=fun vs H Q E=>∃ (p dx c r:Addr) (w h:Int) (cs rs:List Int),vs=[.ref p,.int w,.int h,.ref c,.ref r]∧H p=some (.ins C dx [])∧H c=some (.lst (cs.map V.int))∧H r=some (.lst (rs.map V.int)) ∧
 cs.length≤1000∧rs.length≤1000∧(((cs.all isBit&&rs.all isBit)=false∧∀ H',Same H H'→E (.ref BB) none H') ∨
  ((cs.all isBit&&rs.all isBit)=true∧∀ H',KpBut H p H'→BoardAt C H' p w h cs rs→Q .non H'))
theorem okx_BoardInit (T:Txt K mg t):FnOk P w K mg base (CX1 P w) 5 t.f_BoardInit t.d_BoardInit ["self","wide","tall","cols","rows"] (spx_BoardInit t.a_Cloth t.a_BadBit):=by
 have G_allbits:=ok_allbits (P:=P) (w:=w) (base:=base) T
 refine T.F_BoardInit.ok1 sc_BoardInit (fun vs H Q E h=>?_) (fun cdv A outer s H vs Q E hr h=>?_)
 ·obtain ⟨p,dx,c,r,wd,ht,cs,rs,rfl,_⟩:=h; rfl
 ·obtain ⟨p,dx,c,r,wd,ht,cs,rs,rfl,hp,hc,hr',lc,lr,k⟩:=h
  refine cutC (ps_if (pt_not (PW.pt (pw_and (pt_val (pe_call G_allbits.up (hr.mono (by first | decide | omega)) rfl T.mg_allbits T.F_allbits.kp T.b_allbits .nil pass1 (pa_cons (pv 3) pa_nil))) (pw_and1 (pt_val (pe_call G_allbits.up (hr.mono (by first | decide | omega)) rfl T.mg_allbits T.F_allbits.kp T.b_allbits .nil pass1 (pa_cons (pv 4) pa_nil))))))) (pss_one (ps_raiseK T.mg_BadBit T.x_BadBit PySem.F.excBase_ValueError rfl rfl (fun _ _ _ _ _ _ _ _ I m q=>xe_new I m q) (pa_cons pe_str pa_nil))) pss_nil) fun _ _=>cutC (ps_fld (pv 0) (pv 1) rfl) fun _ _=>cutC (ps_fld (pv 0) (pv 2) rfl) fun _ _=>cutC (ps_fld (pv 0) (pe_callTy (cI_tupleK K rfl) rfl T.no_tuple (by rfl) (pa_cons (pv 3) pa_nil)) rfl) fun _ _=>cutE (ps_fld (pv 0) (pe_callTy (cI_tupleK K rfl) rfl T.no_tuple (by rfl) (pa_cons (pv 4) pa_nil)) rfl) fun _ _=>?_
  walk_at "rdf"
  refine ⟨c,cs,rfl,hc,lc,fun H1 s1=>?_⟩
  cases b2:cs.all isBit with
  | false =>
   walk_at "rdf"
   refine ⟨by show 1≤sizeLine; decide,?_⟩
   rcases k with ⟨_,e⟩ | ⟨y,_⟩
   ·exact e _ s1
   ·rw [b2] at y; cases y
  | true =>
   walk_at "rdf"
   refine ⟨r,rs,rfl,s1 _ _ hr',lr,fun H2 s2=>?_⟩
   have s12:=s1.trans s2
   cases b3:rs.all isBit with
   | false =>
    walk_at "rdf"
    refine ⟨by show 1≤sizeLine; decide,?_⟩
    rcases k with ⟨_,e⟩ | ⟨y,_⟩
    ·exact e _ s12
    ·rw [b2,b3] at y; cases y
   | true =>
    walk_at "rdf"
    have k:∀ H',KpBut H p H'→BoardAt t.a_Cloth H' p wd ht cs rs→Q .non H':=by
     rcases k with ⟨y,_⟩ | ⟨_,z⟩
     ·rw [b2,b3] at y; cases y
     ·exact z
    have npc:c≠p:=ne_of hc hp (by intro z; cases z)
    have npr:r≠p:=ne_of hr' hp (by intro z; cases z)
    refine rd_sfldv (s12 _ _ hp) T.cl_Cloth T.na_columns_count (by show 0<1000; decide) ?_
    walk_at "rdf"
    refine rd_sfldv upd_same T.cl_Cloth T.na_rows_count (Nat.lt_of_le_of_lt (length_putF _ _ _) (by show 1<1000; decide)) ?_
    rw [upd_upd]
    walk_at "rdf"
    refine rd_tupleL (by rw [upd_ne npc]; exact s12 _ _ hc) fun a ha=>?_
    have pa:p≠a:=by intro z; subst z; rw [upd_same] at ha; cases ha
    walk_at "rdf"
    refine rd_sfldv (by rw [upd_ne pa,upd_same]) T.cl_Cloth T.na_col_bits (Nat.lt_of_le_of_lt (length_putF _ _ _) (Nat.lt_of_le_of_lt (Nat.succ_le_succ (length_putF _ _ _)) (by show 2<1000; decide))) ?_
    walk_at "rdf"
    have ra:r≠a:=by intro z; subst z; rw [upd_ne npr,s12 _ _ hr'] at ha; cases ha
    refine rd_tupleL (by rw [upd_ne npr,upd_ne ra,upd_ne npr]; exact s12 _ _ hr') fun b hb=>?_
    have pb:p≠b:=by intro z; subst z; rw [upd_same] at hb; cases hb
    have ab:a≠b:=by intro z; subst z; rw [upd_ne pa.symm,upd_same] at hb; cases hb
    walk_at "rdf"
    refine rd_sfldv (by rw [upd_ne pb,upd_same]) T.cl_Cloth T.na_row_bits (Nat.lt_of_le_of_lt (length_putF _ _ _) (Nat.lt_of_le_of_lt (Nat.succ_le_succ (length_putF _ _ _)) (Nat.lt_of_le_of_lt (Nat.succ_le_succ (Nat.succ_le_succ (length_putF _ _ _))) (by show 3<1000; decide)))) ?_
    walk_at "rdf"
    refine k _ (fun x o e hx=>?_) ⟨⟨dx,a,b,upd_same,?_,?_⟩⟩
    ·have e2:=s12 _ _ e
     have xa:x≠a:=by intro z; subst z; rw [upd_ne hx,e2] at ha; cases ha
     have xb:x≠b:=by intro z; subst z; rw [upd_ne hx,upd_ne xa,upd_ne hx,e2] at hb; cases hb
     rw [upd_ne hx,upd_ne xb,upd_ne hx,upd_ne xa,upd_ne hx]
     exact e2
    ·rw [upd_ne pa.symm,upd_ne ab,upd_ne pa.symm,upd_same]
    ·rw [upd_ne pb.symm,upd_same]
def spx_ClothInit (C BS BB:Addr):Sp:=fun vs H Q E=>∃ (p dx c r:Addr) (s:Int) (cs rs:List Int),vs=[.ref p,.int s,.ref c,.ref r]∧H p=some (.ins C dx [])∧H c=some (.lst (cs.map V.int))∧H r=some (.lst (rs.map V.int)) ∧
 cs.length≤1000∧rs.length≤1000∧((¬ (cs.length≤39∧rs.length≤39)∧E (.ref BS) none H)∨((cs.length≤39∧rs.length≤39)∧bitsOk s cs rs=false∧∀ H',KpBut H p H'→E (.ref BB) none H') ∨
  ((cs.length≤39∧rs.length≤39)∧bitsOk s cs rs=true∧∀ H',KpBut H p H'→ClothAt C H' p s cs rs→Q .non H'))
theorem okx_ClothInit (T:Txt K mg t):FnOk P w K mg base (CX1 P w) 6 t.f_ClothInit t.d_ClothInit ["self","shade","cols","rows"] (spx_ClothInit t.a_Cloth t.a_BadSize t.a_BadBit):=by
 have G_isbit:=ok_isbit (P:=P) (w:=w) (base:=base) T
 have GX_BoardInit:=okx_BoardInit (P:=P) (w:=w) (base:=base) T
 have G_isside:=ok_isside (P:=P) (w:=w) (base:=base) T
 refine T.F_ClothInit.ok1 sc_ClothInit (fun vs H Q E h=>?_) (fun cdv A outer s H vs Q E hr h=>?_)
 ·obtain ⟨p,dx,c,r,s,cs,rs,rfl,_⟩:=h; rfl
 ·obtain ⟨p,dx,c,r,s,cs,rs,rfl,hp,hc,hr',lc,lr,k⟩:=h
  refine cutC (ps_if (pt_not (PW.pt (pw_and (pt_val (pe_call G_isside.up (hr.mono (by first | decide | omega)) rfl T.mg_isside T.F_isside.kp T.b_isside .nil pass1 (pa_cons (pe_op op_add (pe_callB (cI_lenK K rfl) rfl T.no_len (by rfl) (pa_cons (pv 2) pa_nil)) pe_int) pa_nil))) (pw_and1 (pt_val (pe_call G_isside.up (hr.mono (by first | decide | omega)) rfl T.mg_isside T.F_isside.kp T.b_isside .nil pass1 (pa_cons (pe_op op_add (pe_callB (cI_lenK K rfl) rfl T.no_len (by rfl) (pa_cons (pv 3) pa_nil)) pe_int) pa_nil))))))) (pss_one (ps_raiseK T.mg_BadSize T.x_BadSize PySem.F.excBase_ValueError rfl rfl (fun _ _ _ _ _ _ _ _ I m q=>xe_new I m q) (pa_cons pe_str pa_nil))) pss_nil) fun _ _=>cutC (ps_if (pt_not (pt_val (pe_call G_isbit.up (hr.mono (by first | decide | omega)) rfl T.mg_isbit T.F_isbit.kp T.b_isbit .nil pass1 (pa_cons (pv 1) pa_nil)))) (pss_one (ps_raiseK T.mg_BadBit T.x_BadBit PySem.F.excBase_ValueError rfl rfl (fun _ _ _ _ _ _ _ _ I m q=>xe_new I m q) (pa_cons pe_str pa_nil))) pss_nil) fun _ _=>cutC (ps_expr (pe_callC rfl T.mg_Board T.cf_BoardInit GX_BoardInit (hr.mono (by first | decide | omega)) T.b_BoardInit .nil pass1 (pa_cons (pv 0) (pa_cons (pe_op op_add (pe_callB (cI_lenK K rfl) rfl T.no_len (by rfl) (pa_cons (pv 2) pa_nil)) pe_int) (pa_cons (pe_op op_add (pe_callB (cI_lenK K rfl) rfl T.no_len (by rfl) (pa_cons (pv 3) pa_nil)) pe_int) (pa_cons (pv 2) (pa_cons (pv 3) pa_nil))))))) fun _ _=>cutE (ps_fld (pv 0) (pv 1) rfl) fun _ _=>?_
  walk_at "rdf"
  refine rd_lenL hc ?_
  walk_at "rdf"
  refine ⟨_,rfl,?_⟩
  rw [List.length_map,side_len]
  have sz:(¬ (cs.length≤39∧rs.length≤39)→E (.ref t.a_BadSize) none H):=fun n=>by
   rcases k with ⟨_,e⟩ | ⟨z,_⟩ | ⟨z,_⟩
   ·exact e
   ·exact absurd z n
   ·exact absurd z n
  by_cases c1:cs.length≤39
  ·rw [decide_eq_true c1]
   walk_at "rdf"
   refine rd_lenL hr' ?_
   walk_at "rdf"
   refine ⟨_,rfl,?_⟩
   rw [List.length_map,side_len]
   by_cases c2:rs.length≤39
   ·rw [decide_eq_true c2]
    walk_at "rdf"
    have k:(bitsOk s cs rs=false∧∀ H',KpBut H p H'→E (.ref t.a_BadBit) none H')∨(bitsOk s cs rs=true∧∀ H',KpBut H p H'→ClothAt t.a_Cloth H' p s cs rs→Q .non H'):=by
     rcases k with ⟨z,_⟩ | ⟨_,z⟩ | ⟨_,z⟩
     ·exact absurd ⟨c1,c2⟩ z
     ·exact .inl z
     ·exact .inr z
    have bad:∀ H',bitsOk s cs rs=false→Same H H'→E (.ref t.a_BadBit) none H':=fun H' z sm=>by
     rcases k with ⟨_,e⟩ | ⟨y,_⟩
     ·exact e H' fun b o eb _=>sm b o eb
     ·rw [z] at y; cases y
    refine ⟨s,rfl,?_⟩
    cases b1:isBit s with
    | false =>
     walk_at "rdf"
     refine ⟨by show 1≤sizeLine; decide,?_⟩
     exact bad _ (by unfold bitsOk; rw [b1]; rfl) (Same.refl _)
    | true =>
     walk_at "rdf"
     refine rd_lenL hc ?_
     walk_at "rdf"
     refine rd_lenL hr' ?_
     walk_at "rdf"
     rw [List.length_map,List.length_map]
     refine ⟨p,dx,c,r,_,_,cs,rs,rfl,hp,hc,hr',lc,lr,?_⟩
     cases b2:(cs.all isBit&&rs.all isBit) with
     | false=>exact .inl ⟨rfl,fun H' s1=>bad _ (by unfold bitsOk; rw [b2,Bool.and_false]) s1⟩
     | true =>
      refine .inr ⟨rfl,fun H' kp ⟨dx',a,b,h1,h2,h3⟩=>?_⟩
      have k:∀ H',KpBut H p H'→ClothAt t.a_Cloth H' p s cs rs→Q .non H':=by
       rcases k with ⟨y,_⟩ | ⟨_,z⟩
       ·unfold bitsOk at y; rw [b1,b2] at y; cases y
       ·exact z
      walk_at "rdf"
      refine rd_sfldv h1 T.cl_Cloth T.na_first_colour (by unfold bfl; exact Nat.lt_of_le_of_lt (length_putF _ _ _) (Nat.lt_of_le_of_lt (Nat.succ_le_succ (length_putF _ _ _)) (Nat.lt_of_le_of_lt (Nat.succ_le_succ (Nat.succ_le_succ (length_putF _ _ _))) (Nat.lt_of_le_of_lt (Nat.succ_le_succ (Nat.succ_le_succ (Nat.succ_le_succ (length_putF _ _ _)))) (by show 4<1000; decide))))) ?_
      walk_at "rdf"
      have pa:a≠p:=ne_of h2 h1 (by intro z; cases z)
      have pb:b≠p:=ne_of h3 h1 (by intro z; cases z)
      refine k _ (fun x o e hx=>?_) ⟨⟨dx',a,b,upd_same,?_,?_⟩⟩
      ·rw [upd_ne hx]; exact kp x o e hx
      ·rw [upd_ne pa]; exact h2
      ·rw [upd_ne pb]; exact h3
   ·rw [decide_eq_false c2]
    walk_at "rdf"
    exact ⟨by show 1≤sizeLine; decide,sz fun z=>c2 z.2⟩
  ·rw [decide_eq_false c1]
   walk_at "rdf"
   exact ⟨by show 1≤sizeLine; decide,sz fun z=>c1 z.1⟩
def sp_ClothInit (C:Addr):Sp:=fun vs H Q _=>∃ (p dx c r:Addr) (s:Int) (cs rs:List Int),vs=[.ref p,.int s,.ref c,.ref r]∧H p=some (.ins C dx [])∧H c=some (.lst (cs.map V.int))∧H r=some (.lst (rs.map V.int)) ∧
 (s=0∨s=1)∧Bits cs∧Bits rs∧∀ H',(∀ b o,H b=some o→b≠p→H' b=some o)→ClothAt C H' p s cs rs→Q .non H'
theorem ok_ClothInit (T:Txt K mg t):FnOk P w K mg base CX0 6 t.f_ClothInit t.d_ClothInit ["self","shade","cols","rows"] (sp_ClothInit t.a_Cloth) :=
 (okx_ClothInit T).down fun vs H Q E hh=>by
  obtain ⟨p,dx,c,r,s,cs,rs,e,hp,hc,hr,hs,bc,br,k⟩:=hh
  exact ⟨p,dx,c,r,s,cs,rs,e,hp,hc,hr,by have:=bc.1; omega,by have:=br.1; omega,.inr (.inr ⟨⟨bc.1,br.1⟩,Bits.ok hs bc br,k⟩)⟩
end
section
variable {P:Program} {w:World} {K:PySem.W.Frag} {mg:Str→Option Value} {base:Heap} {t:Ad}
def sp_Clothwide (C:Addr):Sp:=fun vs H Q _=>∃ (p:Addr) (s:Int) (cs rs:List Int),vs=[.ref p]∧ClothAt C H p s cs rs∧Q (.int ((cs.length:Int)+1)) H
theorem ok_Clothwide (T:Txt K mg t):FnOk P w K mg base CX0 1 t.f_Clothwide t.d_Clothwide ["self"] (sp_Clothwide t.a_Cloth):=by
 refine T.F_Clothwide.ok sc_Clothwide (fun vs H Q E h=>?_) (fun cdv A outer s H vs Q E hr h=>?_)
 ·obtain ⟨p,s,cs,rs,rfl,_⟩:=h; rfl
 ·obtain ⟨p,s,cs,rs,rfl,⟨dx,a,b,h1,h2,h3⟩,k⟩:=h
  refine ⟨_,(pss_one (ps_ret (pe_fldK K rfl (pv 0) rfl))),?_⟩
  walk_at "rdf"
  refine rd_fldv h1 T.cl_Cloth T.na_columns_count (cfl_w _ _ _) ?_
  walk_at "rdf"
  exact k
def sp_Clothtall (C:Addr):Sp:=fun vs H Q _=>∃ (p:Addr) (s:Int) (cs rs:List Int),vs=[.ref p]∧ClothAt C H p s cs rs∧Q (.int ((rs.length:Int)+1)) H
theorem ok_Clothtall (T:Txt K mg t):FnOk P w K mg base CX0 1 t.f_Clothtall t.d_Clothtall ["self"] (sp_Clothtall t.a_Cloth):=by
 refine T.F_Clothtall.ok sc_Clothtall (fun vs H Q E h=>?_) (fun cdv A outer s H vs Q E hr h=>?_)
 ·obtain ⟨p,s,cs,rs,rfl,_⟩:=h; rfl
 ·obtain ⟨p,s,cs,rs,rfl,⟨dx,a,b,h1,h2,h3⟩,k⟩:=h
  refine ⟨_,(pss_one (ps_ret (pe_fldK K rfl (pv 0) rfl))),?_⟩
  walk_at "rdf"
  refine rd_fldv h1 T.cl_Cloth T.na_rows_count (cfl_h _ _ _) ?_
  walk_at "rdf"
  exact k
def IsWay (w:Str) (cs rs bs:List Int):Prop:=(w="col"∧bs=cs)∨(w="row"∧bs=rs)
theorem rc_ne:¬ (("row":Str)="col"):=by decide +kernel
def spx_Clothbitsalong (C NL:Addr):Sp:=fun vs H Q E=>∃ (p:Addr) (w:Str) (s:Int) (cs rs:List Int),vs=[.ref p,.str w]∧ClothAt C H p s cs rs ∧
 ((∃ bs,IsWay w cs rs bs∧∀ a,H a=some (.tup (bs.map V.int))→Q (.ref a) H)∨(¬ w="col"∧¬ w="row"∧E (.ref NL) none H))
theorem okx_Clothbitsalong (T:Txt K mg t):FnOk P w K mg base (CX1 P w) 1 t.f_Clothbitsalong t.d_Clothbitsalong ["self","way"] (spx_Clothbitsalong t.a_Cloth t.a_NoLine):=by
 refine T.F_Clothbitsalong.ok1 sc_Clothbitsalong (fun vs H Q E h=>?_) (fun cdv A outer s H vs Q E hr h=>?_)
 ·obtain ⟨p,w,s,cs,rs,rfl,_⟩:=h; rfl
 ·obtain ⟨p,w,s,cs,rs,rfl,⟨dx,a,b,h1,h2,h3⟩,hw⟩:=h
  refine cutC (ps_if (pt_cmpR op_eq (pv 1) pe_str (nomark _)) (pss_one (ps_ret (pe_fldK K rfl (pv 0) rfl))) pss_nil) fun _ _=>cutC (ps_if (pt_cmpR op_eq (pv 1) pe_str (nomark _)) (pss_one (ps_ret (pe_fldK K rfl (pv 0) rfl))) pss_nil) fun _ _=>cutE (ps_raiseK T.mg_NoLine T.x_NoLine PySem.F.excBase_ValueError rfl rfl (fun _ _ _ _ _ _ _ _ I m q=>xe_new I m q) (pa_cons pe_str pa_nil)) fun _ _=>?_
  walk_at "rdf"
  rcases hw with ⟨bs,⟨rfl,rfl⟩ | ⟨rfl,rfl⟩,k⟩ | ⟨n1,n2,k⟩
  ·rw [decide_eq_true (rfl:("col":Str)="col")]
   walk_at "rdf"
   refine rd_fldv h1 T.cl_Cloth T.na_col_bits (cfl_c _ _ _) ?_
   walk_at "rdf"
   exact k a h2
  ·rw [decide_eq_false rc_ne]
   walk_at "rdf"
   rw [decide_eq_true (rfl:("row":Str)="row")]
   walk_at "rdf"
   refine rd_fldv h1 T.cl_Cloth T.na_row_bits (cfl_r _ _ _) ?_
   walk_at "rdf"
   exact k b h3
  ·rw [decide_eq_false n1]
   walk_at "rdf"
   rw [decide_eq_false n2]
   walk_at "rdf"
   exact ⟨by show 1≤sizeLine; decide,k⟩
def NoLn (w:Str) (k:Int) (cs rs:List Int):Prop:=(¬ w="col"∧¬ w="row")∨∃ bs,IsWay w cs rs bs∧¬ (0≤k∧k<bs.length)
def spx_Clothbit (C NL:Addr):Sp:=fun vs H Q E=>∃ (p:Addr) (w:Str) (k s:Int) (cs rs:List Int),vs=[.ref p,.str w,.int k]∧ClothAt C H p s cs rs ∧
 ((∃ bs,IsWay w cs rs bs∧0≤k∧k<bs.length∧Q (.int (bs.getD k.toNat 0)) H)∨(NoLn w k cs rs∧E (.ref NL) none H))
theorem okx_Clothbit (T:Txt K mg t):FnOk P w K mg base (CX1 P w) 3 t.f_Clothbit t.d_Clothbit ["self","way","k"] (spx_Clothbit t.a_Cloth t.a_NoLine):=by
 have G_isbelow:=ok_isbelow (P:=P) (w:=w) (base:=base) T
 have GX_Clothbitsalong:=okx_Clothbitsalong (P:=P) (w:=w) (base:=base) T
 refine T.F_Clothbit.ok1 sc_Clothbit (fun vs H Q E h=>?_) (fun cdv A outer s H vs Q E hr h=>?_)
 ·obtain ⟨p,w,k,s,cs,rs,rfl,_⟩:=h; rfl
 ·obtain ⟨p,w,k,s,cs,rs,rfl,hc,h⟩:=h
  obtain ⟨dx,a,b,e1,e2,e3⟩:=hc.ob
  refine cutC (ps_set (i:=3) sc_Clothbit.nd rfl (Or.inl rfl) (pe_meth (pv 0) T.cl_Cloth T.m_Clothbitsalong GX_Clothbitsalong (hr.mono (by first | decide | omega)) T.b_Clothbitsalong .nil pass1 (pa_cons (pv 1) pa_nil))) fun _ _=>cutC (ps_if (pt_not (pt_val (pe_call G_isbelow.up (hr.mono (by first | decide | omega)) rfl T.mg_isbelow T.F_isbelow.kp T.b_isbelow .nil pass1 (pa_cons (pv 2) (pa_cons (pe_callB (cI_lenK K rfl) rfl T.no_len (by rfl) (pa_cons (pv 3) pa_nil)) pa_nil))))) (pss_one (ps_raiseK T.mg_NoLine T.x_NoLine PySem.F.excBase_ValueError rfl rfl (fun _ _ _ _ _ _ _ _ I m q=>xe_new I m q) (pa_cons pe_str pa_nil))) pss_nil) fun _ _=>cutE (ps_ret (pe_ix (ix_tupK K rfl) (pv 3) (pv 2) (fun _ _=>rfl))) fun _ _=>?_
  walk_at "rdf"
  refine rd_methv e1 (cfl_no _ _ _ (by decide +kernel)) ?_
  walk_at "rdf"
  rcases h with ⟨bs,hw,h0,h1,q⟩ | ⟨⟨n1,n2⟩ | ⟨bs,hw,hn⟩,q⟩
  ·refine ⟨p,w,s,cs,rs,rfl,hc,.inl ⟨bs,hw,fun z hz=>?_⟩⟩
   walk_at "rdf"
   refine rd_lenT hz ?_
   walk_at "rdf"
   refine ⟨k,_,rfl,?_⟩
   rw [List.length_map,decide_eq_true h0,decide_eq_true h1]
   walk_at "rdf"
   refine rd_ixT (SqT.of hz) (atI_ints h0 h1) ?_
   exact q
  ·exact ⟨p,w,s,cs,rs,rfl,hc,.inr ⟨n1,n2,q⟩⟩
  ·refine ⟨p,w,s,cs,rs,rfl,hc,.inl ⟨bs,hw,fun z hz=>?_⟩⟩
   walk_at "rdf"
   refine rd_lenT hz ?_
   walk_at "rdf"
   refine ⟨k,_,rfl,?_⟩
   rw [List.length_map]
   have e:(decide (0≤k)&&decide (k<(bs.length:Int)))=false:=by
    rw [Bool.eq_false_iff]
    intro z
    rw [Bool.and_eq_true,decide_eq_true_eq,decide_eq_true_eq] at z
    exact hn z
   rw [e]
   walk_at "rdf"
   exact ⟨by show 1≤sizeLine; decide,q⟩
end
section
variable {P:Program} {w:World} {K:PySem.W.Frag} {mg:Str→Option Value} {base:Heap} {t:Ad}
end
section
theorem below_t {x b:Int} (h:0≤x∧x<b):(decide (0≤x)&&decide (x<b))=true:=by rw [decide_eq_true h.1,decide_eq_true h.2]; rfl
theorem below_f {x b:Int} (h:¬ (0≤x∧x<b)):(decide (0≤x)&&decide (x<b))=false:=by
 rw [Bool.eq_false_iff]
 intro z
 rw [Bool.and_eq_true,decide_eq_true_eq,decide_eq_true_eq] at z
 exact h z
end
section
variable {P:Program} {w:World} {K:PySem.W.Frag} {mg:Str→Option Value} {base:Heap} {t:Ad}
def NoSt (w:Str) (k st:Int) (cs rs:List Int):Prop:=∃ bs os,IsWay w cs rs bs∧IsWay w rs cs os∧0≤k∧k<bs.length∧¬ (0≤st∧st<(os.length:Int)+1)
def spx_Clothstitched (C NL NS:Addr):Sp:=fun vs H Q E=>∃ (p:Addr) (w:Str) (k st s:Int) (cs rs:List Int),vs=[.ref p,.str w,.int k,.int st]∧ClothAt C H p s cs rs ∧
 ((∃ bs os,IsWay w cs rs bs∧IsWay w rs cs os∧0≤k∧k<bs.length∧0≤st∧st<os.length+1∧Q (.bl (decide ((st+bs.getD k.toNat 0)%2=1))) H)∨(NoLn w k cs rs∧E (.ref NL) none H)∨(NoSt w k st cs rs∧E (.ref NS) none H))
theorem okx_Clothstitched (T:Txt K mg t):FnOk P w K mg base (CX1 P w) 4 t.f_Clothstitched t.d_Clothstitched ["self","way","k","step"] (spx_Clothstitched t.a_Cloth t.a_NoLine t.a_NoStep):=by
 have G_isbelow:=ok_isbelow (P:=P) (w:=w) (base:=base) T
 have GX_Clothbit:=okx_Clothbit (P:=P) (w:=w) (base:=base) T
 have G_Clothwide:=ok_Clothwide (P:=P) (w:=w) (base:=base) T
 have G_Clothtall:=ok_Clothtall (P:=P) (w:=w) (base:=base) T
 refine T.F_Clothstitched.ok1 sc_Clothstitched (fun vs H Q E h=>?_) (fun cdv A outer s H vs Q E hr h=>?_)
 ·obtain ⟨p,w,k,st,s,cs,rs,rfl,_⟩:=h; rfl
 ·obtain ⟨p,w,k,st,s,cs,rs,rfl,hc,h⟩:=h
  obtain ⟨dx,a,b,e1,e2,e3⟩:=hc.ob
  have nl:∀ {w h:Int} {m:Str},NoF m→(cfl s a b w h).lookup m=none:=fun x=>cfl_no _ _ _ x
  refine cutC (ps_set (i:=4) sc_Clothstitched.nd rfl (Or.inl rfl) (pe_meth (pv 0) T.cl_Cloth T.m_Clothbit GX_Clothbit (hr.mono (by first | decide | omega)) T.b_Clothbit .nil pass1 (pa_cons (pv 1) (pa_cons (pv 2) pa_nil)))) fun _ _=>cutC (ps_set (i:=5) sc_Clothstitched.nd rfl (Or.inl rfl) (pe_ifExp (pt_cmpR op_eq (pv 1) pe_str (nomark _)) (pe_meth0 (pv 0) T.cl_Cloth T.m_Clothtall G_Clothtall.up (hr.mono (by first | decide | omega)) T.b_Clothtall .nil pass1) (pe_meth0 (pv 0) T.cl_Cloth T.m_Clothwide G_Clothwide.up (hr.mono (by first | decide | omega)) T.b_Clothwide .nil pass1))) fun _ _=>cutC (ps_if (pt_not (pt_val (pe_call G_isbelow.up (hr.mono (by first | decide | omega)) rfl T.mg_isbelow T.F_isbelow.kp T.b_isbelow .nil pass1 (pa_cons (pv 3) (pa_cons (pv 5) pa_nil))))) (pss_one (ps_raiseK T.mg_NoStep T.x_NoStep PySem.F.excBase_ValueError rfl rfl (fun _ _ _ _ _ _ _ _ I m q=>xe_new I m q) (pa_cons pe_str pa_nil))) pss_nil) fun _ _=>cutE (ps_ret (pe_cmpR op_eq (pe_op op_mod (pe_op op_add (pv 3) (pv 4)) pe_int) pe_int (nomark _))) fun _ _=>?_
  walk_at "rdf"
  refine rd_methv e1 (nl (by decide +kernel)) ?_
  walk_at "rdf"
  rcases h with ⟨bs,os,hw,ho,h0,h1,g0,g1,q⟩ | ⟨n,q⟩ | ⟨⟨bs,os,hw,ho,h0,h1,hn⟩,q⟩
  ·refine ⟨p,w,k,s,cs,rs,rfl,hc,.inl ⟨bs,hw,h0,h1,?_⟩⟩
   walk_at "rdf"
   rcases ho with ⟨rfl,rfl⟩ | ⟨rfl,rfl⟩
   ·rw [decide_eq_true (rfl:("col":Str)="col")]
    walk_at "rdf"
    refine rd_methv e1 (nl (by decide +kernel)) ?_
    walk_at "rdf"
    refine ⟨p,s,cs,_,rfl,hc,?_⟩
    walk_at "rdf"
    refine ⟨st,_,rfl,?_⟩
    rw [decide_eq_true g0,decide_eq_true g1]
    walk_at "rdf"
    refine rd_I (by decide) ?_
    walk_at "rdf"
    exact q
   ·rw [decide_eq_false rc_ne]
    walk_at "rdf"
    refine rd_methv e1 (nl (by decide +kernel)) ?_
    walk_at "rdf"
    refine ⟨p,s,_,rs,rfl,hc,?_⟩
    walk_at "rdf"
    refine ⟨st,_,rfl,?_⟩
    rw [decide_eq_true g0,decide_eq_true g1]
    walk_at "rdf"
    refine rd_I (by decide) ?_
    walk_at "rdf"
    exact q
  ·exact ⟨p,w,k,s,cs,rs,rfl,hc,.inr ⟨n,q⟩⟩
  ·refine ⟨p,w,k,s,cs,rs,rfl,hc,.inl ⟨bs,hw,h0,h1,?_⟩⟩
   walk_at "rdf"
   rcases ho with ⟨rfl,rfl⟩ | ⟨rfl,rfl⟩
   ·rw [decide_eq_true (rfl:("col":Str)="col")]
    walk_at "rdf"
    refine rd_methv e1 (nl (by decide +kernel)) ?_
    walk_at "rdf"
    refine ⟨p,s,cs,_,rfl,hc,?_⟩
    walk_at "rdf"
    refine ⟨st,_,rfl,?_⟩
    rw [below_f hn]
    walk_at "rdf"
    exact ⟨by show 1≤sizeLine; decide,q⟩
   ·rw [decide_eq_false rc_ne]
    walk_at "rdf"
    refine rd_methv e1 (nl (by decide +kernel)) ?_
    walk_at "rdf"
    refine ⟨p,s,_,rs,rfl,hc,?_⟩
    walk_at "rdf"
    refine ⟨st,_,rfl,?_⟩
    rw [below_f hn]
    walk_at "rdf"
    exact ⟨by show 1≤sizeLine; decide,q⟩
def sp_Clothstitched (C:Addr):Sp:=fun vs H Q _=>∃ (p:Addr) (w:Str) (k st s:Int) (cs rs bs os:List Int),vs=[.ref p,.str w,.int k,.int st]∧ClothAt C H p s cs rs∧IsWay w cs rs bs∧IsWay w rs cs os∧0≤k∧k<bs.length∧0≤st∧st<os.length+1 ∧
 Q (.bl (decide ((st+bs.getD k.toNat 0)%2=1))) H
theorem ok_Clothstitched (T:Txt K mg t):FnOk P w K mg base CX0 4 t.f_Clothstitched t.d_Clothstitched ["self","way","k","step"] (sp_Clothstitched t.a_Cloth) :=
 (okx_Clothstitched T).down fun vs H Q E hh=>by
  obtain ⟨p,w,k,st,s,cs,rs,bs,os,e,hc,hw,ho,h0,h1,g0,g1,q⟩:=hh
  exact ⟨p,w,k,st,s,cs,rs,e,hc,.inl ⟨bs,os,hw,ho,h0,h1,g0,g1,q⟩⟩
end
section
theorem small1000' {n:Nat} (h:n<2000):n<sizeLine:=Nat.lt_of_lt_of_le h (by decide)
def Pt (H:Hp) (v:V) (q:Int×Int):Prop:=∃ a,v=.ref a∧H a=some (.tup [.int q.1,.int q.2])
theorem Pt.mono {H H':Hp} {v:V} {q:Int×Int} (s:Same H H') (h:Pt H v q):Pt H' v q:=by
 obtain ⟨a,rfl,ha⟩:=h
 exact ⟨a,rfl,s _ _ ha⟩
theorem Pt.upd {H:Hp} {v:V} {q:Int×Int} {l:Addr} {u o:HO} (h:Pt H v q) (e:H l=some u) (ne:∀ ys,HO.tup ys≠u):Pt (upd H l o) v q:=by
 obtain ⟨a,rfl,ha⟩:=h
 exact ⟨a,rfl,by rw [upd_ne (ne_of ha e (ne _))]; exact ha⟩
def PwPt (H:Hp) (xs:List V) (ps:List (Int×Int)):Prop:=xs.length=ps.length∧∀ (i:Nat) v q,xs[i]?=some v→ps[i]?=some q→Pt H v q
theorem PwPt.mono {H H':Hp} {xs:List V} {ps:List (Int×Int)} (s:Same H H') (h:PwPt H xs ps):PwPt H' xs ps:=⟨h.1,fun i v q h1 h2=>(h.2 i v q h1 h2).mono s⟩
theorem PwPt.upd {H:Hp} {xs:List V} {ps:List (Int×Int)} {l:Addr} {u o:HO} (h:PwPt H xs ps) (e:H l=some u) (ne:∀ ys,HO.tup ys≠u):PwPt (upd H l o) xs ps:=⟨h.1,fun i v q h1 h2=>(h.2 i v q h1 h2).upd e ne⟩
theorem PwPt.nil {H:Hp}:PwPt H [] []:=⟨rfl,fun i v q h=>by simp at h⟩
theorem PwPt.cons {H:Hp} {v:V} {q:Int×Int} {xs:List V} {ps:List (Int×Int)} (h1:Pt H v q) (h:PwPt H xs ps):PwPt H (v::xs) (q::ps):=by
 refine ⟨by rw [List.length_cons,List.length_cons,h.1],fun i v' q' e1 e2=>?_⟩
 cases i with
 | zero=>simp only [List.getElem?_cons_zero,Option.some.injEq] at e1 e2; rw [← e1,← e2]; exact h1
 | succ i=>simp only [List.getElem?_cons_succ] at e1 e2; exact h.2 i v' q' e1 e2
theorem PwPt.inv {H:Hp} {xs:List V} {p:Int×Int} {ps:List (Int×Int)} (h:PwPt H xs (p::ps)):∃ v r,xs=v::r∧Pt H v p∧PwPt H r ps:=by
 match xs,h with
 | [],h=>have:=h.1; simp at this
 | v::r,h=>exact ⟨v,r,rfl,h.2 0 v p rfl rfl,by have:=h.1; simp only [List.length_cons] at this; omega,fun i v' q' e1 e2=>h.2 (i+1) v' q' (by simpa using e1) (by simpa using e2)⟩
theorem PwPt.snoc {H:Hp} {xs:List V} {ps:List (Int×Int)} {v:V} {q:Int×Int} (h:PwPt H xs ps) (hv:Pt H v q):PwPt H (xs++[v]) (ps++[q]):=by
 refine ⟨by rw [List.length_append,List.length_append,h.1]; rfl,fun i v' q' h1 h2=>?_⟩
 by_cases hi:i<xs.length
 ·rw [List.getElem?_append_left hi] at h1
  rw [List.getElem?_append_left (by rw [← h.1]; exact hi)] at h2
  exact h.2 i v' q' h1 h2
 ·rw [List.getElem?_append_right (by omega)] at h1
  rw [List.getElem?_append_right (by rw [← h.1]; omega),← h.1] at h2
  cases hk:i - xs.length with
  | zero =>
   rw [hk] at h1 h2
   simp only [List.getElem?_cons_zero,Option.some.injEq] at h1 h2
   rw [← h1,← h2]; exact hv
  | succ k => rw [hk] at h1; simp at h1
def ptOf (H:Hp):V→Int×Int
 | .ref a=>match H a with
  | some (.tup [.int x, .int y]) => (x, y)
  | _ => (0, 0)
 | _=>(0,0)
theorem Pt.of {H:Hp} {v:V} {q:Int×Int} (h:Pt H v q):ptOf H v=q:=by
 obtain ⟨a,rfl,ha⟩:=h
 simp only [ptOf,ha]
theorem PwPt.map:∀ {H:Hp} {xs:List V} {ps:List (Int×Int)},PwPt H xs ps→xs.map (ptOf H)=ps
 | H,[],[],_=>rfl
 | H,[],_::_,h=>by have:=h.1; simp at this
 | H,_::_,[],h=>by have:=h.1; simp at this
 | H,v::xs,p::ps,h=>by
  obtain ⟨v',r,e,h1,h2⟩:=h.inv
  cases e
  rw [List.map_cons,h1.of,h2.map]
theorem PwPt.mem {H:Hp} {xs:List V} {ps:List (Int×Int)} (h:PwPt H xs ps):∀ v∈xs,Pt H v (ptOf H v):=by
 intro v hv
 obtain ⟨i,hi⟩:=List.mem_iff_getElem?.mp hv
 have hl:i<ps.length:=by rw [← h.1]; exact (List.getElem?_eq_some_iff.mp hi).1
 have:=h.2 i v _ hi (List.getElem?_eq_getElem hl)
 rw [this.of]; exact this
theorem pwpt_of {H:Hp}:∀ {xs:List V},(∀ v∈xs,Pt H v (ptOf H v))→PwPt H xs (xs.map (ptOf H))
 | [],_=>PwPt.nil
 | v::xs,h=>PwPt.cons (h v List.mem_cons_self) (pwpt_of fun v hv=>h v (List.mem_cons_of_mem _ hv))
theorem ple_anti {p q:Int×Int} (h1:Ts.ple p q) (h2:Ts.ple q p):p=q:=by
 unfold Ts.ple at h1 h2
 exact Prod.ext (by omega) (by omega)
theorem perm_eq:∀ {l1 l2:List (Int×Int)},l1.Perm l2→l1.Pairwise Ts.ple→l2.Pairwise Ts.ple→l1=l2
 | [],l2,h,_,_=>(List.nil_perm.mp h).symm ▸ rfl
 | x::l1,[],h,_,_=>by have:=h.length_eq; simp at this
 | x::l1,y::l2,h,s1,s2=>by
  have e:x=y:=by
   have hx:x∈y::l2:=h.mem_iff.mp List.mem_cons_self
   have hy:y∈x::l1:=h.mem_iff.mpr List.mem_cons_self
   rcases List.mem_cons.mp hx with e | hx
   ·exact e
   ·rcases List.mem_cons.mp hy with e | hy
    ·exact e.symm
    ·exact ple_anti ((List.pairwise_cons.mp s1).1 y hy) ((List.pairwise_cons.mp s2).1 x hx)
  subst e
  rw [perm_eq (List.perm_cons _ |>.mp h) (List.pairwise_cons.mp s1).2 (List.pairwise_cons.mp s2).2]
end
section
variable {P:Program} {w:World} {K:PySem.W.Frag} {mg:Str→Option Value} {base:Heap} {t:Ad}
def rt (cs rs:List Int) (x y:Int):Bool:=decide (0<y)&&decide (y<(rs.length:Int)+1)&&decide (0≤x)&&decide (x<(cs.length:Int)+1)&&decide ((x+rs.getD (y - 1).toNat 0)%2=1)
def ups (cs rs:List Int) (x y:Int):Bool:=decide (0<x)&&decide (x<(cs.length:Int)+1)&&decide (0≤y)&&decide (y<(rs.length:Int)+1)&&decide ((y+cs.getD (x - 1).toNat 0)%2=1)
def sp_sewnright (C:Addr):Sp:=fun vs H Q _=>∃ (p:Addr) (x y s:Int) (cs rs:List Int),vs=[.ref p,.int x,.int y]∧ClothAt C H p s cs rs∧Q (.bl (rt cs rs x y)) H
theorem ok_sewnright (T:Txt K mg t):FnOk P w K mg base CX0 5 t.f_sewnright t.d_sewnright ["cloth","x","y"] (sp_sewnright t.a_Cloth):=by
 have G_Clothwide:=ok_Clothwide (P:=P) (w:=w) (base:=base) T
 have G_Clothtall:=ok_Clothtall (P:=P) (w:=w) (base:=base) T
 have G_Clothstitched:=ok_Clothstitched (P:=P) (w:=w) (base:=base) T
 refine T.F_sewnright.ok sc_sewnright (fun vs H Q E h=>?_) (fun cdv A outer s H vs Q E hr h=>?_)
 ·obtain ⟨p,x,y,s,cs,rs,rfl,_⟩:=h; rfl
 ·obtain ⟨p,x,y,s,cs,rs,rfl,hc,q⟩:=h
  obtain ⟨dx,a,b,e1,e2,e3⟩:=hc.ob
  have nl:∀ {w h:Int} {m:Str},NoF m→(cfl s a b w h).lookup m=none:=fun x=>cfl_no _ _ _ x
  refine ⟨_,(pss_cons (ps_if (PW.pt (pw_and (pt_chain op_lt op_lt pe_int (pv 2) (pe_meth0 (pv 0) T.cl_Cloth T.m_Clothtall G_Clothtall (hr.mono (by first | decide | omega)) T.b_Clothtall .nil pass0)) (pw_and1 (pt_chain op_le op_lt pe_int (pv 1) (pe_meth0 (pv 0) T.cl_Cloth T.m_Clothwide G_Clothwide (hr.mono (by first | decide | omega)) T.b_Clothwide .nil pass0))))) (pss_one (ps_ret (pe_meth (pv 0) T.cl_Cloth T.m_Clothstitched G_Clothstitched (hr.mono (by first | decide | omega)) T.b_Clothstitched .nil pass0 (pa_cons pe_str (pa_cons (pe_op op_sub (pv 2) pe_int) (pa_cons (pv 1) pa_nil)))))) pss_nil) (pss_one (ps_ret pe_bl))),?_⟩
  unfold rt at q
  walk_at "rdf"
  by_cases c1:0<y
  ·rw [decide_eq_true c1] at q ⊢
   walk_at "rdf"
   refine rd_methv e1 (nl (by decide +kernel)) ?_
   walk_at "rdf"
   refine ⟨p,s,cs,rs,rfl,hc,?_⟩
   walk_at "rdf"
   by_cases c2:y<(rs.length:Int)+1
   ·rw [decide_eq_true c2] at q ⊢
    walk_at "rdf"
    by_cases c3:0≤x
    ·rw [decide_eq_true c3] at q ⊢
     walk_at "rdf"
     refine rd_methv e1 (nl (by decide +kernel)) ?_
     walk_at "rdf"
     refine ⟨p,s,cs,rs,rfl,hc,?_⟩
     walk_at "rdf"
     by_cases c4:x<(cs.length:Int)+1
     ·rw [decide_eq_true c4] at q ⊢
      walk_at "rdf"
      refine rd_methv e1 (nl (by decide +kernel)) ?_
      walk_at "rdf"
      exact ⟨p,"row",y - 1,x,s,cs,rs,rs,cs,rfl,hc,.inr ⟨rfl,rfl⟩,.inr ⟨rfl,rfl⟩,by omega,by omega,c3,c4,q⟩
     ·rw [decide_eq_false c4] at q ⊢
      walk_at "rdf"
      exact q
    ·rw [decide_eq_false c3] at q ⊢
     walk_at "rdf"
     exact q
   ·rw [decide_eq_false c2] at q ⊢
    walk_at "rdf"
    exact q
  ·rw [decide_eq_false c1] at q ⊢
   walk_at "rdf"
   exact q
def sp_sewnup (C:Addr):Sp:=fun vs H Q _=>∃ (p:Addr) (x y s:Int) (cs rs:List Int),vs=[.ref p,.int x,.int y]∧ClothAt C H p s cs rs∧Q (.bl (ups cs rs x y)) H
theorem ok_sewnup (T:Txt K mg t):FnOk P w K mg base CX0 5 t.f_sewnup t.d_sewnup ["cloth","x","y"] (sp_sewnup t.a_Cloth):=by
 have G_Clothwide:=ok_Clothwide (P:=P) (w:=w) (base:=base) T
 have G_Clothtall:=ok_Clothtall (P:=P) (w:=w) (base:=base) T
 have G_Clothstitched:=ok_Clothstitched (P:=P) (w:=w) (base:=base) T
 refine T.F_sewnup.ok sc_sewnup (fun vs H Q E h=>?_) (fun cdv A outer s H vs Q E hr h=>?_)
 ·obtain ⟨p,x,y,s,cs,rs,rfl,_⟩:=h; rfl
 ·obtain ⟨p,x,y,s,cs,rs,rfl,hc,q⟩:=h
  obtain ⟨dx,a,b,e1,e2,e3⟩:=hc.ob
  have nl:∀ {w h:Int} {m:Str},NoF m→(cfl s a b w h).lookup m=none:=fun x=>cfl_no _ _ _ x
  refine ⟨_,(pss_cons (ps_if (PW.pt (pw_and (pt_chain op_lt op_lt pe_int (pv 1) (pe_meth0 (pv 0) T.cl_Cloth T.m_Clothwide G_Clothwide (hr.mono (by first | decide | omega)) T.b_Clothwide .nil pass0)) (pw_and1 (pt_chain op_le op_lt pe_int (pv 2) (pe_meth0 (pv 0) T.cl_Cloth T.m_Clothtall G_Clothtall (hr.mono (by first | decide | omega)) T.b_Clothtall .nil pass0))))) (pss_one (ps_ret (pe_meth (pv 0) T.cl_Cloth T.m_Clothstitched G_Clothstitched (hr.mono (by first | decide | omega)) T.b_Clothstitched .nil pass0 (pa_cons pe_str (pa_cons (pe_op op_sub (pv 1) pe_int) (pa_cons (pv 2) pa_nil)))))) pss_nil) (pss_one (ps_ret pe_bl))),?_⟩
  unfold ups at q
  walk_at "rdf"
  by_cases c1:0<x
  ·rw [decide_eq_true c1] at q ⊢
   walk_at "rdf"
   refine rd_methv e1 (nl (by decide +kernel)) ?_
   walk_at "rdf"
   refine ⟨p,s,cs,rs,rfl,hc,?_⟩
   walk_at "rdf"
   by_cases c2:x<(cs.length:Int)+1
   ·rw [decide_eq_true c2] at q ⊢
    walk_at "rdf"
    by_cases c3:0≤y
    ·rw [decide_eq_true c3] at q ⊢
     walk_at "rdf"
     refine rd_methv e1 (nl (by decide +kernel)) ?_
     walk_at "rdf"
     refine ⟨p,s,cs,rs,rfl,hc,?_⟩
     walk_at "rdf"
     by_cases c4:y<(rs.length:Int)+1
     ·rw [decide_eq_true c4] at q ⊢
      walk_at "rdf"
      refine rd_methv e1 (nl (by decide +kernel)) ?_
      walk_at "rdf"
      exact ⟨p,"col",x - 1,y,s,cs,rs,cs,rs,rfl,hc,.inl ⟨rfl,rfl⟩,.inl ⟨rfl,rfl⟩,by omega,by omega,c3,c4,q⟩
     ·rw [decide_eq_false c4] at q ⊢
      walk_at "rdf"
      exact q
    ·rw [decide_eq_false c3] at q ⊢
     walk_at "rdf"
     exact q
   ·rw [decide_eq_false c2] at q ⊢
    walk_at "rdf"
    exact q
  ·rw [decide_eq_false c1] at q ⊢
   walk_at "rdf"
   exact q
def nb (cs rs:List Int) (q:Int×Int):List (Int×Int) :=
 (if rt cs rs (q.1 - 1) q.2=true then [(q.1 - 1,q.2)] else [])++(if ups cs rs q.1 (q.2 - 1)=true then [(q.1,q.2 - 1)] else [])++(if ups cs rs q.1 q.2=true then [(q.1,q.2+1)] else [])++(if rt cs rs q.1 q.2=true then [(q.1+1,q.2)] else [])
def inPt (cs rs:List Int) (q:Int×Int):Prop:=(0≤q.1∧q.1<(cs.length:Int)+1+1)∧0≤q.2∧q.2<(rs.length:Int)+1+1
def spx_joined (C NP:Addr):Sp:=fun vs H Q E=>∃ (p a:Addr) (q:Int×Int) (s:Int) (cs rs:List Int),vs=[.ref p,.ref a]∧ClothAt C H p s cs rs∧H a=some (.tup [.int q.1,.int q.2]) ∧
 ((inPt cs rs q∧∀ l xs H',Same H H'→H l=none→H' l=some (.lst xs)→PwPt H' xs (nb cs rs q)→Q (.ref l) H')∨(¬ inPt cs rs q∧E (.ref NP) none H))
theorem okx_joined (T:Txt K mg t):FnOk P w K mg base (CX1 P w) 6 t.f_joined t.d_joined ["cloth","point"] (spx_joined t.a_Cloth t.a_NoPoint):=by
 have G_isbelow:=ok_isbelow (P:=P) (w:=w) (base:=base) T
 have G_Clothwide:=ok_Clothwide (P:=P) (w:=w) (base:=base) T
 have G_Clothtall:=ok_Clothtall (P:=P) (w:=w) (base:=base) T
 have G_sewnright:=ok_sewnright (P:=P) (w:=w) (base:=base) T
 have G_sewnup:=ok_sewnup (P:=P) (w:=w) (base:=base) T
 refine T.F_joined.ok1 sc_joined (fun vs H Q E h=>?_) (fun cdv A outer s H vs Q E hr h=>?_)
 ·obtain ⟨p,a,q,s,cs,rs,rfl,_⟩:=h; rfl
 ·obtain ⟨p,a,⟨x,y⟩,s,cs,rs,rfl,hc,ha,h⟩:=h
  dsimp only at ha
  obtain ⟨dx,a1,b1,e1,e2,e3⟩:=hc.ob
  have nl:∀ {w h:Int} {m:Str},NoF m→(cfl s a1 b1 w h).lookup m=none:=fun x=>cfl_no _ _ _ x
  refine cutC (ps_set (i:=2) sc_joined.nd rfl (Or.inl rfl) (pe_ix (ix_tupK K rfl) (pv 1) pe_int (fun _ _=>rfl))) fun _ _=>cutC (ps_set (i:=3) sc_joined.nd rfl (Or.inl rfl) (pe_ix (ix_tupK K rfl) (pv 1) pe_int (fun _ _=>rfl))) fun _ _=>cutC (ps_if (PW.pt (pw_or (pt_not (pt_val (pe_call G_isbelow.up (hr.mono (by first | decide | omega)) rfl T.mg_isbelow T.F_isbelow.kp T.b_isbelow .nil pass1 (pa_cons (pv 2) (pa_cons (pe_op op_add (pe_meth0 (pv 0) T.cl_Cloth T.m_Clothwide G_Clothwide.up (hr.mono (by first | decide | omega)) T.b_Clothwide .nil pass1) pe_int) pa_nil))))) (pw_or1 (pt_not (pt_val (pe_call G_isbelow.up (hr.mono (by first | decide | omega)) rfl T.mg_isbelow T.F_isbelow.kp T.b_isbelow .nil pass1 (pa_cons (pv 3) (pa_cons (pe_op op_add (pe_meth0 (pv 0) T.cl_Cloth T.m_Clothtall G_Clothtall.up (hr.mono (by first | decide | omega)) T.b_Clothtall .nil pass1) pe_int) pa_nil)))))))) (pss_one (ps_raiseK T.mg_NoPoint T.x_NoPoint PySem.F.excBase_ValueError rfl rfl (fun _ _ _ _ _ _ _ _ I m q=>xe_new I m q) (pa_cons pe_str pa_nil))) pss_nil) fun _ _=>cutC (ps_set (i:=4) sc_joined.nd rfl (Or.inl rfl) (pe_lst pa_nil)) fun _ _=>cutC (ps_join (ps_if (pt_val (pe_call G_sewnright.up (hr.mono (by first | decide | omega)) rfl T.mg_sewnright T.F_sewnright.kp T.b_sewnright .nil pass1 (pa_cons (pv 0) (pa_cons (pe_op op_sub (pv 2) pe_int) (pa_cons (pv 3) pa_nil))))) (pss_one (ps_expr (pe_bm PySem.F.plainAttrs_list PySem.F.slot_list_append PySem.F.type_list_append mt_append (pv 4) (pa_cons (pe_tup (pa_cons (pe_op op_sub (pv 2) pe_int) (pa_cons (pv 3) pa_nil))) pa_nil)))) pss_nil)) fun _ _=>cutC (ps_join (ps_if (pt_val (pe_call G_sewnup.up (hr.mono (by first | decide | omega)) rfl T.mg_sewnup T.F_sewnup.kp T.b_sewnup .nil pass1 (pa_cons (pv 0) (pa_cons (pv 2) (pa_cons (pe_op op_sub (pv 3) pe_int) pa_nil))))) (pss_one (ps_expr (pe_bm PySem.F.plainAttrs_list PySem.F.slot_list_append PySem.F.type_list_append mt_append (pv 4) (pa_cons (pe_tup (pa_cons (pv 2) (pa_cons (pe_op op_sub (pv 3) pe_int) pa_nil))) pa_nil)))) pss_nil)) fun _ _=>cutC (ps_join (ps_if (pt_val (pe_call G_sewnup.up (hr.mono (by first | decide | omega)) rfl T.mg_sewnup T.F_sewnup.kp T.b_sewnup .nil pass1 (pa_cons (pv 0) (pa_cons (pv 2) (pa_cons (pv 3) pa_nil))))) (pss_one (ps_expr (pe_bm PySem.F.plainAttrs_list PySem.F.slot_list_append PySem.F.type_list_append mt_append (pv 4) (pa_cons (pe_tup (pa_cons (pv 2) (pa_cons (pe_op op_add (pv 3) pe_int) pa_nil))) pa_nil)))) pss_nil)) fun _ _=>cutC (ps_join (ps_if (pt_val (pe_call G_sewnright.up (hr.mono (by first | decide | omega)) rfl T.mg_sewnright T.F_sewnright.kp T.b_sewnright .nil pass1 (pa_cons (pv 0) (pa_cons (pv 2) (pa_cons (pv 3) pa_nil))))) (pss_one (ps_expr (pe_bm PySem.F.plainAttrs_list PySem.F.slot_list_append PySem.F.type_list_append mt_append (pv 4) (pa_cons (pe_tup (pa_cons (pe_op op_add (pv 2) pe_int) (pa_cons (pv 3) pa_nil))) pa_nil)))) pss_nil)) fun _ _=>cutE (ps_ret (pv 4)) fun _ _=>?_
  walk_at "rdf"
  refine rd_ixT (SqT.of ha) (v:=.int x) rfl ?_
  walk_at "rdf"
  refine rd_ixT (SqT.of ha) (v:=.int y) rfl ?_
  walk_at "rdf"
  refine rd_methv e1 (nl (by decide +kernel)) ?_
  walk_at "rdf"
  refine ⟨p,s,cs,rs,rfl,hc,?_⟩
  walk_at "rdf"
  refine ⟨x,_,rfl,?_⟩
  by_cases hx:0≤x∧x<(cs.length:Int)+1+1
  ·rw [below_t hx]
   walk_at "rdf"
   refine rd_methv e1 (nl (by decide +kernel)) ?_
   walk_at "rdf"
   refine ⟨p,s,cs,rs,rfl,hc,?_⟩
   walk_at "rdf"
   refine ⟨y,_,rfl,?_⟩
   by_cases hy:0≤y∧y<(rs.length:Int)+1+1
   ·rw [below_t hy]
    walk_at "rdf"
    rcases h with ⟨_,h⟩ | ⟨n,_⟩
    ·refine ⟨Nat.zero_le _,fun l n1=>?_⟩
     have s1:=Same.new (o:=HO.lst []) n1
     have f1:=upd_same (H:=H) (a:=l) (o:=HO.lst [])
     generalize upd H l (HO.lst [])=H1 at s1 f1 ⊢
     obtain ⟨xs,f1,w1,lx⟩:∃ xs,H1 l=some (.lst xs)∧PwPt H1 xs []∧xs.length≤0:=⟨[],f1,PwPt.nil,Nat.le_refl 0⟩
     walk_at "rdf"
     refine rd_join (fun σ' H'=>∃ xs,σ'=[some (.ref p),some (.ref a),some (.int x),some (.int y),some (.ref l)]∧Same H H'∧H' l=some (.lst xs)∧xs.length≤1∧PwPt H' xs ([]++(if rt cs rs (x - 1) y=true then [(x - 1,y)] else []))) ?_ ?_
     ·walk_at "rdf"
      refine ⟨p,x - 1,y,s,cs,rs,rfl,hc.mono s1,?_⟩
      walk_at "rdf"
      by_cases c:rt cs rs (x - 1) y=true
      ·rw [if_pos c]
       walk_at "rdf"
       refine rd_bmL f1 ?_
       walk_at "rdf"
       refine ⟨by show 2≤sizeLine; decide,fun b hb=>?_⟩
       have sb:=Same.new (o:=HO.tup [V.int (x - 1),V.int y]) hb
       walk_at "rdf"
       refine rd_append (sb _ _ f1) (small1000' (by omega)) ?_
       refine ⟨_,rfl,(s1.trans sb).later n1,upd_same,by rw [List.length_append,List.length_singleton]; omega,?_⟩
       rw [if_pos c]
       exact ((w1.mono sb).upd (sb _ _ f1) (by intro ys z; cases z)).snoc (Pt.upd (q:=(x - 1,y)) ⟨b,rfl,upd_same⟩ (sb _ _ f1) (by intro ys z; cases z))
      ·rw [if_neg c]
       walk_at "rdf"
       refine ⟨_,rfl,s1,f1,by omega,?_⟩
       rw [if_neg c,List.append_nil]
       exact w1
     ·clear s1 f1 w1 lx
      rintro σ' H1 ⟨xs,rfl,s1,f1,lx,w1⟩
      walk_at "rdf"
      refine rd_join (fun σ' H'=>∃ xs,σ'=[some (.ref p),some (.ref a),some (.int x),some (.int y),some (.ref l)]∧Same H H'∧H' l=some (.lst xs)∧xs.length≤2∧PwPt H' xs ([]++(if rt cs rs (x - 1) y=true then [(x - 1,y)] else [])++(if ups cs rs x (y - 1)=true then [(x,y - 1)] else []))) ?_ ?_
      ·walk_at "rdf"
       refine ⟨p,x,y - 1,s,cs,rs,rfl,hc.mono s1,?_⟩
       walk_at "rdf"
       by_cases c:ups cs rs x (y - 1)=true
       ·rw [if_pos c]
        walk_at "rdf"
        refine rd_bmL f1 ?_
        walk_at "rdf"
        refine ⟨by show 2≤sizeLine; decide,fun b hb=>?_⟩
        have sb:=Same.new (o:=HO.tup [V.int x,V.int (y - 1)]) hb
        walk_at "rdf"
        refine rd_append (sb _ _ f1) (small1000' (by omega)) ?_
        refine ⟨_,rfl,(s1.trans sb).later n1,upd_same,by rw [List.length_append,List.length_singleton]; omega,?_⟩
        rw [if_pos c]
        exact ((w1.mono sb).upd (sb _ _ f1) (by intro ys z; cases z)).snoc (Pt.upd (q:=(x,y - 1)) ⟨b,rfl,upd_same⟩ (sb _ _ f1) (by intro ys z; cases z))
       ·rw [if_neg c]
        walk_at "rdf"
        refine ⟨_,rfl,s1,f1,by omega,?_⟩
        rw [if_neg c,List.append_nil]
        exact w1
      ·clear s1 f1 w1 lx
       rintro σ' H1 ⟨xs,rfl,s1,f1,lx,w1⟩
       walk_at "rdf"
       refine rd_join (fun σ' H'=>∃ xs,σ'=[some (.ref p),some (.ref a),some (.int x),some (.int y),some (.ref l)]∧Same H H'∧H' l=some (.lst xs)∧xs.length≤3∧PwPt H' xs ([]++(if rt cs rs (x - 1) y=true then [(x - 1,y)] else [])++(if ups cs rs x (y - 1)=true then [(x,y - 1)] else [])++(if ups cs rs x y=true then [(x,y+1)] else []))) ?_ ?_
       ·walk_at "rdf"
        refine ⟨p,x,y,s,cs,rs,rfl,hc.mono s1,?_⟩
        walk_at "rdf"
        by_cases c:ups cs rs x y=true
        ·rw [if_pos c]
         walk_at "rdf"
         refine rd_bmL f1 ?_
         walk_at "rdf"
         refine ⟨by show 2≤sizeLine; decide,fun b hb=>?_⟩
         have sb:=Same.new (o:=HO.tup [V.int x,V.int (y+1)]) hb
         walk_at "rdf"
         refine rd_append (sb _ _ f1) (small1000' (by omega)) ?_
         refine ⟨_,rfl,(s1.trans sb).later n1,upd_same,by rw [List.length_append,List.length_singleton]; omega,?_⟩
         rw [if_pos c]
         exact ((w1.mono sb).upd (sb _ _ f1) (by intro ys z; cases z)).snoc (Pt.upd (q:=(x,y+1)) ⟨b,rfl,upd_same⟩ (sb _ _ f1) (by intro ys z; cases z))
        ·rw [if_neg c]
         walk_at "rdf"
         refine ⟨_,rfl,s1,f1,by omega,?_⟩
         rw [if_neg c,List.append_nil]
         exact w1
       ·clear s1 f1 w1 lx
        rintro σ' H1 ⟨xs,rfl,s1,f1,lx,w1⟩
        walk_at "rdf"
        refine rd_join (fun σ' H'=>∃ xs,σ'=[some (.ref p),some (.ref a),some (.int x),some (.int y),some (.ref l)]∧Same H H'∧H' l=some (.lst xs)∧xs.length≤4∧PwPt H' xs ([]++(if rt cs rs (x - 1) y=true then [(x - 1,y)] else [])++(if ups cs rs x (y - 1)=true then [(x,y - 1)] else [])++(if ups cs rs x y=true then [(x,y+1)] else [])++(if rt cs rs x y=true then [(x+1,y)] else []))) ?_ ?_
        ·walk_at "rdf"
         refine ⟨p,x,y,s,cs,rs,rfl,hc.mono s1,?_⟩
         walk_at "rdf"
         by_cases c:rt cs rs x y=true
         ·rw [if_pos c]
          walk_at "rdf"
          refine rd_bmL f1 ?_
          walk_at "rdf"
          refine ⟨by show 2≤sizeLine; decide,fun b hb=>?_⟩
          have sb:=Same.new (o:=HO.tup [V.int (x+1),V.int y]) hb
          walk_at "rdf"
          refine rd_append (sb _ _ f1) (small1000' (by omega)) ?_
          refine ⟨_,rfl,(s1.trans sb).later n1,upd_same,by rw [List.length_append,List.length_singleton]; omega,?_⟩
          rw [if_pos c]
          exact ((w1.mono sb).upd (sb _ _ f1) (by intro ys z; cases z)).snoc (Pt.upd (q:=(x+1,y)) ⟨b,rfl,upd_same⟩ (sb _ _ f1) (by intro ys z; cases z))
         ·rw [if_neg c]
          walk_at "rdf"
          refine ⟨_,rfl,s1,f1,by omega,?_⟩
          rw [if_neg c,List.append_nil]
          exact w1
        ·clear s1 f1 w1 lx
         rintro σ' H1 ⟨xs,rfl,s1,f1,lx,w1⟩
         walk_at "rdf"
         exact h l xs H1 s1 n1 f1 w1
    ·exact absurd ⟨hx,hy⟩ n
   ·rw [below_f hy]
    walk_at "rdf"
    rcases h with ⟨n,_⟩ | ⟨_,q⟩
    ·exact absurd n.2 hy
    ·exact ⟨by show 1≤sizeLine; decide,q⟩
  ·rw [below_f hx]
   walk_at "rdf"
   rcases h with ⟨n,_⟩ | ⟨_,q⟩
   ·exact absurd n.1 hx
   ·exact ⟨by show 1≤sizeLine; decide,q⟩
end
section
variable {P:Program} {w:World} {K:PySem.W.Frag} {mg:Str→Option Value} {base:Heap} {t:Ad}
theorem ite_len (c:Bool) (q:Int×Int):(if c=true then [q] else []).length=if c=true then 1 else 0:=by cases c<;>rfl
def sp_joined (C:Addr):Sp:=fun vs H Q _=>∃ (p a:Addr) (q:Int×Int) (s:Int) (cs rs:List Int),vs=[.ref p,.ref a]∧ClothAt C H p s cs rs∧H a=some (.tup [.int q.1,.int q.2])∧inPt cs rs q∧∀ l xs H',Same H H'→H l=none→H' l=some (.lst xs)→PwPt H' xs (nb cs rs q)→Q (.ref l) H'
theorem ok_joined (T:Txt K mg t):FnOk P w K mg base CX0 6 t.f_joined t.d_joined ["cloth","point"] (sp_joined t.a_Cloth) :=
 (okx_joined T).down fun vs H Q E hh=>by
  obtain ⟨p,a,q,s,cs,rs,e,hc,ha,hi,k⟩:=hh
  exact ⟨p,a,q,s,cs,rs,e,hc,ha,.inl ⟨hi,k⟩⟩
end
section
theorem nodup_le {α:Type} [DecidableEq α]:∀ (a b:List α),a.Nodup→(∀ x∈a,x∈b)→a.length≤b.length
 | [],_,_,_=>Nat.zero_le _
 | x::a,b,hn,hs=>by
  rw [List.nodup_cons] at hn
  have hx:=hs x List.mem_cons_self
  have ih:=nodup_le a (b.erase x) hn.2 fun y hy=>by
   have:y≠x:=fun e=>hn.1 (e ▸ hy)
   exact (List.mem_erase_of_ne this).mpr (hs y (List.mem_cons_of_mem _ hy))
  rw [List.length_erase_of_mem hx] at ih
  have:=List.length_pos_of_mem hx
  rw [List.length_cons]
  omega
theorem mem_ite {c:Bool} {q r:Int×Int}:r∈(if c=true then [q] else [])↔c=true∧r=q:=by cases c<;>simp
theorem nb_mem {cs rs:List Int} {q r:Int×Int}:r∈nb cs rs q↔(rt cs rs (q.1 - 1) q.2=true∧r=(q.1 - 1,q.2))∨(ups cs rs q.1 (q.2 - 1)=true∧r=(q.1,q.2 - 1))∨(ups cs rs q.1 q.2=true∧r=(q.1,q.2+1))∨(rt cs rs q.1 q.2=true∧r=(q.1+1,q.2)):=by
 unfold nb
 simp only [List.mem_append,mem_ite]
 constructor
 ·rintro (((h | h) | h) | h)
  ·exact .inl h
  ·exact .inr (.inl h)
  ·exact .inr (.inr (.inl h))
  ·exact .inr (.inr (.inr h))
 ·rintro (h | h | h | h)
  ·exact .inl (.inl (.inl h))
  ·exact .inl (.inl (.inr h))
  ·exact .inl (.inr h)
  ·exact .inr h
theorem rt_iff {cs rs:List Int} {x y:Int}:rt cs rs x y=true↔0<y∧y<(rs.length:Int)+1∧0≤x∧x<(cs.length:Int)+1∧(x+rs.getD (y - 1).toNat 0)%2=1:=by
 unfold rt
 simp only [Bool.and_eq_true,decide_eq_true_eq,and_assoc]
theorem ups_iff {cs rs:List Int} {x y:Int}:ups cs rs x y=true↔0<x∧x<(cs.length:Int)+1∧0≤y∧y<(rs.length:Int)+1∧(y+cs.getD (x - 1).toNat 0)%2=1:=by
 unfold ups
 simp only [Bool.and_eq_true,decide_eq_true_eq,and_assoc]
theorem rt_one {cs rs:List Int} {x y:Int} (h:rt cs rs (x - 1) y=true):rt cs rs x y=false:=by
 cases h2:rt cs rs x y with
 | false=>rfl
 | true=>have h:=rt_iff.mp h; have h2:=rt_iff.mp h2; omega
theorem ups_one {cs rs:List Int} {x y:Int} (h:ups cs rs x (y - 1)=true):ups cs rs x y=false:=by
 cases h2:ups cs rs x y with
 | false=>rfl
 | true=>have h:=ups_iff.mp h; have h2:=ups_iff.mp h2; omega
theorem gr_nb (cs rs:List Int):Sm.Gr (nb cs rs):=by
 refine ⟨fun q=>?_,fun q=>?_,fun {a b} h=>?_,fun a h=>?_⟩
 ·unfold nb
  obtain ⟨x,y⟩:=q
  dsimp only
  by_cases h1:rt cs rs (x - 1) y=true<;>by_cases h2:ups cs rs x (y - 1)=true<;>by_cases h3:ups cs rs x y=true<;>by_cases h4:rt cs rs x y=true <;>
   simp only [h1,h2,h3,h4,if_true,if_false,List.nil_append,List.cons_append,List.nodup_cons,List.mem_cons,List.not_mem_nil,or_false,Prod.mk.injEq,List.nodup_nil,Bool.false_eq_true,not_false_eq_true,and_true,true_and,not_or]<;>omega
 ·unfold nb
  simp only [List.length_append,ite_len]
  have h1:rt cs rs (q.1 - 1) q.2=true→rt cs rs q.1 q.2=false:=rt_one
  have h2:ups cs rs q.1 (q.2 - 1)=true→ups cs rs q.1 q.2=false:=ups_one
  generalize rt cs rs (q.1 - 1) q.2=A at h1
  generalize rt cs rs q.1 q.2=B at h1
  generalize ups cs rs q.1 (q.2 - 1)=C at h2
  generalize ups cs rs q.1 q.2=D at h2
  cases A<;>cases B<;>cases C<;>cases D<;>simp at h1 h2 ⊢
 ·have hb:=nb_mem.mp h
  clear h
  refine nb_mem.mpr ?_
  rcases hb with ⟨h,rfl⟩ | ⟨h,rfl⟩ | ⟨h,rfl⟩ | ⟨h,rfl⟩
  ·exact .inr (.inr (.inr ⟨h,Prod.ext (by dsimp only; omega) rfl⟩))
  ·exact .inr (.inr (.inl ⟨h,Prod.ext rfl (by dsimp only; omega)⟩))
  ·exact .inr (.inl ⟨by dsimp only; rw [show a.2+1 - 1=a.2 by omega]; exact h,Prod.ext rfl (by dsimp only; omega)⟩)
  ·exact .inl ⟨by dsimp only; rw [show a.1+1 - 1=a.1 by omega]; exact h,Prod.ext (by dsimp only; omega) rfl⟩
 ·rcases nb_mem.mp h with ⟨_,e⟩ | ⟨_,e⟩ | ⟨_,e⟩ | ⟨_,e⟩
  ·have:=congrArg Prod.fst e; dsimp only at this; omega
  ·have:=congrArg Prod.snd e; dsimp only at this; omega
  ·have:=congrArg Prod.snd e; dsimp only at this; omega
  ·have:=congrArg Prod.fst e; dsimp only at this; omega
theorem nb_in {cs rs:List Int} {q r:Int×Int} (h:r∈nb cs rs q):inPt cs rs r:=by
 unfold inPt
 have hb:=nb_mem.mp h
 clear h
 rcases hb with ⟨h,rfl⟩ | ⟨h,rfl⟩ | ⟨h,rfl⟩ | ⟨h,rfl⟩
 ·have:=rt_iff.mp h; dsimp only at *; omega
 ·have:=ups_iff.mp h; dsimp only at *; omega
 ·have:=ups_iff.mp h; dsimp only at *; omega
 ·have:=rt_iff.mp h; dsimp only at *; omega
theorem go_inP {cs rs:List Int}:∀ {a b:Int×Int} {l:List (Int×Int)},b∈nb cs rs a→Sm.Go (nb cs rs) a b l→∀ x∈b::l,inPt cs rs x
 | a,b,[],hb,_,x,hx=>by rw [List.mem_singleton.mp hx]; exact nb_in hb
 | a,b,c::l,hb,g,x,hx=>by
  rcases List.mem_cons.mp hx with e | hx
  ·rw [e]; exact nb_in hb
  ·exact go_inP (Sm.go_head g).1 g.2 x hx
theorem few_pts {cs rs:List Int} (lc:cs.length≤39) (lr:rs.length≤39) {l:List (Int×Int)} (hn:l.Nodup) (hi:∀ q∈l,inPt cs rs q):l.length≤1681:=by
 have:=nodup_le l ((List.range 1681).map fun k=>(((k / 41:Nat):Int),((k%41:Nat):Int))) hn fun q hq=>by
  obtain ⟨⟨a,b⟩,c,d⟩:=hi q hq
  refine List.mem_map.mpr ⟨q.1.toNat*41+q.2.toNat,List.mem_range.mpr (by omega),Prod.ext ?_ ?_⟩
  ·dsimp only; omega
  ·dsimp only; omega
 rwa [List.length_map,List.length_range] at this
end
section
variable {P:Program} {w:World} {K:PySem.W.Frag} {mg:Str→Option Value} {base:Heap} {t:Ad}
theorem nb_len2' (cs rs:List Int) (q:Int×Int):(nb cs rs q).length≤2:=(gr_nb cs rs).le2 q
theorem filt_pts {H:Hp}:∀ {xs:List V} {ps:List (Int×Int)} {a:Int×Int},PwPt H xs ps→PwPt H (xs.filter fun v=>!decide (ptOf H v=a)) (ps.filter fun c=>!decide (c=a))
 | [],[],a,_=>PwPt.nil
 | [],_::_,_,h=>by have:=h.1; simp at this
 | _::_,[],_,h=>by have:=h.1; simp at this
 | v::xs,p::ps,a,h=>by
  obtain ⟨v',r,e,h1,h2⟩:=h.inv
  cases e
  have:=filt_pts (a:=a) h2
  by_cases c:p=a
  ·have e1:(!decide (ptOf H v=a))=false:=by rw [h1.of]; simp [c]
   have e2:(!decide (p=a))=false:=by simp [c]
   rw [List.filter_cons_of_neg (by rw [e1]; simp),List.filter_cons_of_neg (by rw [e2]; simp)]
   exact this
  ·have e1:(!decide (ptOf H v=a))=true:=by rw [h1.of]; simp [c]
   have e2:(!decide (p=a))=true:=by simp [c]
   rw [List.filter_cons_of_pos (by rw [e1]),List.filter_cons_of_pos (by rw [e2])]
   exact PwPt.cons h1 this
theorem pw_last {H:Hp} {xs:List V} {ps:List (Int×Int)} {q:Int×Int} (h:PwPt H xs (ps++[q])):∃ v,atI xs (-1)=some v∧Pt H v q:=by
 have hl:=h.1
 rw [List.length_append,List.length_singleton] at hl
 obtain ⟨ys,v,rfl⟩:∃ ys v,xs=ys++[v]:=⟨xs.dropLast,xs.getLast (fun e=>by rw [e] at hl; simp at hl),(List.dropLast_concat_getLast _).symm⟩
 rw [List.length_append,List.length_singleton] at hl
 refine ⟨v,atI_last ys v,h.2 ps.length v q (by rw [List.getElem?_append_right (by omega),show ps.length - ys.length=0 by omega]; rfl) (by simp)⟩
theorem fin_of {a b h:Int×Int} {r m:List (Int×Int)} (e:r++[h]=b::m):∃ r0 z,a::r=r0++[z]∧Sm.fin a b m=(z,h):=by
 match m,e with
 | [],e =>
  have:r=[]:=by
   have:=congrArg List.length e
   rw [List.length_append] at this
   exact List.eq_nil_of_length_eq_zero (by simpa using this)
  subst this
  simp only [List.nil_append,List.cons.injEq,and_true] at e
  exact ⟨[],a,rfl,by rw [e]; rfl⟩
 | c::m,e =>
  obtain ⟨m0,z,hm⟩:∃ m0 z,c::m=m0++[z]:=⟨(c::m).dropLast,(c::m).getLast (by simp),(List.dropLast_concat_getLast _).symm⟩
  rw [hm] at e ⊢
  rw [← List.cons_append] at e
  have e1:=List.append_inj_left' e rfl
  have e2:=List.append_inj_right' e rfl
  simp only [List.cons.injEq,and_true] at e2
  subst e1 e2
  refine ⟨(a::b::m0).dropLast,(Sm.fin a b m0).2,?_,by rw [Sm.fin_snoc]⟩
  have hl:=Sm.fin_last a b m0
  rw [List.getLast?_eq_some_getLast (by simp)] at hl
  rw [← Option.some.inj hl,List.dropLast_concat_getLast]
def sp_walk (C:Addr):Sp:=fun vs H Q _=>∃ (p a b:Addr) (qa qb:Int×Int) (s:Int) (cs rs:List Int),vs=[.ref p,.ref a,.ref b]∧ClothAt C H p s cs rs∧cs.length≤39∧rs.length≤39∧H a=some (.tup [.int qa.1,.int qa.2])∧H b=some (.tup [.int qb.1,.int qb.2])∧inPt cs rs qa∧qb∈nb cs rs qa ∧
 ∀ l xs m H',Same H H'→H l=none→H' l=some (.lst xs)→Sm.Wlk (nb cs rs) qa qb m→PwPt H' xs (qa::qb::m)→Q (.ref l) H'
theorem ok_walk (T:Txt K mg t):FnOk P w K mg base CX0 7 t.f_walk t.d_walk ["cloth","start","onward"] (sp_walk t.a_Cloth):=by
 have G_joined:=ok_joined (P:=P) (w:=w) (base:=base) T
 refine T.F_walk.ok sc_walk (fun vs H Q E h=>?_) (fun cdv A outer s H vs Q E hr h=>?_)
 ·obtain ⟨p,a,b,qa,qb,s,cs,rs,rfl,_⟩:=h; rfl
 ·obtain ⟨p,a,b,qa,qb,s,cs,rs,rfl,hc,lc,lr,ha,hb,ia,adj,k⟩:=h
  refine cutC (ps_set (i:=3) sc_walk.nd rfl (Or.inl rfl) (pe_lst (pa_cons (pv 1) pa_nil))) fun _ _=>cutC (ps_set (i:=4) sc_walk.nd rfl (Or.inl rfl) (pv 2)) fun _ _=>cutC (ps_while PassesOwn.never (pt_cmpR (op_neD hr.units) (pv 4) (pv 1) (nomark _)) (pss_cons (ps_set (i:=5) sc_walk.nd rfl (Or.inr rfl) (pe_ix (ix_listK K rfl) (pv 3) (pe_un un_neg pe_int) (fun _ _=>rfl))) (pss_cons (ps_expr (pe_bm PySem.F.plainAttrs_list PySem.F.slot_list_append PySem.F.type_list_append mt_append (pv 3) (pa_cons (pv 4) pa_nil))) (pss_cons (ps_setC (i:=6) sc_walk.nd rfl (Or.inl rfl) (N:=["point","behind"]) (cap:=[none,some 5]) rfl ⟨rfl,rfl,rfl,rfl,rfl,rfl⟩ (pi_list (pe_call G_joined (hr.mono (by first | decide | omega)) rfl T.mg_joined T.F_joined.kp T.b_joined .nil pass0 (pa_cons (pv 0) (pa_cons (pv 4) pa_nil)))) (fun _ _ _=>(pg_name (i:=0) (show (["point","behind"]:List Str).Nodup by decide +kernel) rfl (Or.inl rfl))) (fun _ _ _=>(pts_one (pt_cmpR (op_neD hr.units) (pv 0) (pv 1) (nomark _)))) (fun _ _ _=>(pv 0)) (by rfl)) (pss_cons (ps_if (pt_cmpR op_eq (pe_callB (cI_lenK K rfl) rfl T.no_len (by rfl) (pa_cons (pv 6) pa_nil)) pe_int (nomark _)) (pss_one (ps_ret (pv 3))) pss_nil) (pss_one (ps_set (i:=4) sc_walk.nd rfl (Or.inl rfl) (pe_ix (ix_listK K rfl) (pv 6) pe_int (fun _ _=>rfl))))))))) fun _ _=>cutE (ps_ret (pv 3)) fun _ _=>?_
  walk_at "rdf"
  refine ⟨by show 1≤sizeLine; decide,fun l n1=>?_⟩
  have s1:=Same.new (o:=HO.lst [V.ref a]) n1
  have e1:=upd_same (H:=H) (a:=l) (o:=HO.lst [V.ref a])
  generalize upd H l (HO.lst [V.ref a])=H1 at s1 e1 ⊢
  walk_at "rdf"
  have qab:qb≠qa:=fun e=>(gr_nb cs rs).irr qa (e ▸ adj)
  refine ⟨fun m σ' H'=>∃ (xs:List V) (h:Addr) (r m':List (Int×Int)) (qh:Int×Int) (o5 o6:Option V),m=2000 - r.length∧σ'=[some (.ref p),some (.ref a),some (.ref b),some (.ref l),some (.ref h),o5,o6]∧Same H H'∧H' l=some (.lst xs)∧PwPt H' xs (qa::r)∧Pt H' (.ref h) qh∧r++[qh]=qb::m'∧Sm.Go (nb cs rs) qa qb m'∧qa∉r∧r.length≤1681,
   ⟨_,_,b,[],[],qb,none,none,rfl,rfl,s1,e1,PwPt.cons ⟨a,rfl,s1 _ _ ha⟩ PwPt.nil,⟨b,rfl,s1 _ _ hb⟩,rfl,trivial,(fun z=>nomatch z),Nat.zero_le _⟩,?_⟩
  rintro m σ' H2 ⟨xs,h,r,m',qh,o5,o6,rfl,rfl,s2,e2,w2,ph,er,go,na,lr1⟩
  obtain ⟨h',hh',ph'⟩:=ph
  cases hh'
  obtain ⟨r0,z0,er0,ef⟩:=fin_of (a:=qa) er
  walk_at "rdf"
  refine rd_neP ph' (s2 _ _ ha) ?_
  by_cases c:qh=qa
  ·rw [decide_eq_true (show ((qh.1,qh.2):Int×Int)=(qa.1,qa.2) from c)]
   walk_at "rdf"
   subst c
   match m',er,go with
   | [],er,_ =>
    have:r=[]:=by
     have:=congrArg List.length er
     rw [List.length_append] at this
     exact List.eq_nil_of_length_eq_zero (by simpa using this)
    subst this
    simp only [List.nil_append,List.cons.injEq,and_true] at er
    exact absurd er.symm qab
   | c::mm,er,go =>
    obtain ⟨m0,z,hm⟩:∃ m0 z,c::mm=m0++[z]:=⟨(c::mm).dropLast,(c::mm).getLast (by simp),(List.dropLast_concat_getLast _).symm⟩
    rw [hm] at er go
    rw [← List.cons_append] at er
    have q1:=List.append_inj_left' er rfl
    have q2:=List.append_inj_right' er rfl
    simp only [List.cons.injEq,and_true] at q2
    subst q1 q2
    obtain ⟨g1,g2⟩:=Sm.go_snoc.mp go
    have nam:qh∉m0:=fun x=>na (List.mem_cons_of_mem _ x)
    exact k l xs m0 H2 s2 n1 e2 ⟨adj,g1,Sm.walk_nodup (gr_nb cs rs) adj m0 g1 nam,.inr g2⟩ w2
  ·rw [decide_eq_false (show ¬ ((qh.1,qh.2):Int×Int)=(qa.1,qa.2) from c)]
   walk_at "rdf"
   have ef1:(Sm.fin qa qb m').1=z0:=by rw [ef]
   have ef2:(Sm.fin qa qb m').2=qh:=by rw [ef]
   have nam:qa∉m':=by
    intro x
    have:qa∈r++[qh]:=by rw [er]; exact List.mem_cons_of_mem _ x
    rcases List.mem_append.mp this with x | x
    ·exact na x
    ·exact c (List.mem_singleton.mp x).symm
   have nd:=Sm.walk_nodup (gr_nb cs rs) adj m' go nam
   have few:=few_pts lc lr nd (fun q hq=>by
    rcases List.mem_cons.mp hq with e | hq
    ·rw [e]; exact ia
    ·exact go_inP adj go q hq)
   have le:r.length=m'.length:=by
    have:=congrArg List.length er
    rw [List.length_append,List.length_singleton,List.length_cons] at this
    omega
   rw [List.length_cons,List.length_cons] at few
   have lx:xs.length=r.length+1:=by rw [w2.1,List.length_cons]
   obtain ⟨vz,hz,pz⟩:=pw_last (by rw [← er0]; exact w2)
   obtain ⟨az,rfl,haz⟩:=pz
   have iq:inPt cs rs qh:=go_inP adj go qh (by rw [← er]; exact List.mem_append_right _ (List.mem_singleton.mpr rfl))
   refine ⟨fun σ' H'=>∃ (xs:List V) (h:Addr) (qc:Int×Int) (o5 o6:Option V),σ'=[some (.ref p),some (.ref a),some (.ref b),some (.ref l),some (.ref h),o5,o6]∧Same H H'∧H' l=some (.lst xs)∧PwPt H' xs (qa::(r++[qh]))∧Pt H' (.ref h) qc∧Sm.oth (nb cs rs) z0 qh=[qc],?_,?_⟩
   ·rintro σ' H' ⟨xs,h,qc,o5,o6,rfl,s3,e3,w3,ph,eo⟩
    refine ⟨_,?_,xs,h,r++[qh],m'++[qc],qc,o5,o6,rfl,rfl,s3,e3,w3,ph,by rw [er]; rfl,Sm.go_snoc.mpr ⟨go,by rw [ef]; exact eo⟩,?_,?_⟩
    ·rw [List.length_append,List.length_singleton]; omega
    ·intro x
     rcases List.mem_append.mp x with x | x
     ·exact na x
     ·exact c (List.mem_singleton.mp x).symm
    ·rw [List.length_append,List.length_singleton]; omega
   ·walk_at "rdf"
    refine rd_ixL (SqL.of e2) hz ?_
    walk_at "rdf"
    refine rd_bmL e2 ?_
    walk_at "rdf"
    refine rd_append e2 (small1000' (by omega)) ?_
    have s3:=(s2.later (o:=.lst (xs++[.ref h])) n1)
    have e3:=upd_same (H:=H2) (a:=l) (o:=HO.lst (xs++[.ref h]))
    have w3:PwPt (L2.upd H2 l (.lst (xs++[.ref h]))) (xs++[.ref h]) (qa::(r++[qh])):=(w2.upd e2 (by intro ys z; cases z)).snoc (Pt.upd (q:=qh) ⟨h,rfl,ph'⟩ e2 (by intro ys z; cases z))
    have haz:=(Pt.upd (o:=.lst (xs++[.ref h])) (q:=z0) ⟨az,rfl,haz⟩ e2 (by intro ys z; cases z))
    have ph3:=(Pt.upd (o:=.lst (xs++[.ref h])) (q:=qh) ⟨h,rfl,ph'⟩ e2 (by intro ys z; cases z))
    generalize L2.upd H2 l (.lst (xs++[.ref h]))=H3 at s3 e3 w3 haz ph3 ⊢
    obtain ⟨_,q1,haz⟩:=haz
    cases q1
    obtain ⟨_,q1,ph3⟩:=ph3
    cases q1
    walk_at "rdf"
    refine ⟨p,h,qh,s,cs,rs,rfl,hc.mono s3,ph3,iq,fun lj ys H4 s4 _ e4 w4=>?_⟩
    walk_at "rdf"
    refine ⟨⟨_,SqL.of e4⟩,fun lw nw=>?_⟩
    have l4:ys.length≤2:=by rw [w4.1]; exact nb_len2' cs rs qh
    refine compW_filt (fun v=>v) (fun v=>!decide (ptOf H4 v=z0)) (SqL.of e4) (by omega) nw (fun x o H5 Q' hx s5 q=>?_) (fun x o H5 Q' hx _ s5 q=>?_) (fun H5 s5 e5=>?_)
    ·walk_at "rdf"
     have px:=w4.mem x hx
     obtain ⟨ax,rfl,hax⟩:=px
     refine rd_neP (s5 _ _ hax) (s5 _ _ (s4 _ _ haz)) ?_
     walk_at "rdf"
     exact q H5 (Same.refl _)
    ·walk_at "rdf"
     exact q H5 (Same.refl _)
    ·rw [List.map_id'] at e5
     have w5:=(filt_pts (a:=z0) w4).mono s5
     generalize (ys.filter fun v=>!decide (ptOf H4 v=z0))=us at e5 w5
     have w5:PwPt H5 us (Sm.oth (nb cs rs) z0 qh):=w5
     have s35:=s4.trans s5
     have hzq:z0∈nb cs rs qh:=by
      have:=(gr_nb cs rs).sym (Sm.fin_adj (gr_nb cs rs) adj go)
      rw [ef] at this
      exact this
     walk_at "rdf"
     refine rd_lenL e5 ?_
     walk_at "rdf"
     rcases Sm.oth_le (gr_nb cs rs) hzq with eo | ⟨qc,eo⟩
     ·rw [eo] at w5
      have:us=[]:=List.eq_nil_of_length_eq_zero w5.1
      subst this
      rw [show decide ((([]:List V).length:Int)=0)=true from rfl]
      walk_at "rdf"
      refine k l _ m' H5 (s3.trans s35) n1 (s35 _ _ e3) ⟨adj,go,nd,.inl (by rw [ef]; exact eo)⟩ ?_
      rw [← er]
      exact w3.mono s35
     ·rw [eo] at w5
      obtain ⟨v,us',e,hv,wu⟩:=w5.inv
      have:us'=[]:=List.eq_nil_of_length_eq_zero wu.1
      subst this
      subst e
      rw [show decide ((([v]:List V).length:Int)=0)=false from rfl]
      walk_at "rdf"
      refine rd_ixL (SqL.of e5) (atI_nat (j:=0) rfl) ?_
      walk_at "rdf"
      obtain ⟨av,rfl,hav⟩:=hv
      exact ⟨_,av,qc,_,_,rfl,s3.trans s35,s35 _ _ e3,w3.mono s35,⟨av,rfl,hav⟩,eo⟩
end
section
variable {P:Program} {w:World} {K:PySem.W.Frag} {mg:Str→Option Value} {base:Heap} {t:Ad}
theorem nb_least {cs rs:List Int} {q:Int×Int} (h2:(nb cs rs q).length=2) (h:∀ r∈nb cs rs q,Ts.ple q r):nb cs rs q=[(q.1,q.2+1)]++[(q.1+1,q.2)]:=by
 have h1:rt cs rs (q.1 - 1) q.2=false:=by
  cases c:rt cs rs (q.1 - 1) q.2 with
  | false => rfl
  | true => have := h _ (nb_mem.mpr (.inl ⟨c, rfl⟩)); unfold Ts.ple at this; dsimp only at this; omega
 have h3:ups cs rs q.1 (q.2 - 1)=false:=by
  cases c:ups cs rs q.1 (q.2 - 1) with
  | false => rfl
  | true => have := h _ (nb_mem.mpr (.inr (.inl ⟨c, rfl⟩))); unfold Ts.ple at this; dsimp only at this; omega
 unfold nb at h2 ⊢
 rw [h1,h3] at h2 ⊢
 cases c:ups cs rs q.1 q.2<;>cases d:rt cs rs q.1 q.2<;>rw [c,d] at h2<;>first | rfl | (simp at h2)
theorem list_last {a b:Int×Int} {m:List (Int×Int)}:∃ ps,a::b::m=ps++[(Sm.fin a b m).2]:=by
 have hl:=Sm.fin_last a b m
 rw [List.getLast?_eq_some_getLast (by simp)] at hl
 exact ⟨(a::b::m).dropLast,by rw [← Option.some.inj hl,List.dropLast_concat_getLast]⟩
theorem PwPt.rev:∀ {H:Hp} {xs:List V} {ps:List (Int×Int)},PwPt H xs ps→PwPt H xs.reverse ps.reverse
 | H,[],[],_=>PwPt.nil
 | H,[],_::_,h=>by have:=h.1; simp at this
 | H,_::_,[],h=>by have:=h.1; simp at this
 | H,v::xs,p::ps,h=>by
  obtain ⟨v',r,e,h1,h2⟩:=h.inv
  cases e
  rw [List.reverse_cons,List.reverse_cons]
  exact (PwPt.rev h2).snoc h1
theorem told_inP {cs rs:List Int} {f:Bool} {L:List (Int×Int)} (h:Sm.Told (nb cs rs) f L):∀ q∈L,inPt cs rs q:=by
 obtain ⟨a,b,l,rfl,adj,go,_⟩:=h.path
 intro q hq
 rcases List.mem_cons.mp hq with e | hq
 ·rw [e]; exact nb_in ((gr_nb cs rs).sym adj)
 ·exact go_inP adj go q hq
def sp_toldround (C:Addr):Sp:=fun vs H Q _=>∃ (p ll:Addr) (xs:List V) (qa qb:Int×Int) (m:List (Int×Int)) (s:Int) (cs rs:List Int),vs=[.ref p,.ref ll]∧ClothAt C H p s cs rs∧cs.length≤39∧rs.length≤39∧H ll=some (.lst xs)∧PwPt H xs (qa::qb::m)∧Sm.Rnd (nb cs rs) qa qb m∧inPt cs rs qa ∧
 ∀ l ys L H',Same H H'→H l=none→H' l=some (.lst ys)→Sm.Told (nb cs rs) true L→qa∈L→PwPt H' ys L→Q (.ref l) H'
theorem ok_toldround (T:Txt K mg t):FnOk P w K mg base CX0 8 t.f_toldround t.d_toldround ["cloth","line"] (sp_toldround t.a_Cloth):=by
 have G_joined:=ok_joined (P:=P) (w:=w) (base:=base) T
 have G_walk:=ok_walk (P:=P) (w:=w) (base:=base) T
 refine T.F_toldround.ok sc_toldround (fun vs H Q E h=>?_) (fun cdv A outer s H vs Q E hr h=>?_)
 ·obtain ⟨p,ll,xs,qa,qb,m,s,cs,rs,rfl,_⟩:=h; rfl
 ·obtain ⟨p,ll,xs,qa,qb,m,s,cs,rs,rfl,hc,lc,lr,hl,wx,rd,ia,k⟩:=h
  have G:=gr_nb cs rs
  refine ⟨_,(pss_cons (ps_set (i:=2) sc_toldround.nd rfl (Or.inl rfl) (pe_callB (cI_minPK K rfl rfl hr.units) rfl T.no_min (by rfl) (pa_cons (pv 1) pa_nil))) (pss_one (ps_ret (pe_call G_walk (hr.mono (by first | decide | omega)) rfl T.mg_walk T.F_walk.kp T.b_walk .nil pass0 (pa_cons (pv 0) (pa_cons (pv 2) (pa_cons (pe_ix (ix_listK K rfl) (pe_call G_joined (hr.mono (by first | decide | omega)) rfl T.mg_joined T.F_joined.kp T.b_joined .nil pass0 (pa_cons (pv 0) (pa_cons (pv 2) pa_nil))) (pe_un un_neg pe_int) (fun _ _=>rfl)) pa_nil))))))),?_⟩
  walk_at "rdf"
  refine rd_minP (ptOf H) hl (fun e=>by have:=wx.1; rw [e] at this; simp at this) (fun v hv=>wx.mem v hv) fun v hv hmin=>?_
  obtain ⟨a,rfl,ha⟩:=wx.mem v hv
  have hq:ptOf H (.ref a)∈qa::qb::m:=by rw [← wx.map]; exact List.mem_map.mpr ⟨_,hv,rfl⟩
  have hmn:∀ r∈qa::qb::m,Ts.ple (ptOf H (.ref a)) r:=by
   intro r hr
   rw [← wx.map] at hr
   obtain ⟨u,hu,rfl⟩:=List.mem_map.mp hr
   exact hmin u hu
  generalize ptOf H (.ref a)=q at ha hq hmn
  have iq:inPt cs rs q:=by
   rcases List.mem_cons.mp hq with e | hq
   ·rw [e]; exact ia
   ·exact go_inP rd.adj rd.go q hq
  have sh:=rd.shut G
  have two:=rd.two G
  have enb:=nb_least (two q hq) fun r hr=>hmn r (sh q hq r hr)
  walk_at "rdf"
  refine ⟨p,a,q,s,cs,rs,rfl,hc,ha,iq,fun lj ys H1 s1 _ e1 w1=>?_⟩
  rw [enb] at w1
  obtain ⟨v,hv1,pv⟩:=pw_last w1
  obtain ⟨b,rfl,hb⟩:=pv
  walk_at "rdf"
  refine rd_ixL (SqL.of e1) hv1 ?_
  walk_at "rdf"
  have adj:((q.1+1,q.2):Int×Int)∈nb cs rs q:=by rw [enb]; exact List.mem_append_right _ (List.mem_singleton.mpr rfl)
  refine ⟨p,a,b,q,(q.1+1,q.2),s,cs,rs,rfl,hc.mono s1,lc,lr,s1 _ _ ha,hb,iq,adj,fun l zs m' H2 s2 n2 e2 wk w2=>?_⟩
  have rd2:=wk.round G sh two hq
  have sub:∀ x∈q::(q.1+1,q.2)::m',x∈qa::qb::m:=Sm.go_in G sh rd2.adj rd2.go q List.mem_cons_self hq
  refine k l zs (q::(q.1+1,q.2)::m') H2 (s1.trans s2) (s1.free n2) e2 ⟨(fun e=>by cases e),fun _=>⟨q,_,m',rfl,rd2,fun x hx=>hmn x (sub x hx),rfl⟩⟩ ?_ w2
  exact Sm.go_in G (rd2.shut G) rd.adj rd.go q hq List.mem_cons_self qa List.mem_cons_self
def sp_toldopen (C:Addr):Sp:=fun vs H Q _=>∃ (p a:Addr) (q:Int×Int) (s:Int) (cs rs:List Int),vs=[.ref p,.ref a]∧ClothAt C H p s cs rs∧cs.length≤39∧rs.length≤39∧H a=some (.tup [.int q.1,.int q.2])∧(nb cs rs q).length=1∧inPt cs rs q ∧
 ∀ l ys L H',Same H H'→H l=none→H' l=some (.lst ys)→Sm.Told (nb cs rs) false L→q∈L→PwPt H' ys L→Q (.ref l) H'
theorem ok_toldopen (T:Txt K mg t):FnOk P w K mg base CX0 8 t.f_toldopen t.d_toldopen ["cloth","end"] (sp_toldopen t.a_Cloth):=by
 have G_joined:=ok_joined (P:=P) (w:=w) (base:=base) T
 have G_walk:=ok_walk (P:=P) (w:=w) (base:=base) T
 refine T.F_toldopen.ok sc_toldopen (fun vs H Q E h=>?_) (fun cdv A outer s H vs Q E hr h=>?_)
 ·obtain ⟨p,a,q,s,cs,rs,rfl,_⟩:=h; rfl
 ·obtain ⟨p,a,q,s,cs,rs,rfl,hc,lc,lr,ha,one,iq,k⟩:=h
  have G:=gr_nb cs rs
  refine cutC (ps_set (i:=2) sc_toldopen.nd rfl (Or.inl rfl) (pe_call G_walk (hr.mono (by first | decide | omega)) rfl T.mg_walk T.F_walk.kp T.b_walk .nil pass0 (pa_cons (pv 0) (pa_cons (pv 1) (pa_cons (pe_ix (ix_listK K rfl) (pe_call G_joined (hr.mono (by first | decide | omega)) rfl T.mg_joined T.F_joined.kp T.b_joined .nil pass0 (pa_cons (pv 0) (pa_cons (pv 1) pa_nil))) pe_int (fun _ _=>rfl)) pa_nil))))) fun _ _=>cutC (ps_if (pt_cmpR (op_ltP hr.units) (pe_ix (ix_listK K rfl) (pv 2) (pe_un un_neg pe_int) (fun _ _=>rfl)) (pv 1) (nomark _)) (pss_one (ps_ret (pe_revL K rfl rfl rfl T.no_list rfl T.no_reversed (pv 2)))) pss_nil) fun _ _=>cutE (ps_ret (pv 2)) fun _ _=>?_
  walk_at "rdf"
  refine ⟨p,a,q,s,cs,rs,rfl,hc,ha,iq,fun lj ys H1 s1 _ e1 w1=>?_⟩
  obtain ⟨y,ey⟩:∃ y,nb cs rs q=[y]:=by
   match hz:nb cs rs q,one with
   | [y],_=>exact ⟨y,rfl⟩
  rw [ey] at w1
  obtain ⟨v,r,e,hv,wr⟩:=w1.inv
  subst e
  obtain ⟨b,rfl,hb⟩:=hv
  walk_at "rdf"
  refine rd_ixL (SqL.of e1) (atI_nat (j:=0) rfl) ?_
  walk_at "rdf"
  refine ⟨p,a,b,q,y,s,cs,rs,rfl,hc.mono s1,lc,lr,s1 _ _ ha,hb,iq,by rw [ey]; exact List.mem_singleton.mpr rfl,fun l zs m' H2 s2 n2 e2 wk w2=>?_⟩
  have op:=wk.open G one
  obtain ⟨t1,t2⟩:=Sm.told_open G op
  obtain ⟨ps,eps⟩:=list_last (a:=q) (b:=y) (m:=m')
  obtain ⟨vl,hvl,pl⟩:=pw_last (by rw [← eps]; exact w2)
  walk_at "rdf"
  refine rd_ixL (SqL.of e2) hvl ?_
  walk_at "rdf"
  refine rd_ltP (p:=(Sm.fin q y m').2) (q:=q) pl ⟨a,rfl,s2 _ _ (s1 _ _ ha)⟩ ?_
  cases hlt:Ts.plt (Sm.fin q y m').2 q with
  | true =>
   walk_at "rdf"
   refine rd_revh ?_
   walk_at "rdf"
   refine rd_rev e2 fun l3 n3=>?_
   walk_at "rdf"
   have s3:=Same.new (o:=HO.lst zs.reverse) n3
   exact k l3 _ _ _ (s1.trans (s2.trans s3)) (s1.free (s2.free n3)) upd_same (t1 hlt) (List.mem_reverse.mpr List.mem_cons_self) (w2.rev.mono s3)
  | false =>
   walk_at "rdf"
   exact k l zs _ H2 (s1.trans s2) (s1.free n2) e2 (t2 hlt) List.mem_cons_self w2
def sp_seam (C:Addr):Sp:=fun vs H Q _=>∃ (p a:Addr) (q:Int×Int) (s:Int) (cs rs:List Int),vs=[.ref p,.ref a]∧ClothAt C H p s cs rs∧cs.length≤39∧rs.length≤39∧H a=some (.tup [.int q.1,.int q.2])∧inPt cs rs q ∧
 (nb cs rs q=[]→∀ H',Same H H'→Q .non H') ∧
 (nb cs rs q≠[]→∀ TT l f ys L H',Same H H'→H TT=none→H l=none→H' TT=some (.tup [.bl f,.ref l])→H' l=some (.lst ys)→Sm.Told (nb cs rs) f L→q∈L→PwPt H' ys L→Q (.ref TT) H')
theorem ok_seam (T:Txt K mg t):FnOk P w K mg base CX0 9 t.f_seam t.d_seam ["cloth","point"] (sp_seam t.a_Cloth):=by
 have G_joined:=ok_joined (P:=P) (w:=w) (base:=base) T
 have G_walk:=ok_walk (P:=P) (w:=w) (base:=base) T
 have G_toldround:=ok_toldround (P:=P) (w:=w) (base:=base) T
 have G_toldopen:=ok_toldopen (P:=P) (w:=w) (base:=base) T
 refine T.F_seam.ok sc_seam (fun vs H Q E h=>?_) (fun cdv A outer s H vs Q E hr h=>?_)
 ·obtain ⟨p,a,q,s,cs,rs,rfl,_⟩:=h; rfl
 ·obtain ⟨p,a,q,s,cs,rs,rfl,hc,lc,lr,ha,iq,k0,k⟩:=h
  have G:=gr_nb cs rs
  refine cutC (ps_set (i:=2) sc_seam.nd rfl (Or.inl rfl) (pe_call G_joined (hr.mono (by first | decide | omega)) rfl T.mg_joined T.F_joined.kp T.b_joined .nil pass0 (pa_cons (pv 0) (pa_cons (pv 1) pa_nil)))) fun _ _=>cutC (ps_if (pt_cmpR op_eq (pe_callB (cI_lenK K rfl) rfl T.no_len (by rfl) (pa_cons (pv 2) pa_nil)) pe_int (nomark _)) (pss_one (ps_ret pe_non)) pss_nil) fun _ _=>cutC (ps_set (i:=3) sc_seam.nd rfl (Or.inl rfl) (pe_call G_walk (hr.mono (by first | decide | omega)) rfl T.mg_walk T.F_walk.kp T.b_walk .nil pass0 (pa_cons (pv 0) (pa_cons (pv 1) (pa_cons (pe_ix (ix_listK K rfl) (pv 2) pe_int (fun _ _=>rfl)) pa_nil))))) fun _ _=>cutC (ps_if (pt_cmpR op_eq (pe_callB (cI_lenK K rfl) rfl T.no_len (by rfl) (pa_cons (pe_call G_joined (hr.mono (by first | decide | omega)) rfl T.mg_joined T.F_joined.kp T.b_joined .nil pass0 (pa_cons (pv 0) (pa_cons (pe_ix (ix_listK K rfl) (pv 3) (pe_un un_neg pe_int) (fun _ _=>rfl)) pa_nil))) pa_nil)) pe_int (nomark _)) (pss_one (ps_ret (pe_tup (pa_cons pe_bl (pa_cons (pe_call G_toldopen (hr.mono (by first | decide | omega)) rfl T.mg_toldopen T.F_toldopen.kp T.b_toldopen .nil pass0 (pa_cons (pv 0) (pa_cons (pe_ix (ix_listK K rfl) (pv 3) (pe_un un_neg pe_int) (fun _ _=>rfl)) pa_nil))) pa_nil))))) pss_nil) fun _ _=>cutE (ps_ret (pe_tup (pa_cons pe_bl (pa_cons (pe_call G_toldround (hr.mono (by first | decide | omega)) rfl T.mg_toldround T.F_toldround.kp T.b_toldround .nil pass0 (pa_cons (pv 0) (pa_cons (pv 3) pa_nil))) pa_nil)))) fun _ _=>?_
  walk_at "rdf"
  refine ⟨p,a,q,s,cs,rs,rfl,hc,ha,iq,fun lj ys H1 s1 _ e1 w1=>?_⟩
  walk_at "rdf"
  refine rd_lenL e1 ?_
  walk_at "rdf"
  match hz:nb cs rs q,w1 with
  | [], w1 =>
   have:ys=[]:=List.eq_nil_of_length_eq_zero w1.1
   subst this
   rw [show decide ((([]:List V).length:Int)=0)=true from rfl]
   walk_at "rdf"
   exact k0 hz _ s1
  | y :: rest, w1 =>
   have k:=k (by rw [hz]; simp)
   obtain ⟨v,r,e,hv,wr⟩:=w1.inv
   subst e
   obtain ⟨b,rfl,hb⟩:=hv
   rw [decide_eq_false (show ¬ (((V.ref b::r).length:Nat):Int)=0 by rw [List.length_cons]; omega)]
   walk_at "rdf"
   refine rd_ixL (SqL.of e1) (atI_nat (j:=0) rfl) ?_
   walk_at "rdf"
   refine ⟨p,a,b,q,y,s,cs,rs,rfl,hc.mono s1,lc,lr,s1 _ _ ha,hb,iq,by rw [hz]; exact List.mem_cons_self,fun l zs m' H2 s2 n2 e2 wk w2=>?_⟩
   obtain ⟨ps,eps⟩:=list_last (a:=q) (b:=y) (m:=m')
   obtain ⟨vl,hvl,pl⟩:=pw_last (by rw [← eps]; exact w2)
   obtain ⟨al,rfl,hal⟩:=pl
   have il:inPt cs rs (Sm.fin q y m').2:=go_inP wk.adj wk.go _ (Sm.fin_mem q y m').1
   walk_at "rdf"
   refine rd_ixL (SqL.of e2) hvl ?_
   walk_at "rdf"
   refine ⟨p,al,(Sm.fin q y m').2,s,cs,rs,rfl,hc.mono (s1.trans s2),hal,il,fun lj us H3 s3 _ e3 w3=>?_⟩
   walk_at "rdf"
   refine rd_lenL e3 ?_
   rw [w3.1]
   walk_at "rdf"
   by_cases c1:(nb cs rs (Sm.fin q y m').2).length=1
   ·rw [c1,show decide (((1:Nat):Int)=1)=true from rfl]
    walk_at "rdf"
    refine rd_ixL (SqL.of (s3 _ _ e2)) hvl ?_
    walk_at "rdf"
    refine ⟨p,al,(Sm.fin q y m').2,s,cs,rs,rfl,hc.mono (s1.trans (s2.trans s3)),lc,lr,s3 _ _ hal,c1,il,fun lo os L H4 s4 n4 e4 td hin w4=>?_⟩
    walk_at "rdf"
    refine ⟨by show 2≤sizeLine; decide,fun TT nT=>?_⟩
    walk_at "rdf"
    have sT:=Same.new (o:=HO.tup [V.bl false,V.ref lo]) nT
    refine k TT lo false os L _ (s1.trans (s2.trans (s3.trans (s4.trans sT)))) (s1.free (s2.free (s3.free (s4.free nT)))) (s1.free (s2.free (s3.free n4))) upd_same (sT _ _ e4) td ?_ (w4.mono sT)
    exact Sm.go_in G (td.shut G) wk.adj wk.go _ (List.mem_cons_of_mem _ (Sm.fin_mem q y m').1) hin q List.mem_cons_self
   ·rw [decide_eq_false (show ¬ (((nb cs rs (Sm.fin q y m').2).length:Nat):Int)=1 by omega)]
    have rd:Sm.Rnd (nb cs rs) q y m':=⟨wk.adj,wk.go,by
     rcases wk.stop with h | h
     ·exact absurd ((wk.ended G).mpr h) c1
     ·exact h,wk.nd⟩
    walk_at "rdf"
    refine ⟨p,l,zs,q,y,m',s,cs,rs,rfl,hc.mono (s1.trans (s2.trans s3)),lc,lr,s3 _ _ e2,w2.mono s3,rd,iq,fun lo os L H4 s4 n4 e4 td hin w4=>?_⟩
    walk_at "rdf"
    refine ⟨by show 2≤sizeLine; decide,fun TT nT=>?_⟩
    walk_at "rdf"
    have sT:=Same.new (o:=HO.tup [V.bl true,V.ref lo]) nT
    exact k TT lo true os L _ (s1.trans (s2.trans (s3.trans (s4.trans sT)))) (s1.free (s2.free (s3.free (s4.free nT)))) (s1.free (s2.free (s3.free n4))) upd_same (sT _ _ e4) td hin (w4.mono sT)
end
def ky (q:Int×Int):List Key:=[Sum.inl q.1,Sum.inl q.2]
theorem ky_inj {p q:Int×Int} (h:ky p=ky q):p=q:=by
 unfold ky at h
 simp only [List.cons.injEq,Sum.inl.injEq,and_true] at h
 exact Prod.ext h.1 h.2
def KeysAre (kvs:List (List Key×V)) (ps:List (Int×Int)):Prop:=kvs.map (·.1)=ps.map ky
theorem KeysAre.len {kvs:List (List Key×V)} {ps:List (Int×Int)} (h:KeysAre kvs ps):kvs.length=ps.length:=by
 have:=congrArg List.length h
 rwa [List.length_map,List.length_map] at this
theorem KeysAre.val {kvs:List (List Key×V)} {ps:List (Int×Int)} (h:KeysAre kvs ps) (q:Int×Int):(valV kvs (ky q)).isSome=decide (q∈ps):=by
 rw [← valV_any]
 have e:(kvs.any fun kv=>decide (kv.1=ky q))=(kvs.map (·.1)).any fun k=>decide (k=ky q):=by rw [List.any_map]; rfl
 rw [e,show kvs.map (·.1)=ps.map ky from h,Bool.eq_iff_iff,List.any_eq_true,decide_eq_true_eq]
 constructor
 ·rintro ⟨k,hk,z⟩
  obtain ⟨p,hp,rfl⟩:=List.mem_map.mp hk
  exact ky_inj (of_decide_eq_true z) ▸ hp
 ·intro hq
  exact ⟨ky q,List.mem_map.mpr ⟨q,hq,rfl⟩,decide_eq_true rfl⟩
theorem KeysAre.put {kvs:List (List Key×V)} {ps:List (Int×Int)} {q:Int×Int} {v:V} (h:KeysAre kvs ps) (hq:q∉ps):KeysAre (putK kvs (ky q) v) (ps++[q]):=by
 have hn:valV kvs (ky q)=none:=by
  have:=h.val q
  rw [decide_eq_false hq] at this
  cases e:valV kvs (ky q) with
  | none => rfl
  | some z => rw [e] at this; cases this
 rw [putK_new v hn]
 unfold KeysAre
 rw [List.map_append,List.map_append,show kvs.map (·.1)=ps.map ky from h]
 rfl
section
variable {P:Program} {w:World} {K:PySem.W.Frag} {mg:Str→Option Value} {base:Heap} {t:Ad}
abbrev Sm1:=Bool×List (Int×Int)
def SeV (H:Hp) (lf:Addr) (v:V) (e:Sm1):Prop:=∃ T l ys,v=.ref T∧l≠lf∧H T=some (.tup [.bl e.1,.ref l])∧H l=some (.lst ys)∧PwPt H ys e.2
theorem SeV.mono {H H':Hp} {lf:Addr} {v:V} {e:Sm1} (s:Same H H') (h:SeV H lf v e):SeV H' lf v e:=by
 obtain ⟨T,l,ys,h1,h2,h3,h4,h5⟩:=h
 exact ⟨T,l,ys,h1,h2,s _ _ h3,s _ _ h4,h5.mono s⟩
theorem SeV.lst {H:Hp} {lf:Addr} {v:V} {e:Sm1} {us:List V} {o:HO} (h:SeV H lf v e) (q:H lf=some (.lst us)):SeV (upd H lf o) lf v e:=by
 obtain ⟨T,l,ys,h1,h2,h3,h4,h5⟩:=h
 exact ⟨T,l,ys,h1,h2,by rw [upd_ne (ne_of h3 q (by intro z; cases z))]; exact h3,by rw [upd_ne h2]; exact h4,h5.upd q (by intro ys z; cases z)⟩
theorem SeV.dct {H:Hp} {lf d:Addr} {v:V} {e:Sm1} {us:List (List Key×V)} {o:HO} (h:SeV H lf v e) (q:H d=some (.dT us)):SeV (upd H d o) lf v e:=by
 obtain ⟨T,l,ys,h1,h2,h3,h4,h5⟩:=h
 exact ⟨T,l,ys,h1,h2,by rw [upd_ne (ne_of h3 q (by intro z; cases z))]; exact h3,by rw [upd_ne (ne_of h4 q (by intro z; cases z))]; exact h4,h5.upd q (by intro ys z; cases z)⟩
def PwS (H:Hp) (lf:Addr) (xs:List V) (L:List Sm1):Prop:=xs.length=L.length∧∀ (i:Nat) v e,xs[i]?=some v→L[i]?=some e→SeV H lf v e
theorem PwS.nil {H:Hp} {lf:Addr}:PwS H lf [] []:=⟨rfl,fun i v e h=>by simp at h⟩
theorem PwS.mono {H H':Hp} {lf:Addr} {xs:List V} {L:List Sm1} (s:Same H H') (h:PwS H lf xs L):PwS H' lf xs L:=⟨h.1,fun i v e a b=>(h.2 i v e a b).mono s⟩
theorem PwS.lst {H:Hp} {lf:Addr} {xs us:List V} {L:List Sm1} {o:HO} (h:PwS H lf xs L) (q:H lf=some (.lst us)):PwS (upd H lf o) lf xs L:=⟨h.1,fun i v e a b=>(h.2 i v e a b).lst q⟩
theorem PwS.dct {H:Hp} {lf d:Addr} {xs:List V} {L:List Sm1} {us:List (List Key×V)} {o:HO} (h:PwS H lf xs L) (q:H d=some (.dT us)):PwS (upd H d o) lf xs L:=⟨h.1,fun i v e a b=>(h.2 i v e a b).dct q⟩
theorem PwS.snoc {H:Hp} {lf:Addr} {xs:List V} {L:List Sm1} {v:V} {e:Sm1} (h:PwS H lf xs L) (hv:SeV H lf v e):PwS H lf (xs++[v]) (L++[e]):=by
 refine ⟨by rw [List.length_append,List.length_append,h.1]; rfl,fun i v' q' h1 h2=>?_⟩
 by_cases hi:i<xs.length
 ·rw [List.getElem?_append_left hi] at h1
  rw [List.getElem?_append_left (by rw [← h.1]; exact hi)] at h2
  exact h.2 i v' q' h1 h2
 ·rw [List.getElem?_append_right (by omega)] at h1
  rw [List.getElem?_append_right (by rw [← h.1]; omega),← h.1] at h2
  cases hk:i - xs.length with
  | zero =>
   rw [hk] at h1 h2
   simp only [List.getElem?_cons_zero,Option.some.injEq] at h1 h2
   rw [← h1,← h2]; exact hv
  | succ k => rw [hk] at h1; simp at h1
def seOf (H:Hp):V→Sm1
 | .ref T=>match H T with
  | some (.tup [.bl f, .ref l]) => match H l with
   | some (.lst ys)=>(f,ys.map (ptOf H))
   | _=>(false,[])
  | _ => (false, [])
 | _=>(false,[])
theorem SeV.of {H:Hp} {lf:Addr} {v:V} {e:Sm1} (h:SeV H lf v e):seOf H v=e:=by
 obtain ⟨T,l,ys,rfl,_,h3,h4,h5⟩:=h
 simp only [seOf,h3,h4,h5.map]
theorem PwS.map {H:Hp} {lf:Addr} {xs:List V} {L:List Sm1} (h:PwS H lf xs L):xs.map (seOf H)=L:=by
 refine List.ext_getElem? fun i=>?_
 rw [List.getElem?_map]
 by_cases hi:i<xs.length
 ·have hi':i<L.length:=by rw [← h.1]; exact hi
  rw [List.getElem?_eq_getElem hi,List.getElem?_eq_getElem hi',Option.map_some,(h.2 i _ _ (List.getElem?_eq_getElem hi) (List.getElem?_eq_getElem hi')).of]
 ·rw [List.getElem?_eq_none (by omega),List.getElem?_eq_none (by rw [← h.1]; omega)]; rfl
theorem PwS.mem {H:Hp} {lf:Addr} {xs:List V} {L:List Sm1} (h:PwS H lf xs L):∀ v∈xs,SeV H lf v (seOf H v)∧seOf H v∈L:=by
 intro v hv
 obtain ⟨i,hi⟩:=List.mem_iff_getElem?.mp hv
 have hl:i<L.length:=by rw [← h.1]; exact (List.getElem?_eq_some_iff.mp hi).1
 have:=h.2 i v _ hi (List.getElem?_eq_getElem hl)
 rw [this.of]
 exact ⟨this,List.getElem_mem hl⟩
theorem pws_of {H:Hp} {lf:Addr}:∀ {xs:List V},(∀ v∈xs,SeV H lf v (seOf H v))→PwS H lf xs (xs.map (seOf H))
 | [],_=>PwS.nil
 | v::xs,h=>by
  have ih:=pws_of (xs:=xs) fun v hv=>h v (List.mem_cons_of_mem _ hv)
  refine ⟨by rw [List.length_map],fun i v' e h1 h2=>?_⟩
  cases i with
  | zero => simp only [List.getElem?_cons_zero, List.map_cons, Option.some.injEq] at h1 h2; rw [← h1, ← h2]; exact h v List.mem_cons_self
  | succ i => simp only [List.getElem?_cons_succ, List.map_cons] at h1 h2; exact ih.2 i v' e h1 h2
def hd (e:Sm1):Int×Int:=e.2.headD (0,0)
def flat (L:List Sm1):List (Int×Int):=L.flatMap (·.2)
theorem flat_snoc (L:List Sm1) (e:Sm1):flat (L++[e])=flat L++e.2:=by
 unfold flat
 rw [List.flatMap_append]
 simp
theorem mem_flat {L:List Sm1} {q:Int×Int}:q∈flat L↔∃ e∈L,q∈e.2:=List.mem_flatMap
structure SomeS (cs rs:List Int) (L:List Sm1):Prop where
 told:∀ e∈L,Sm.Told (nb cs rs) e.1 e.2
 nd:(flat L).Nodup
theorem SomeS.in_ {cs rs:List Int} {L:List Sm1} (h:SomeS cs rs L):∀ q∈flat L,inPt cs rs q:=fun q hq=>by
 obtain ⟨e,he,hq⟩:=mem_flat.mp hq
 exact told_inP (h.told e he) q hq
theorem SomeS.add {cs rs:List Int} {L:List Sm1} (h:SomeS cs rs L) {e:Sm1} {q:Int×Int} (he:Sm.Told (nb cs rs) e.1 e.2) (hq:q∈e.2) (hn:q∉flat L):SomeS cs rs (L++[e]):=by
 refine ⟨fun e' he'=>?_,?_⟩
 ·rcases List.mem_append.mp he' with z | z
  ·exact h.told e' z
  ·rw [List.mem_singleton.mp z]; exact he
 ·rw [flat_snoc,List.nodup_append]
  obtain ⟨_,_,_,_,_,_,nd⟩:=he.path
  refine ⟨h.nd,nd,fun a ha b hb z=>?_⟩
  subst z
  obtain ⟨e',he',ha⟩:=mem_flat.mp ha
  have:=((h.told e' he').uniq (gr_nb cs rs) he ha hb).2
  exact hn (mem_flat.mpr ⟨e',he',by rw [this]; exact hq⟩)
theorem SomeS.few {cs rs:List Int} (lc:cs.length≤39) (lr:rs.length≤39) {L:List Sm1} (h:SomeS cs rs L):(flat L).length≤1681∧L.length≤1681:=by
 have h1:=few_pts lc lr h.nd h.in_
 refine ⟨h1,?_⟩
 have:∀ (M:List Sm1),(∀ e∈M,Sm.Told (nb cs rs) e.1 e.2)→M.length≤(flat M).length:=by
  intro M
  induction M with
  | nil => intro _; exact Nat.zero_le _
  | cons e M ih =>
   intro hM
   have:=ih fun e' he'=>hM e' (List.mem_cons_of_mem _ he')
   obtain ⟨a,b,l,ee,_⟩:=(hM e List.mem_cons_self).path
   unfold flat at this ⊢
   rw [List.flatMap_cons,List.length_append,ee,List.length_cons,List.length_cons,List.length_cons]
   omega
 exact Nat.le_trans (this L h.told) h1
theorem flat_perm {L L':List Sm1} (h:L'.Perm L):(flat L').Perm (flat L):=h.flatMap_right _
theorem SomeS.perm {cs rs:List Int} {L L':List Sm1} (h:SomeS cs rs L) (p:L'.Perm L):SomeS cs rs L':=⟨fun e he=>h.told e (p.mem_iff.mp he),(flat_perm p).nodup_iff.mpr h.nd⟩
structure AllS (cs rs:List Int) (L:List Sm1):Prop where
 some:SomeS cs rs L
 cov:∀ q,inPt cs rs q→nb cs rs q≠[]→q∈flat L
 srt:L.Pairwise fun a b=>Ts.ple (hd a) (hd b)
structure GaAt (H:Hp) (lf ds:Addr) (L:List Sm1):Prop where
 lst:∃ xs,H lf=some (.lst xs)∧PwS H lf xs L
 dct:∃ kvs,H ds=some (.dT kvs)∧KeysAre kvs (flat L)
theorem GaAt.mono {H H':Hp} {lf ds:Addr} {L:List Sm1} (s:Same H H') (h:GaAt H lf ds L):GaAt H' lf ds L :=
 ⟨let ⟨xs,h1,h2⟩:=h.lst; ⟨xs,s _ _ h1,h2.mono s⟩,let ⟨kvs,h1,h2⟩:=h.dct; ⟨kvs,s _ _ h1,h2⟩⟩
def sp_firstpoint:Sp:=fun vs H Q _=>∃ (T l:Addr) (f:Bool) (v:V) (ys:List V),vs=[.ref T]∧H T=some (.tup [.bl f,.ref l])∧H l=some (.lst (v::ys))∧Q v H
theorem ok_firstpoint (T:Txt K mg t):FnOk P w K mg base CX0 1 t.f_firstpoint t.d_firstpoint ["told"] sp_firstpoint:=by
 refine T.F_firstpoint.ok sc_firstpoint (fun vs H Q E h=>?_) (fun cdv A outer s H vs Q E hr h=>?_)
 ·obtain ⟨T,l,f,v,ys,rfl,_⟩:=h; rfl
 ·obtain ⟨T,l,f,v,ys,rfl,h1,h2,q⟩:=h
  refine ⟨_,(pss_one (ps_ret (pe_ix (ix_listK K rfl) (pe_ix (ix_tupK K rfl) (pv 0) pe_int (fun _ _=>rfl)) pe_int (fun _ _=>rfl)))),?_⟩
  walk_at "rdf"
  refine rd_ixT (SqT.of h1) (v:=.ref l) rfl ?_
  walk_at "rdf"
  refine rd_ixL (SqL.of h2) (atI_nat (j:=0) rfl) ?_
  exact q
def sp_seams (C:Addr):Sp:=fun vs H Q _=>∃ (p:Addr) (s:Int) (cs rs:List Int),vs=[.ref p]∧ClothAt C H p s cs rs∧cs.length≤39∧rs.length≤39 ∧
 ∀ l ys L H',Same H H'→H l=none→H' l=some (.lst ys)→AllS cs rs L→PwS H' l ys L→Q (.ref l) H'
theorem ok_seams (T:Txt K mg t):FnOk P w K mg base CX0 10 t.f_seams t.d_seams ["cloth"] (sp_seams t.a_Cloth):=by
  have G_Clothwide:=ok_Clothwide (P:=P) (w:=w) (base:=base) T
  have G_Clothtall:=ok_Clothtall (P:=P) (w:=w) (base:=base) T
  have G_seam:=ok_seam (P:=P) (w:=w) (base:=base) T
  have G_firstpoint:=ok_firstpoint (P:=P) (w:=w) (base:=base) T
  refine T.F_seams.ok sc_seams (fun vs H Q E h=>?_) (fun cdv A outer s H vs Q E hr h=>?_)
  · obtain ⟨p,s,cs,rs,rfl,_⟩:=h; rfl
  · obtain ⟨p,s,cs,rs,rfl,hc,lc,lr,k⟩:=h
    obtain ⟨dx,a1,b1,g1,g2,g3⟩:=hc.ob
    have nl:∀ {w h:Int} {m:Str},NoF m→(cfl s a1 b1 w h).lookup m=none:=fun x=>cfl_no _ _ _ x
    refine cutC (ps_set (i:=1) sc_seams.nd rfl (Or.inl rfl) (pe_lst pa_nil)) fun _ _=>cutC (ps_set (i:=2) sc_seams.nd rfl (Or.inl rfl) pe_dnewT) fun _ _=>cutC (ps_for PassesOwn.never rfl (pi_range1 rfl T.no_range (pa_cons (pe_op op_add (pe_meth0 (pv 0) T.cl_Cloth T.m_Clothwide G_Clothwide (hr.mono (by first | decide | omega)) T.b_Clothwide .nil pass0) pe_int) pa_nil)) (pg_name (i:=3) sc_seams.nd rfl (Or.inl rfl)) (pss_one (ps_for PassesOwn.never rfl (pi_range1 rfl T.no_range (pa_cons (pe_op op_add (pe_meth0 (pv 0) T.cl_Cloth T.m_Clothtall G_Clothtall (hr.mono (by first | decide | omega)) T.b_Clothtall .nil pass0) pe_int) pa_nil)) (pg_name (i:=4) sc_seams.nd rfl (Or.inl rfl)) (pss_cons (ps_set (i:=5) sc_seams.nd rfl (Or.inl rfl) (pe_ifExp (pt_cmp (pc_din (hu_of hr) (pe_tup (pa_cons (pv 3) (pa_cons (pv 4) pa_nil))) (pv 2))) pe_non (pe_call G_seam (hr.mono (by first | decide | omega)) rfl T.mg_seam T.F_seam.kp T.b_seam .nil pass0 (pa_cons (pv 0) (pa_cons (pe_tup (pa_cons (pv 3) (pa_cons (pv 4) pa_nil))) pa_nil))))) (pss_one (ps_if (pt_cmpR op_notN (pv 5) pe_non (nomark _)) (pss_cons (ps_expr (pe_bm PySem.F.plainAttrs_list PySem.F.slot_list_append PySem.F.type_list_append mt_append (pv 1) (pa_cons (pv 5) pa_nil))) (pss_one (ps_for PassesOwn.never rfl (pi_list (pe_ix (ix_tupK K rfl) (pv 5) pe_int (fun _ _=>rfl))) (pg_name (i:=6) sc_seams.nd rfl (Or.inl rfl)) (pss_one (ps_dput (hu_of hr) (pv 2) (pv 6) pe_bl rfl))))) pss_nil)))))) fun _ _=>cutE (ps_ret (pe_sortK K rfl G_firstpoint (hr.mono (by first | decide | omega)) rfl T.no_sorted rfl T.mg_firstpoint T.b_firstpoint (pv 1))) fun _ _=>?_
    walk_at "rdf"
    refine ⟨Nat.zero_le _,fun lf nf=>?_⟩
    have s1:=Same.new (o:=HO.lst []) nf
    have e1:=upd_same (H:=H) (a:=lf) (o:=HO.lst [])
    generalize upd H lf (HO.lst [])=H1 at s1 e1 ⊢
    walk_at "rdf"
    refine fun ds nd=>?_
    have s2:=s1.trans (Same.new (o:=HO.dT []) nd)
    have nds:H ds=none:=s1.free nd
    have ga:GaAt (upd H1 ds (.dT [])) lf ds []:=⟨⟨[],Same.new nd _ _ e1,PwS.nil⟩,⟨[],upd_same,rfl⟩⟩
    generalize upd H1 ds (HO.dT [])=H2 at s2 ga ⊢
    walk_at "rdf"
    refine rd_methv (s2 _ _ g1) (nl (by decide +kernel)) ?_
    walk_at "rdf"
    refine ⟨p,s,cs,rs,rfl,hc.mono s2,?_⟩
    walk_at "rdf"
    refine ⟨_,rfl,by omega,by omega,?_⟩
    rw [show ((cs.length:Int)+1+1).toNat=cs.length+2 by omega]
    refine forW_range (fun x σ' H'=>∃ (L:List Sm1) (o3 o4 o5 o6:Option V),σ'=[some (.ref p),some (.ref lf),some (.ref ds),o3,o4,o5,o6]∧Same H H'∧GaAt H' lf ds L∧SomeS cs rs L∧∀ q,inPt cs rs q→nb cs rs q≠[]→q.1<(x:Nat)→q∈flat L)
      ⟨[],none,none,none,none,rfl,s2,ga,⟨(fun e he=>nomatch he),List.nodup_nil⟩,fun q hq _ h=>by have:=hq.1.1; omega⟩ ?_ ?_
    · rintro x σ' H3 hx ⟨L,o3,o4,o5,o6,rfl,s3,ga3,so3,cov3⟩
      rw [Int.zero_add]
      walk_at "rdf"
      refine rd_methv (s3 _ _ g1) (nl (by decide +kernel)) ?_
      walk_at "rdf"
      refine ⟨p,s,cs,rs,rfl,hc.mono s3,?_⟩
      walk_at "rdf"
      refine ⟨_,rfl,by omega,by omega,?_⟩
      rw [show ((rs.length:Int)+1+1).toNat=rs.length+2 by omega]
      refine forW_range (fun y σ' H'=>∃ (L:List Sm1) (o4 o5 o6:Option V),σ'=[some (.ref p),some (.ref lf),some (.ref ds),some (.int (x:Nat)),o4,o5,o6]∧Same H H'∧GaAt H' lf ds L∧SomeS cs rs L∧∀ q,inPt cs rs q→nb cs rs q≠[]→(q.1<(x:Nat)∨(q.1=(x:Nat)∧q.2<(y:Nat)))→q∈flat L)
        ⟨L,o4,o5,o6,rfl,s3,ga3,so3,fun q hq hn h=>cov3 q hq hn (by have:=hq.2.1; omega)⟩ ?_ ?_
      · rintro y σ' H4 hy ⟨L,o4,o5,o6,rfl,s4,ga4,so4,cov4⟩
        rw [Int.zero_add]
        have hin:inPt cs rs (((x:Nat):Int),((y:Nat):Int)):=⟨⟨by dsimp only; omega,by dsimp only; omega⟩,by dsimp only; omega,by dsimp only; omega⟩
        have nxt:∀ L',(∀ q∈flat L,q∈flat L')→(nb cs rs (((x:Nat):Int),((y:Nat):Int))≠[]→(((x:Nat):Int),((y:Nat):Int))∈flat L') →
            ∀ q,inPt cs rs q→nb cs rs q≠[]→(q.1<(x:Nat)∨(q.1=(x:Nat)∧q.2<((y+1:Nat):Int)))→q∈flat L':=fun L' sub hp q hq hn h=>by
          by_cases hh:q.1<(x:Nat)∨(q.1=(x:Nat)∧q.2<(y:Nat))
          · exact sub q (cov4 q hq hn hh)
          · have:q=(((x:Nat):Int),((y:Nat):Int)):=Prod.ext (by show q.1=_; omega) (by show q.2=_; omega)
            rw [this] at hn ⊢; exact hp hn
        generalize ((y:Nat):Int)=yy at hin nxt ⊢
        clear cov4
        walk_at "rdf"
        refine ⟨by show 2≤sizeLine; decide,fun a na=>?_⟩
        have s5:=Same.new (o:=HO.tup [V.int (x:Nat),V.int yy]) na
        have ea:=upd_same (H:=H4) (a:=a) (o:=HO.tup [V.int (x:Nat),V.int yy])
        generalize upd H4 a (HO.tup [V.int (x:Nat),V.int yy])=H5 at s5 ea ⊢
        have ga5:=ga4.mono s5
        have s5:=s4.trans s5
        obtain ⟨kvs,ed,ke⟩:=ga5.dct
        walk_at "rdf"
        refine ⟨ds,_,rfl,DGet.t (k:=ky (((x:Nat):Int),yy)) ed ea,?_⟩
        rw [ke.val]
        by_cases hm:(((x:Nat):Int),yy)∈flat L
        · rw [decide_eq_true hm]
          walk_at "rdf"
          refine ⟨rfl,?_⟩
          rw [show (!decide (V.non=V.non))=false by simp]
          walk_at "rdf"
          exact ⟨L,_,_,_,rfl,s5,ga5,so4,nxt L (fun q hq=>hq) fun _=>hm⟩
        · rw [decide_eq_false hm]
          walk_at "rdf"
          refine ⟨by show 2≤sizeLine; decide,fun b nb=>?_⟩
          have s6:=Same.new (o:=HO.tup [V.int (x:Nat),V.int yy]) nb
          have eb:=upd_same (H:=H5) (a:=b) (o:=HO.tup [V.int (x:Nat),V.int yy])
          generalize upd H5 b (HO.tup [V.int (x:Nat),V.int yy])=H6 at s6 eb ⊢
          have ga6:=ga5.mono s6
          have s6:=s5.trans s6
          clear ed ke kvs ga5 ga4
          walk_at "rdf"
          refine ⟨p,b,(((x:Nat):Int),yy),s,cs,rs,rfl,hc.mono s6,lc,lr,eb,hin,fun hz H7 s7=>?_,fun hz T l f zs M H7 s7 nT nl eT el td hq px=>?_⟩
          · walk_at "rdf"
            refine ⟨rfl,?_⟩
            rw [show (!decide (V.non=V.non))=false by simp]
            walk_at "rdf"
            exact ⟨L,_,_,_,rfl,s6.trans s7,ga6.mono s7,so4,nxt L (fun q hq=>hq) fun h=>absurd hz h⟩
          · have ga7:=ga6.mono s7
            obtain ⟨ys,ef,pr⟩:=ga7.lst
            have nlf:l≠lf:=by
              intro z
              obtain ⟨ys',ef',_⟩:=ga6.lst
              rw [z,ef'] at nl; cases nl
            have s7:=s6.trans s7
            have so7:=so4.add (e:=(f,M)) td hq hm
            have hsub:∀ q∈flat L,q∈flat (L++[(f,M)]):=fun q hq=>by rw [flat_snoc]; exact List.mem_append_left _ hq
            have hme:(((x:Nat):Int),yy)∈flat (L++[(f,M)]):=by rw [flat_snoc]; exact List.mem_append_right _ hq
            walk_at "rdf"
            refine ⟨rfl,?_⟩
            rw [show (!decide (V.ref T=V.non))=true by simp]
            walk_at "rdf"
            refine rd_bmL ef ?_
            walk_at "rdf"
            have ly:ys.length≤1681:=by rw [pr.1]; exact (so4.few lc lr).2
            refine rd_append ef (small1000' (by omega)) ?_
            have pr8:=(pr.lst (o:=.lst (ys++[V.ref T])) ef).snoc (e:=(f,M)) (SeV.lst (o:=.lst (ys++[V.ref T])) ⟨T,l,zs,rfl,nlf,eT,el,px⟩ ef)
            have ef8:=upd_same (H:=H7) (a:=lf) (o:=.lst (ys++[V.ref T]))
            obtain ⟨kvs,ed,ke⟩:=ga7.dct
            have ed8:upd H7 lf (.lst (ys++[V.ref T])) ds=some (.dT kvs):=(upd_ne (ne_of ed ef (by intro z; cases z))).trans ed
            have s8:=s7.later (o:=.lst (ys++[V.ref T])) nf
            have el8:upd H7 lf (.lst (ys++[V.ref T])) l=some (.lst zs):=(upd_ne nlf).trans el
            have px8:=px.upd (o:=.lst (ys++[V.ref T])) ef (by intro ys z; cases z)
            have eT8:upd H7 lf (.lst (ys++[V.ref T])) T=_:=(upd_ne (ne_of eT ef (by intro z; cases z))).trans eT
            generalize upd H7 lf (.lst (ys++[V.ref T]))=H8 at pr8 ef8 ed8 s8 el8 px8 eT8 ⊢
            clear ga7 ga6 ef ed el pr s7 s6 eT ea eb px
            walk_at "rdf"
            refine rd_ixT (SqT.of eT8) (v:=.ref l) rfl ?_
            walk_at "rdf"
            refine ⟨⟨_,SqL.of el8⟩,?_⟩
            have nd8:(flat L++M).Nodup:=by have:=so7.nd; rwa [flat_snoc] at this
            have fw:=(so7.few lc lr).1
            rw [flat_snoc,List.length_append] at fw
            dsimp only at fw
            refine forW_list (K:=K) (a:=l) (xs:=zs) (fun i σ' H'=>∃ (o6:Option V) (kvs:List (List Key×V)),σ'=[some (.ref p),some (.ref lf),some (.ref ds),some (.int (x:Nat)),some (.int yy),some (.ref T),o6]∧Same H H'∧H' lf=some (.lst (ys++[V.ref T]))∧PwS H' lf (ys++[V.ref T]) (L++[(f,M)]) ∧
                H' l=some (.lst zs)∧PwPt H' zs M∧H' ds=some (.dT kvs)∧KeysAre kvs (flat L++M.take i))
              ⟨_,kvs,rfl,s8,ef8,pr8,el8,px8,ed8,by rw [List.take_zero,List.append_nil]; exact ke⟩ (fun i σ' H' _ ⟨_,_,_,_,_,_,z,_⟩=>SqL.of z) ?_ ?_
            · rintro i v σ' H9 hv ⟨o6,kvs,rfl,s9,ef9,pr9,el9,px9,ed9,ke9⟩
              have hi:i<zs.length:=(List.getElem?_eq_some_iff.mp hv).1
              have hi':i<M.length:=by rw [← px9.1]; exact hi
              obtain ⟨q,hq⟩:∃ q,M[i]?=some q:=⟨_,List.getElem?_eq_getElem hi'⟩
              obtain ⟨c,rfl,hc⟩:=px9.2 i v q hv hq
              have ht:M.take (i+1)=M.take i++[q]:=by rw [List.take_add_one,hq]; rfl
              have nq:q∉flat L++M.take i:=by
                have h1:(flat L++M.take (i+1)).Nodup:=by
                  rw [List.nodup_append] at nd8 ⊢
                  refine ⟨nd8.1,nd8.2.1.sublist (List.take_sublist _ _),fun a ha b hb=>nd8.2.2 a ha b (List.mem_of_mem_take hb)⟩
                rw [ht,← List.append_assoc,List.nodup_append] at h1
                exact fun z=>h1.2.2 q z q (by simp) rfl
              walk_at "rdf"
              refine ⟨ds,_,rfl,DPut.t (k:=ky q) ed9 hc ?_,?_⟩
              · have:=ke9.len
                rw [List.length_append,List.length_take] at this
                exact small1000' (by omega)
              have ke10:=ke9.put (v:=.bl true) nq
              rw [List.append_assoc,← ht] at ke10
              exact ⟨_,_,rfl,s9.later (o:=.dT _) nds,(upd_ne (ne_of ef9 ed9 (by intro z; cases z))).trans ef9,pr9.dct ed9,(upd_ne (ne_of el9 ed9 (by intro z; cases z))).trans el9,px9.upd ed9 (by intro ys z; cases z),upd_same,ke10⟩
            · rintro σ' H9 ⟨o6,kvs,rfl,s9,ef9,pr9,el9,px9,ed9,ke9⟩
              rw [List.take_of_length_le (by rw [px9.1]; exact Nat.le_refl _)] at ke9
              exact ⟨L++[(f,M)],_,_,_,rfl,s9,⟨⟨_,ef9,pr9⟩,⟨kvs,ed9,by rw [flat_snoc]; exact ke9⟩⟩,so7,nxt _ hsub fun _=>hme⟩
      · rintro σ' H4 ⟨L,o4,o5,o6,rfl,s4,ga4,so4,cov4⟩
        refine ⟨L,_,_,_,_,rfl,s4,ga4,so4,fun q hq hn h=>cov4 q hq hn ?_⟩
        have h2:=hq.2.2
        by_cases hh:q.1<(x:Nat)
        · exact .inl hh
        · exact .inr ⟨by omega,by omega⟩
    · rintro σ' H3 ⟨L,o3,o4,o5,o6,rfl,s3,ga3,so3,cov3⟩
      obtain ⟨xs,ef,px⟩:=ga3.lst
      walk_at "rdf"
      refine rd_sortKh ?_
      walk_at "rdf"
      have px':=px.mem
      have hh:∀ v∈xs,∃ (T l b:Addr) (ys:List V),v=.ref T∧H3 T=some (.tup [.bl (seOf H3 v).1,.ref l])∧H3 l=some (.lst (.ref b::ys))∧H3 b=some (.tup [.int (hd (seOf H3 v)).1,.int (hd (seOf H3 v)).2]):=fun v hv=>by
        obtain ⟨⟨T,l,ys,h1,_,h3,h4,h5⟩,h6⟩:=px' v hv
        obtain ⟨a,b,m,ee,_⟩:=(so3.told _ h6).path
        rw [ee] at h5
        obtain ⟨v',r,e,hv',_⟩:=h5.inv
        obtain ⟨c,rfl,hc⟩:=hv'
        refine ⟨T,l,c,r,h1,h3,by rw [← e]; exact h4,?_⟩
        unfold hd; rw [ee]; exact hc
      refine ⟨lf,xs,fun v=>hd (seOf H3 v),rfl,SqL.of ef,fun v hv=>?_,fun v hv H4 Q1 s4 k1=>?_,fun l ys H4 s4 nl el pm pw=>?_⟩
      · obtain ⟨T,_,_,_,e,_⟩:=hh v hv
        exact ⟨T,e⟩
      · obtain ⟨T,l,b,ys,e,h1,h2,h3⟩:=hh v hv
        exact ⟨T,l,_,_,ys,by rw [e],s4 _ _ h1,s4 _ _ h2,k1 _ _ (Same.refl _) ⟨b,rfl,s4 _ _ h3⟩⟩
      · walk_at "rdf"
        have hm:∀ v∈ys,SeV H4 l v (seOf H3 v):=fun v hv=>by
          obtain ⟨⟨T,l',ys',h1,h2,h3,h4,h5⟩,_⟩:=px' v (pm.mem_iff.mp hv)
          refine ⟨T,l',ys',h1,?_,s4 _ _ h3,s4 _ _ h4,h5.mono s4⟩
          intro z; rw [z,nl] at h4; cases h4
        have pws:PwS H4 l ys (ys.map (seOf H3)):=by
          have e:ys.map (seOf H3)=ys.map (seOf H4):=List.map_congr_left fun v hv=>(hm v hv).of.symm
          rw [e]
          exact pws_of fun v hv=>by rw [(hm v hv).of]; exact hm v hv
        have pL:(ys.map (seOf H3)).Perm L:=by
          have:=pm.map (seOf H3)
          rwa [px.map] at this
        refine k l ys _ H4 (s3.trans s4) (s3.free nl) el ⟨so3.perm pL,fun q hq hn=>?_,?_⟩ pws
        · exact (flat_perm pL).mem_iff.mpr (cov3 q hq hn (by have:=hq.1.2; omega))
        · rw [List.pairwise_map]
          exact pw
end
section
variable {P:Program} {w:World} {K:PySem.W.Frag} {mg:Str→Option Value} {base:Heap} {t:Ad}
def Sm (z:Int):Prop:=-1000000000000000000<z∧z<1000000000000000000
theorem sm_snoc {zs:List Int} {z:Int} (h:∀ y∈zs,Sm y) (hz:Sm z):∀ y∈zs++[z],Sm y:=fun y hy=>by
 rcases List.mem_append.mp hy with q | q
 ·exact h y q
 ·rw [List.mem_singleton.mp q]; exact hz
theorem sm_mod (r:Int) {m:Int} (h0:0<m) (h1:m≤1000003):Sm (r%m):=by
 have:=Int.emod_nonneg r (by omega:m≠0)
 have:=Int.emod_lt_of_pos r h0
 unfold Sm; omega
def sp_Ldraws (K:PySem.W.Frag):Sp:=fun vs H Q _=>∃ (a:Addr) (m:Nat) (ns:List Int),vs=[.ref a,.int m]∧SqL K H a (ns.map V.int)∧ns.length≤63∧m≤200 ∧
 ∀ (l:Addr) (zs:List Int) (H':Hp),Same H H'→H' l=some (.lst (zs.map V.int))→m≤zs.length→zs.length≤300→(∀ z∈zs,Sm z)→Q (.ref l) H'
theorem map_snoc (zs:List Int) (z:Int):zs.map V.int++[V.int z]=(zs++[z]).map V.int:=by simp
theorem ok_Ldraws (T:Txt K mg t):FnOk P w K mg base CX0 1 t.f_Ldraws t.d_Ldraws ["_law_script","_law_many"] (sp_Ldraws K):=by
 refine T.F_Ldraws.ok sc_Ldraws (fun vs H Q E h=>?_) (fun cdv A outer s H vs Q E hr h=>?_)
 ·obtain ⟨a,m,ns,rfl,_⟩:=h; rfl
 ·obtain ⟨a,m,ns,rfl,hS,hl,hm,k⟩:=h
  refine cutC (ps_set (i:=2) sc_Ldraws.nd rfl (Or.inl rfl) (pe_lst pa_nil)) fun _ _=>cutC (ps_set (i:=3) sc_Ldraws.nd rfl (Or.inl rfl) pe_int) fun _ _=>cutC (ps_for PassesOwn.never rfl (pi_list (pv 0)) (pg_name (i:=4) sc_Ldraws.nd rfl (Or.inl rfl)) (pss_cons (ps_set (i:=3) sc_Ldraws.nd rfl (Or.inl rfl) (pe_op op_mod (pe_op op_add (pe_op op_mul (pv 3) pe_int) (pv 4)) pe_int)) (pss_cons (ps_set (i:=5) sc_Ldraws.nd rfl (Or.inl rfl) (pe_callB cI_abs rfl T.no_abs (by rfl) (pa_cons (pv 4) pa_nil))) (pss_cons (ps_if (pt_cmpR op_lt (pv 5) (pe_op op_pow pe_int pe_int) (nomark _)) (pss_cons (ps_expr (pe_bm PySem.F.plainAttrs_list PySem.F.slot_list_append PySem.F.type_list_append mt_append (pv 2) (pa_cons (pv 4) pa_nil))) (pss_one (ps_set (i:=5) sc_Ldraws.nd rfl (Or.inl rfl) pe_int))) pss_nil) (pss_one (ps_while PassesOwn.never (PW.pt (pw_and (pt_cmpR op_gt (pv 5) pe_int (nomark _)) (pw_and1 (pt_cmpR op_lt (pe_callB (cI_lenK K rfl) rfl T.no_len (by rfl) (pa_cons (pv 2) pa_nil)) (pv 1) (nomark _))))) (pss_cons (ps_expr (pe_bm PySem.F.plainAttrs_list PySem.F.slot_list_append PySem.F.type_list_append mt_append (pv 2) (pa_cons (pe_op op_mod (pv 5) pe_int) pa_nil))) (pss_one (ps_set (i:=5) sc_Ldraws.nd rfl (Or.inl rfl) (pe_op op_fdiv (pv 5) pe_int)))))))))) fun _ _=>cutC (ps_while PassesOwn.never (pt_cmpR op_lt (pe_callB (cI_lenK K rfl) rfl T.no_len (by rfl) (pa_cons (pv 2) pa_nil)) (pv 1) (nomark _)) (pss_cons (ps_set (i:=3) sc_Ldraws.nd rfl (Or.inl rfl) (pe_op op_mod (pe_op op_add (pe_op op_mul (pv 3) pe_int) pe_int) pe_int)) (pss_one (ps_expr (pe_bm PySem.F.plainAttrs_list PySem.F.slot_list_append PySem.F.type_list_append mt_append (pv 2) (pa_cons (pe_op op_mod (pe_op op_mul (pv 3) (pv 3)) pe_int) pa_nil)))))) fun _ _=>cutE (ps_ret (pv 2)) fun _ _=>?_
  walk_at "rdf"
  refine ⟨Nat.zero_le _,fun l hn=>?_⟩
  walk_at "rdf"
  have hz:∀ {zs:List Int},zs.length≤300→(zs.map V.int).length<sizeLine:=fun h=>by rw [List.length_map]; exact small1000 (by omega)
  refine ⟨⟨_,(Same.new hn).seq hS⟩,forW_list (K:=K) (a:=a) (xs:=ns.map V.int) (fun i σ' H'=>∃ (zs:List Int) (mix:Int) (c r:Option V),σ'=[some (.ref a),some (.int m),some (.ref l),some (.int mix),c,r]∧Same H H'∧H' l=some (.lst (zs.map V.int))∧zs.length≤i+m∧∀ z∈zs,Sm z)
   ⟨[],1,none,none,rfl,Same.new hn,upd_same,Nat.zero_le _,fun z hz=>by cases hz⟩ (fun i σ' H' _ ⟨_,_,_,_,_,s,_⟩=>s.seq hS) ?_ ?_⟩
  ·rintro i y σ' H' hi ⟨zs,mix,c,r,rfl,s1,e1,lz,sm⟩
   have hil:i<ns.length:=by have:=(List.getElem?_eq_some_iff.mp hi).1; rwa [List.length_map] at this
   obtain ⟨z,rfl⟩:∃ z,y=V.int z:=by
    rw [List.getElem?_map] at hi
    cases e:ns[i]? with
    | none=>rw [e] at hi; cases hi
    | some z=>rw [e] at hi; exact ⟨z,(Option.some.inj hi).symm⟩
   walk_at "rdf"
   refine rd_I (.inr ⟨by decide,by decide⟩) ?_
   walk_at "rdf"
   refine rd_I (by decide) ?_
   walk_at "rdf"
   refine rd_I ⟨by decide,by decide,by decide⟩ ?_
   walk_at "rdf"
   refine ite2 (fun hc=>?_) (fun _=>?_)
   ·have hc:=of_decide_eq_true hc
    have hcz:Sm z:=by
     unfold Sm
     have e18:(10:Int) ^ 18=1000000000000000000:=by decide
     by_cases hz0:z<0
     ·rw [if_pos hz0] at hc; change -z<(10:Int) ^ 18 at hc; omega
     ·rw [if_neg hz0] at hc; change z<(10:Int) ^ 18 at hc; omega
    walk_at "rdf"
    refine rd_bmL e1 ?_
    walk_at "rdf"
    refine rd_append e1 (hz (by omega)) ?_
    rw [map_snoc]
    walk_at "rdf"
    refine ⟨fun n σ' H'=>∃ (zs:List Int) (mix:Int) (r:Int),σ'=[some (.ref a),some (.int m),some (.ref l),some (.int mix),some (.int z),some (.int r)]∧Same H H'∧H' l=some (.lst (zs.map V.int))∧zs.length≤i+1+m∧n=m - zs.length∧∀ z∈zs,Sm z,
     ⟨_,zs++[z],_,_,rfl,s1.later hn,upd_same,by rw [List.length_append,List.length_singleton]; omega,rfl,sm_snoc sm hcz⟩,?_⟩
    rintro n σ' H' ⟨zs,mix,r,rfl,s1,e1,lz,rfl,sm⟩
    walk_at "rdf"
    refine ite2 (fun _=>?_) (fun _=>?_)
    ·walk_at "rdf"
     refine rd_lenL e1 ?_
     walk_at "rdf"
     rw [List.length_map]
     refine ite2 (fun h2=>?_) (fun h2=>?_)
     ·have h2:=of_decide_eq_true h2
      refine ⟨fun σ' H'=>∃ (zs':List Int) (mix:Int) (r:Int),σ'=[some (.ref a),some (.int m),some (.ref l),some (.int mix),some (.int z),some (.int r)]∧Same H H'∧H' l=some (.lst (zs'.map V.int))∧zs'.length=zs.length+1∧∀ z∈zs',Sm z,?_,?_⟩
      ·rintro σ' H' ⟨zs',mix,r,rfl,s1,e1,lz',sm'⟩
       exact ⟨m - zs'.length,by omega,zs',mix,r,rfl,s1,e1,by omega,rfl,sm'⟩
      ·walk_at "rdf"
       refine rd_bmL e1 ?_
       walk_at "rdf"
       refine rd_I (by decide) ?_
       walk_at "rdf"
       refine rd_append e1 (hz (by omega)) ?_
       rw [map_snoc]
       walk_at "rdf"
       refine rd_I ⟨by decide,by decide⟩ ?_
       walk_at "rdf"
       exact ⟨zs++[r%1000003],mix,_,rfl,s1.later hn,upd_same,by rw [List.length_append,List.length_singleton],sm_snoc sm (sm_mod r (by decide) (by decide))⟩
     ·walk_at "rdf"
      exact ⟨zs,mix,_,_,rfl,s1,e1,lz,sm⟩
    ·walk_at "rdf"
     exact ⟨zs,mix,_,_,rfl,s1,e1,lz,sm⟩
   ·walk_at "rdf"
    refine ⟨fun n σ' H'=>∃ (zs:List Int) (mix:Int) (r:Int),σ'=[some (.ref a),some (.int m),some (.ref l),some (.int mix),some (.int z),some (.int r)]∧Same H H'∧H' l=some (.lst (zs.map V.int))∧zs.length≤i+1+m∧n=m - zs.length∧∀ z∈zs,Sm z,
     ⟨_,zs,_,_,rfl,s1,e1,by omega,rfl,sm⟩,?_⟩
    rintro n σ' H' ⟨zs,mix,r,rfl,s1,e1,lz,rfl,sm⟩
    walk_at "rdf"
    refine ite2 (fun _=>?_) (fun _=>?_)
    ·walk_at "rdf"
     refine rd_lenL e1 ?_
     walk_at "rdf"
     rw [List.length_map]
     refine ite2 (fun h2=>?_) (fun h2=>?_)
     ·have h2:=of_decide_eq_true h2
      refine ⟨fun σ' H'=>∃ (zs':List Int) (mix:Int) (r:Int),σ'=[some (.ref a),some (.int m),some (.ref l),some (.int mix),some (.int z),some (.int r)]∧Same H H'∧H' l=some (.lst (zs'.map V.int))∧zs'.length=zs.length+1∧∀ z∈zs',Sm z,?_,?_⟩
      ·rintro σ' H' ⟨zs',mix,r,rfl,s1,e1,lz',sm'⟩
       exact ⟨m - zs'.length,by omega,zs',mix,r,rfl,s1,e1,by omega,rfl,sm'⟩
      ·walk_at "rdf"
       refine rd_bmL e1 ?_
       walk_at "rdf"
       refine rd_I (by decide) ?_
       walk_at "rdf"
       refine rd_append e1 (hz (by omega)) ?_
       rw [map_snoc]
       walk_at "rdf"
       refine rd_I ⟨by decide,by decide⟩ ?_
       walk_at "rdf"
       exact ⟨zs++[r%1000003],mix,_,rfl,s1.later hn,upd_same,by rw [List.length_append,List.length_singleton],sm_snoc sm (sm_mod r (by decide) (by decide))⟩
     ·walk_at "rdf"
      exact ⟨zs,mix,_,_,rfl,s1,e1,lz,sm⟩
    ·walk_at "rdf"
     exact ⟨zs,mix,_,_,rfl,s1,e1,lz,sm⟩
  ·rintro σ' H' ⟨zs,mix,c,r,rfl,s1,e1,lz,sm⟩
   rw [List.length_map] at lz
   walk_at "rdf"
   refine ⟨fun n σ' H'=>∃ (zs:List Int) (mix:Int),σ'=[some (.ref a),some (.int m),some (.ref l),some (.int mix),c,r]∧(-(2 ^ 64)<mix∧mix<2 ^ 64∨True)∧Same H H'∧H' l=some (.lst (zs.map V.int))∧zs.length≤300∧n=m - zs.length∧∀ z∈zs,Sm z,
    ⟨_,zs,mix,rfl,.inr trivial,s1,e1,by omega,rfl,sm⟩,?_⟩
   rintro n σ' H' ⟨zs,mix,rfl,_,s1,e1,lz,rfl,sm⟩
   walk_at "rdf"
   refine rd_lenL e1 ?_
   walk_at "rdf"
   rw [List.length_map]
   refine ite2 (fun h2=>?_) (fun h2=>?_)
   ·have h2:=of_decide_eq_true h2
    refine ⟨fun σ' H'=>∃ (zs':List Int) (mix:Int),σ'=[some (.ref a),some (.int m),some (.ref l),some (.int mix),c,r]∧Same H H'∧H' l=some (.lst (zs'.map V.int))∧zs'.length=zs.length+1∧∀ z∈zs',Sm z,?_,?_⟩
    ·rintro σ' H' ⟨zs',mix,rfl,s1,e1,lz',sm'⟩
     exact ⟨m - zs'.length,by omega,zs',mix,rfl,.inr trivial,s1,e1,by omega,rfl,sm'⟩
    ·walk_at "rdf"
     refine rd_I (.inr ⟨by decide,by decide⟩) ?_
     walk_at "rdf"
     refine rd_I (by decide) ?_
     walk_at "rdf"
     refine rd_bmL e1 ?_
     walk_at "rdf"
     refine rd_I (.inl ⟨by omega,by omega⟩) ?_
     walk_at "rdf"
     refine rd_I (by decide) ?_
     walk_at "rdf"
     refine rd_append e1 (hz (by omega)) ?_
     rw [map_snoc]
     walk_at "rdf"
     exact ⟨zs++[_],_,rfl,s1.later hn,upd_same,by rw [List.length_append,List.length_singleton],sm_snoc sm (sm_mod _ (by decide) (by decide))⟩
   ·have h2:¬ ((zs.length:Int)<m):=fun z=>h2 (decide_eq_true z)
    walk_at "rdf"
    exact k l zs H' s1 e1 (by omega) (by omega) sm
end
section
variable {P:Program} {w:World} {K:PySem.W.Frag} {mg:Str→Option Value} {base:Heap} {t:Ad}
def sp_Lbits:Sp:=fun vs H Q _=>∃ (n:Int) (m:Nat),vs=[.int n,.int m]∧m≤100∧∀ (l:Addr) (bs:List Int) (H':Hp),Same H H'→H' l=some (.lst (bs.map V.int))→bs.length=m→(∀ z∈bs,z=0∨z=1)→Q (.ref l) H'
theorem emod_le {a b:Int} (ha:0≤a) (hb:0<b):a%b≤a:=by
 obtain ⟨m,rfl⟩:=Int.eq_ofNat_of_zero_le ha
 obtain ⟨n,rfl⟩:=Int.eq_ofNat_of_zero_le (Int.le_of_lt hb)
 rw [← Int.natCast_emod]
 exact Int.ofNat_le.mpr (Nat.mod_le _ _)
theorem mod2 (n:Int):n%2=0∨n%2=1:=by omega
theorem ok_Lbits (T:Txt K mg t):FnOk P w K mg base CX0 1 t.f_Lbits t.d_Lbits ["_law_number","_law_many"] sp_Lbits:=by
 refine T.F_Lbits.ok sc_Lbits (fun vs H Q E h=>?_) (fun cdv A outer s H vs Q E hr h=>?_)
 ·obtain ⟨n,m,rfl,_⟩:=h; rfl
 ·obtain ⟨n,m,rfl,hm,k⟩:=h
  refine cutC (ps_set (i:=2) sc_Lbits.nd rfl (Or.inl rfl) (pe_lst pa_nil)) fun _ _=>cutC (ps_for PassesOwn.never rfl (pi_range1 rfl T.no_range (pa_cons (pv 1) pa_nil)) (pg_name (i:=3) sc_Lbits.nd rfl (Or.inl rfl)) (pss_cons (ps_expr (pe_bm PySem.F.plainAttrs_list PySem.F.slot_list_append PySem.F.type_list_append mt_append (pv 2) (pa_cons (pe_op op_mod (pv 0) pe_int) pa_nil))) (pss_one (ps_set (i:=0) sc_Lbits.nd rfl (Or.inl rfl) (pe_op op_fdiv (pv 0) pe_int))))) fun _ _=>cutE (ps_ret (pv 2)) fun _ _=>?_
  walk_at "rdf"
  refine ⟨Nat.zero_le _,fun l hn=>?_⟩
  walk_at "rdf"
  refine ⟨m,rfl,by omega,by omega,?_⟩
  rw [Int.toNat_natCast]
  refine forW_range (fun i σ' H'=>∃ (n:Int) (bs:List Int) (c:Option V),σ'=[some (.int n),some (.int m),some (.ref l),c]∧Same H H'∧H' l=some (.lst (bs.map V.int))∧bs.length=i∧∀ z∈bs,z=0∨z=1)
   ⟨n,[],none,rfl,Same.new hn,upd_same,rfl,fun z hz=>by cases hz⟩ ?_ ?_
  ·rintro i σ' H' hi ⟨n,bs,c,rfl,s1,e1,lb,hb⟩
   walk_at "rdf"
   refine rd_bmL e1 ?_
   walk_at "rdf"
   refine rd_I (by decide) ?_
   walk_at "rdf"
   refine rd_append e1 (by rw [List.length_map]; exact small1000 (by omega)) ?_
   rw [map_snoc]
   walk_at "rdf"
   refine rd_I ⟨by decide,by decide⟩ ?_
   walk_at "rdf"
   refine ⟨_,bs++[n%2],_,rfl,s1.later hn,upd_same,by rw [List.length_append,List.length_singleton]; omega,fun z hz=>?_⟩
   rcases List.mem_append.mp hz with h | h
   ·exact hb z h
   ·rw [List.mem_singleton.mp h]; exact mod2 n
  ·rintro σ' H' ⟨n,bs,c,rfl,s1,e1,lb,hb⟩
   walk_at "rdf"
   exact k l bs H' s1 e1 lb hb
def sp_Lrow:Sp:=fun vs H Q _=>∃ (a:Addr) (m:Nat) (zs:List Int),vs=[.ref a,.int m]∧H a=some (.lst (zs.map V.int))∧4≤zs.length∧m≤100∧∀ (l:Addr) (bs:List Int) (H':Hp),Same H H'→H' l=some (.lst (bs.map V.int))→bs.length=m→(∀ z∈bs,z=0∨z=1)→Q (.ref l) H'
theorem ok_Lrow (T:Txt K mg t):FnOk P w K mg base CX0 2 t.f_Lrow t.d_Lrow ["_law_some","_law_many"] sp_Lrow:=by
 have G_Lbits:=ok_Lbits (P:=P) (w:=w) (base:=base) T
 refine T.F_Lrow.ok sc_Lrow (fun vs H Q E h=>?_) (fun cdv A outer s H vs Q E hr h=>?_)
 ·obtain ⟨a,m,zs,rfl,_⟩:=h; rfl
 ·obtain ⟨a,m,zs,rfl,ha,hl,hm,k⟩:=h
  refine cutC (ps_set (i:=2) sc_Lrow.nd rfl (Or.inl rfl) (pe_op op_add (pe_op op_add (pe_ix (ix_listK K rfl) (pv 0) pe_int (fun _ _=>rfl)) (pe_op op_mul pe_int (pe_ix (ix_listK K rfl) (pv 0) pe_int (fun _ _=>rfl)))) (pe_op op_mul (pe_op op_mul pe_int pe_int) (pe_ix (ix_listK K rfl) (pv 0) pe_int (fun _ _=>rfl))))) fun _ _=>cutC (ps_if (pt_cmpR op_eq (pe_op op_mod (pe_ix (ix_listK K rfl) (pv 0) pe_int (fun _ _=>rfl)) pe_int) pe_int (nomark _)) (pss_one (ps_set (i:=2) sc_Lrow.nd rfl (Or.inl rfl) (pe_un un_neg (pe_op op_mod (pe_ix (ix_listK K rfl) (pv 0) pe_int (fun _ _=>rfl)) pe_int)))) pss_nil) fun _ _=>cutC (ps_set (i:=3) sc_Lrow.nd rfl (Or.inr rfl) (pe_call G_Lbits (hr.mono (by first | decide | omega)) rfl T.mg_Lbits T.F_Lbits.kp T.b_Lbits .nil pass0 (pa_cons (pv 2) (pa_cons (pv 1) pa_nil)))) fun _ _=>cutC (ps_if (pt_cmpR op_eq (pe_op op_mod (pe_ix (ix_listK K rfl) (pv 0) pe_int (fun _ _=>rfl)) pe_int) pe_int (nomark _)) (pss_one (ps_set (i:=3) sc_Lrow.nd rfl (Or.inr rfl) (pe_comp (N:=["_law_k","_law_row_here","_law_some"]) (cap:=[none,some 3,some 0]) rfl ⟨rfl,rfl,rfl,rfl,rfl,rfl⟩ (pi_range1 rfl T.no_range (pa_cons (pv 1) pa_nil)) (fun _ _ _=>(pg_name (i:=0) (show (["_law_k","_law_row_here","_law_some"]:List Str).Nodup by decide +kernel) rfl (Or.inl rfl))) (fun _ _ _=>pts_nil) (fun _ _ _=>(pe_ix (ix_listK K rfl) (pv 1) (pe_op op_mod (pv 0) (pe_op op_add pe_int (pe_op op_mod (pe_ix (ix_listK K rfl) (pv 2) pe_int (fun _ _=>rfl)) pe_int))) (fun _ _=>rfl)))))) pss_nil) fun _ _=>cutE (ps_ret (pv 3)) fun _ _=>?_
  have I0:atI (zs.map V.int) 0=_:=atI_ints (by decide) (by omega)
  have I1:atI (zs.map V.int) 1=_:=atI_ints (by decide) (by omega)
  have I2:atI (zs.map V.int) 2=_:=atI_ints (by decide) (by omega)
  have I3:atI (zs.map V.int) 3=_:=atI_ints (by decide) (by omega)
  generalize zs.getD (0:Int).toNat 0=z0 at I0
  generalize zs.getD (1:Int).toNat 0=z1 at I1
  generalize zs.getD (2:Int).toNat 0=z2 at I2
  generalize zs.getD (3:Int).toNat 0=z3 at I3
  -- behind the raw number: the bits,and the pattern
  walk_at "rdf"
  refine rd_ixL (SqL.of ha) I0 ?_
  walk_at "rdf"
  refine rd_ixL (SqL.of ha) I1 ?_
  walk_at "rdf"
  refine rd_I (.inl ⟨by decide,by decide⟩) ?_
  walk_at "rdf"
  refine rd_I (.inl ⟨by decide,by decide⟩) ?_
  walk_at "rdf"
  refine rd_ixL (SqL.of ha) I2 ?_
  walk_at "rdf"
  refine rd_I (.inl ⟨by decide,by decide⟩) ?_
  walk_at "rdf"
  refine rd_ixL (SqL.of ha) I3 ?_
  walk_at "rdf"
  refine rd_I (by decide) ?_
  walk_at "rdf"
  refine ite2 (fun _=>?_) (fun _=>?_)
  ·walk_at "rdf"
   refine rd_ixL (SqL.of ha) I0 ?_
   walk_at "rdf"
   refine rd_I (by decide) ?_
   walk_at "rdf"
   refine ⟨_,m,rfl,hm,fun l bs H1 s1 e1 lb hb=>?_⟩
   walk_at "rdf"
   refine rd_ixL (SqL.of (s1 _ _ ha)) I3 ?_
   walk_at "rdf"
   refine rd_I (by decide) ?_
   walk_at "rdf"
   refine ite2 (fun _=>?_) (fun _=>?_)
   ·walk_at "rdf"
    refine ⟨m,rfl,by omega,by omega,fun l2 hn=>?_⟩
    rw [Int.toNat_natCast]
    refine compW_range (fun i=>.int (bs.getD (((0:Int)+(i:Nat))%(1+z1%4)).toNat 0)) (by omega) hn (fun i o H' Q' hi s2 q=>?_) (fun H' s2 e2=>?_)
    ·walk_at "rdf"
     refine rd_ixL (SqL.of (s2 _ _ (s1 _ _ ha))) I1 ?_
     walk_at "rdf"
     refine rd_I (by decide) ?_
     walk_at "rdf"
     have p1:0<1+z1%4:=by omega
     refine rd_I p1 ?_
     walk_at "rdf"
     have q0:=Int.emod_nonneg ((0:Int)+(i:Nat)) (by omega:1+z1%4≠0)
     have q1:((0:Int)+(i:Nat))%(1+z1%4)≤(0:Int)+(i:Nat):=emod_le (by omega) (by omega)
     refine rd_ixL (SqL.of (s2 _ _ e1)) (atI_ints q0 (by omega)) ?_
     exact q H' (Same.refl _)
    ·walk_at "rdf"
     refine k l2 ((List.range m).map fun i=>bs.getD (((0:Int)+(i:Nat))%(1+z1%4)).toNat 0) H' (s1.trans s2) (by rw [e2,List.map_map]; rfl) (by rw [List.length_map,List.length_range]) fun z hz=>?_
     obtain ⟨i,hi,rfl⟩:=List.mem_map.mp hz
     have hi:=List.mem_range.mp hi
     have q0:=Int.emod_nonneg ((0:Int)+(i:Nat)) (by omega:1+z1%4≠0)
     have q1:((0:Int)+(i:Nat))%(1+z1%4)≤(0:Int)+(i:Nat):=emod_le (by omega) (by omega)
     exact hb _ (L2.getD_mem (by omega))
   ·walk_at "rdf"
    exact k l bs H1 s1 e1 lb hb
  ·walk_at "rdf"
   refine ⟨_,m,rfl,hm,fun l bs H1 s1 e1 lb hb=>?_⟩
   walk_at "rdf"
   refine rd_ixL (SqL.of (s1 _ _ ha)) I3 ?_
   walk_at "rdf"
   refine rd_I (by decide) ?_
   walk_at "rdf"
   refine ite2 (fun _=>?_) (fun _=>?_)
   ·walk_at "rdf"
    refine ⟨m,rfl,by omega,by omega,fun l2 hn=>?_⟩
    rw [Int.toNat_natCast]
    refine compW_range (fun i=>.int (bs.getD (((0:Int)+(i:Nat))%(1+z1%4)).toNat 0)) (by omega) hn (fun i o H' Q' hi s2 q=>?_) (fun H' s2 e2=>?_)
    ·walk_at "rdf"
     refine rd_ixL (SqL.of (s2 _ _ (s1 _ _ ha))) I1 ?_
     walk_at "rdf"
     refine rd_I (by decide) ?_
     walk_at "rdf"
     have p1:0<1+z1%4:=by omega
     refine rd_I p1 ?_
     walk_at "rdf"
     have q0:=Int.emod_nonneg ((0:Int)+(i:Nat)) (by omega:1+z1%4≠0)
     have q1:((0:Int)+(i:Nat))%(1+z1%4)≤(0:Int)+(i:Nat):=emod_le (by omega) (by omega)
     refine rd_ixL (SqL.of (s2 _ _ e1)) (atI_ints q0 (by omega)) ?_
     exact q H' (Same.refl _)
    ·walk_at "rdf"
     refine k l2 ((List.range m).map fun i=>bs.getD (((0:Int)+(i:Nat))%(1+z1%4)).toNat 0) H' (s1.trans s2) (by rw [e2,List.map_map]; rfl) (by rw [List.length_map,List.length_range]) fun z hz=>?_
     obtain ⟨i,hi,rfl⟩:=List.mem_map.mp hz
     have hi:=List.mem_range.mp hi
     have q0:=Int.emod_nonneg ((0:Int)+(i:Nat)) (by omega:1+z1%4≠0)
     have q1:((0:Int)+(i:Nat))%(1+z1%4)≤(0:Int)+(i:Nat):=emod_le (by omega) (by omega)
     exact hb _ (L2.getD_mem (by omega))
   ·walk_at "rdf"
    exact k l bs H1 s1 e1 lb hb
structure PlanAt (tupl:Bool) (H:Hp) (p:Addr) (s:Int) (cs rs:List Int):Prop where
 ob:∃ c r,H p=some (if tupl then .tup [.int s,.ref c,.ref r] else .lst [.int s,.ref c,.ref r])∧H c=some (.lst (cs.map V.int))∧H r=some (.lst (rs.map V.int))
 sh:s=0∨s=1
 bc:Bits cs
 br:Bits rs
def sp_Lplan:Sp:=fun vs H Q _=>∃ (a:Addr) (zs:List Int),vs=[.ref a]∧H a=some (.lst (zs.map V.int))∧12≤zs.length∧∀ p s cs rs H',Same H H'→PlanAt true H' p s cs rs→Q (.ref p) H'
theorem pick_a (i:Int):0<([9,9,16,40,6]:List Int).getD (i%5).toNat 0∧([9,9,16,40,6]:List Int).getD (i%5).toNat 0≤40:=by
 have h:=L2.getD_mem (zs:=([9,9,16,40,6]:List Int)) (k:=(i%5).toNat) (d:=0) (by simp; omega)
 simp only [List.mem_cons,List.not_mem_nil,or_false] at h
 rcases h with h | h | h | h | h<;>rw [h]<;>decide
theorem pick_b (i:Int):0<([9,16,16,6,40]:List Int).getD (i%5).toNat 0∧([9,16,16,6,40]:List Int).getD (i%5).toNat 0≤40:=by
 have h:=L2.getD_mem (zs:=([9,16,16,6,40]:List Int)) (k:=(i%5).toNat) (d:=0) (by simp; omega)
 simp only [List.mem_cons,List.not_mem_nil,or_false] at h
 rcases h with h | h | h | h | h<;>rw [h]<;>decide
theorem ok_Lplan (T:Txt K mg t):FnOk P w K mg base CX0 3 t.f_Lplan t.d_Lplan ["_law_some"] sp_Lplan:=by
 have G_Lrow:=ok_Lrow (P:=P) (w:=w) (base:=base) T
 refine T.F_Lplan.ok sc_Lplan (fun vs H Q E h=>?_) (fun cdv A outer s H vs Q E hr h=>?_)
 ·obtain ⟨a,zs,rfl,_⟩:=h; rfl
 ·obtain ⟨a,zs,rfl,ha,hl,k⟩:=h
  refine cutC (ps_set (i:=1) sc_Lplan.nd rfl (Or.inl rfl) (pe_op op_add pe_int (pe_op op_mod (pe_ix (ix_listK K rfl) (pv 0) pe_int (fun _ _=>rfl)) (pe_ix (ix_listK K rfl) (pe_lst (pa_cons pe_int (pa_cons pe_int (pa_cons pe_int (pa_cons pe_int (pa_cons pe_int pa_nil)))))) (pe_op op_mod (pe_ix (ix_listK K rfl) (pv 0) pe_int (fun _ _=>rfl)) pe_int) (fun _ _=>rfl))))) fun _ _=>cutC (ps_set (i:=2) sc_Lplan.nd rfl (Or.inl rfl) (pe_op op_add pe_int (pe_op op_mod (pe_ix (ix_listK K rfl) (pv 0) pe_int (fun _ _=>rfl)) (pe_ix (ix_listK K rfl) (pe_lst (pa_cons pe_int (pa_cons pe_int (pa_cons pe_int (pa_cons pe_int (pa_cons pe_int pa_nil)))))) (pe_op op_mod (pe_ix (ix_listK K rfl) (pv 0) pe_int (fun _ _=>rfl)) pe_int) (fun _ _=>rfl))))) fun _ _=>cutE (ps_ret (pe_tup (pa_cons (pe_op op_mod (pe_ix (ix_listK K rfl) (pv 0) pe_int (fun _ _=>rfl)) pe_int) (pa_cons (pe_call G_Lrow (hr.mono (by first | decide | omega)) rfl T.mg_Lrow T.F_Lrow.kp T.b_Lrow .nil pass0 (pa_cons (pe_slice (sl_listK K rfl) (pv 0) (po_some pe_int) po_none) (pa_cons (pe_op op_sub (pv 1) pe_int) pa_nil))) (pa_cons (pe_call G_Lrow (hr.mono (by first | decide | omega)) rfl T.mg_Lrow T.F_Lrow.kp T.b_Lrow .nil pass0 (pa_cons (pe_slice (sl_listK K rfl) (pv 0) (po_some pe_int) po_none) (pa_cons (pe_op op_sub (pv 2) pe_int) pa_nil))) pa_nil))))) fun _ _=>?_
  have I0:atI (zs.map V.int) 0=_:=atI_ints (by decide) (by omega)
  have I1:atI (zs.map V.int) 1=_:=atI_ints (by decide) (by omega)
  have I2:atI (zs.map V.int) 2=_:=atI_ints (by decide) (by omega)
  have I3:atI (zs.map V.int) 3=_:=atI_ints (by decide) (by omega)
  generalize zs.getD (0:Int).toNat 0=z0 at I0
  generalize zs.getD (1:Int).toNat 0=z1 at I1
  generalize zs.getD (2:Int).toNat 0=z2 at I2
  generalize zs.getD (3:Int).toNat 0=z3 at I3
  have m0:0≤z0%5:=by omega
  have m5:z0%5<5:=by omega
  walk_at "rdf"
  refine rd_ixL (SqL.of ha) I1 ?_
  walk_at "rdf"
  refine ⟨by show 5≤sizeLine; decide,fun l1 n1=>?_⟩
  have s1:=Same.new (o:=HO.lst (([9,9,16,40,6]:List Int).map V.int)) n1
  walk_at "rdf"
  refine rd_ixL (SqL.of (s1 _ _ ha)) I0 ?_
  walk_at "rdf"
  refine rd_I (by decide) ?_
  walk_at "rdf"
  refine rd_ixL (SqL.of (xs:=([9,9,16,40,6]:List Int).map V.int) upd_same) (atI_ints m0 m5) ?_
  walk_at "rdf"
  refine rd_I (pick_a z0).1 ?_
  walk_at "rdf"
  refine rd_ixL (SqL.of (s1 _ _ ha)) I2 ?_
  walk_at "rdf"
  refine ⟨by show 5≤sizeLine; decide,fun l2 n2=>?_⟩
  have s2:=Same.new (o:=HO.lst (([9,16,16,6,40]:List Int).map V.int)) n2
  walk_at "rdf"
  refine rd_ixL (SqL.of (s2 _ _ (s1 _ _ ha))) I0 ?_
  walk_at "rdf"
  refine rd_I (by decide) ?_
  walk_at "rdf"
  refine rd_ixL (SqL.of (xs:=([9,16,16,6,40]:List Int).map V.int) upd_same) (atI_ints m0 m5) ?_
  walk_at "rdf"
  refine rd_I (pick_b z0).1 ?_
  walk_at "rdf"
  have ha2:=s2 _ _ (s1 _ _ ha)
  refine rd_ixL (SqL.of ha2) I3 ?_
  walk_at "rdf"
  refine rd_I (by decide) ?_
  walk_at "rdf"
  have va:=pick_a z0
  have vb:=pick_b z0
  generalize ([9,9,16,40,6]:List Int).getD (z0%5).toNat 0=va' at va ⊢
  generalize ([9,16,16,6,40]:List Int).getD (z0%5).toNat 0=vb' at vb ⊢
  have wa0:=Int.emod_nonneg z1 (by omega:va'≠0)
  have wa1:=Int.emod_lt_of_pos z1 va.1
  have wb0:=Int.emod_nonneg z2 (by omega:vb'≠0)
  have wb1:=Int.emod_lt_of_pos z2 vb.1
  refine rd_slL ha2 fun l3 n3=>?_
  have s3:=Same.new (o:=HO.lst (cutV (zs.map V.int) (some 4) none)) n3
  walk_at "rdf"
  refine ⟨l3,(z1%va').toNat,zs.drop 4,(by show [V.ref l3,V.int (1+z1%va' - 1)]=_; rw [show (1+z1%va' - 1:Int)=(((z1%va').toNat:Nat):Int) by omega]),by rw [upd_same]; exact congrArg (fun x=>some (HO.lst x)) (cutV_drop (k:=4)),by rw [List.length_drop]; omega,by omega,fun c cs H1 s4 ec lc bc=>?_⟩
  walk_at "rdf"
  have ha4:=s4 _ _ (s3 _ _ ha2)
  refine rd_slL ha4 fun l5 n5=>?_
  have s5:=Same.new (o:=HO.lst (cutV (zs.map V.int) (some 8) none)) n5
  walk_at "rdf"
  refine ⟨l5,(z2%vb').toNat,zs.drop 8,(by show [V.ref l5,V.int (1+z2%vb' - 1)]=_; rw [show (1+z2%vb' - 1:Int)=(((z2%vb').toNat:Nat):Int) by omega]),by rw [upd_same]; exact congrArg (fun x=>some (HO.lst x)) (cutV_drop (k:=8)),by rw [List.length_drop]; omega,by omega,fun r rs H2 s6 er lr br=>?_⟩
  walk_at "rdf"
  refine ⟨by show 3≤sizeLine; decide,fun p hp=>?_⟩
  have s7:=Same.new (o:=HO.tup [V.int (z3%2),V.ref c,V.ref r]) hp
  exact k p (z3%2) cs rs _ (s1.trans (s2.trans (s3.trans (s4.trans (s5.trans (s6.trans s7)))))) ⟨⟨c,r,upd_same,s7 _ _ (s6 _ _ (s5 _ _ ec)),s7 _ _ er⟩,mod2 z3,⟨by omega,bc⟩,⟨by omega,br⟩⟩
def sp_Lmade (C:Addr):Sp:=fun vs H Q _=>∃ (p:Addr) (b:Bool) (s:Int) (cs rs:List Int),vs=[.ref p]∧PlanAt b H p s cs rs∧∀ x H',Same H H'→ClothAt C H' x s cs rs→Q (.ref x) H'
theorem ok_Lmade (T:Txt K mg t):FnOk P w K mg base CX0 8 t.f_Lmade t.d_Lmade ["_law_plan_here"] (sp_Lmade t.a_Cloth):=by
 have G_ClothInit:=ok_ClothInit (P:=P) (w:=w) (base:=base) T
 refine T.F_Lmade.ok sc_Lmade (fun vs H Q E h=>?_) (fun cdv A outer s H vs Q E hr h=>?_)
 ·obtain ⟨p,b,s,cs,rs,rfl,_⟩:=h; rfl
 ·obtain ⟨p,b,s,cs,rs,rfl,pl,k⟩:=h
  obtain ⟨⟨c,r,hp,hc,hr'⟩,sh,bc,br⟩:=id pl
  refine ⟨_,(pss_one (ps_ret (pe_make T.mk_Cloth G_ClothInit (hr.mono (by first | decide | omega)) rfl T.mg_Cloth T.b_ClothInit .nil pass0 (pa_cons (pe_ix (ix_seqK K rfl) (pv 0) pe_int (fun _ _=>rfl)) (pa_cons (pe_callTy (cI_listK K rfl) rfl T.no_list (by rfl) (pa_cons (pe_ix (ix_seqK K rfl) (pv 0) pe_int (fun _ _=>rfl)) pa_nil)) (pa_cons (pe_callTy (cI_listK K rfl) rfl T.no_list (by rfl) (pa_cons (pe_ix (ix_seqK K rfl) (pv 0) pe_int (fun _ _=>rfl)) pa_nil)) pa_nil)))))),?_⟩
  have ix:∀ {H':Hp} {i:Int} {v:V} {Q:VK},Same H H'→atI [V.int s,V.ref c,V.ref r] i=some v→Q v H'→rIx K (.ref p) (.int i) H' Q:=fun {H' i v Q} s1 e q=>by
   cases b
   ·exact rd_ixsL (SqL.of (s1 _ _ hp)) e q
   ·exact rd_ixsT (SqT.of (s1 _ _ hp)) e q
  walk_at "rdf"
  refine ix (Same.refl _) rfl ?_
  walk_at "rdf"
  refine ix (Same.refl _) rfl ?_
  walk_at "rdf"
  refine rd_listL hc fun l1 n1=>?_
  have s1:=Same.new (o:=HO.lst (cs.map V.int)) n1
  walk_at "rdf"
  refine ix s1 rfl ?_
  walk_at "rdf"
  refine rd_listL (s1 _ _ hr') fun l2 n2=>?_
  have s2:=Same.new (o:=HO.lst (rs.map V.int)) n2
  walk_at "rdf"
  intro x dx nx ndx nex
  have s12:=s1.trans s2
  have h1:upd (upd H l1 (.lst (cs.map V.int))) l2 (.lst (rs.map V.int)) l1=some (.lst (cs.map V.int)):=s2 _ _ upd_same
  have h2:upd (upd H l1 (.lst (cs.map V.int))) l2 (.lst (rs.map V.int)) l2=some (.lst (rs.map V.int)):=upd_same
  generalize upd (upd H l1 (.lst (cs.map V.int))) l2 (.lst (rs.map V.int))=H3 at h1 h2 s12 nx ndx ⊢
  have s3:Same H3 (upd (upd H3 dx (.own x)) x (.ins t.a_Cloth dx [])):=(Same.new ndx).later nx
  refine ⟨x,dx,l1,l2,s,cs,rs,rfl,upd_same,s3 _ _ h1,s3 _ _ h2,sh,bc,br,fun H4 kp hC=>⟨rfl,?_⟩⟩
  exact k x H4 (fun b o e=>kp b o (s3 b o (s12 b o e)) (ne_of_none (s12 b o e) nx)) hC
end
section
variable {P:Program} {w:World} {K:PySem.W.Frag} {mg:Str→Option Value} {base:Heap} {t:Ad}
theorem len_flat {L:List Sm1} {e:Sm1} (h:e∈L):e.2.length≤(flat L).length:=by
 induction L with
 | nil=>cases h
 | cons a L ih =>
  unfold flat at ih ⊢
  rw [List.flatMap_cons,List.length_append]
  rcases List.mem_cons.mp h with z | z
  ·rw [z]; omega
  ·have:=ih z; omega
def RnV (H:Hp) (cs rs:List Int) (v:V):Prop:=∃ l zs M,v=.ref l∧H l=some (.lst zs)∧PwPt H zs M∧Sm.Told (nb cs rs) true M∧M.length≤1681
theorem RnV.mono {H H':Hp} {cs rs:List Int} {v:V} (s:Same H H') (h:RnV H cs rs v):RnV H' cs rs v:=by
 obtain ⟨l,zs,M,h1,h2,h3,h4⟩:=h
 exact ⟨l,zs,M,h1,s _ _ h2,h3.mono s,h4⟩
def lnOf (H:Hp):V→V
 | .ref T=>match H T with
  | some (.tup [_, x]) => x
  | _ => .non
 | _=>.non
def sp_rounds (C:Addr):Sp:=fun vs H Q _=>∃ (p:Addr) (s:Int) (cs rs:List Int),vs=[.ref p]∧ClothAt C H p s cs rs∧cs.length≤39∧rs.length≤39 ∧
 ∀ l ys H',Same H H'→H l=none→H' l=some (.lst ys)→(∀ v∈ys,RnV H' cs rs v)→(∃ L,AllS cs rs L)→Q (.ref l) H'
theorem ok_rounds (T:Txt K mg t):FnOk P w K mg base CX0 11 t.f_rounds t.d_rounds ["cloth"] (sp_rounds t.a_Cloth):=by
 have G_seams:=ok_seams (P:=P) (w:=w) (base:=base) T
 refine T.F_rounds.ok sc_rounds (fun vs H Q E h=>?_) (fun cdv A outer s H vs Q E hr h=>?_)
 ·obtain ⟨p,s,cs,rs,rfl,_⟩:=h; rfl
 ·obtain ⟨p,s,cs,rs,rfl,hc,lc,lr,k⟩:=h
  refine ⟨_,(pss_one (ps_ret (pe_comp (N:=["told"]) (cap:=[none]) rfl ⟨rfl,rfl,rfl,rfl,rfl,rfl⟩ (pi_list (pe_call G_seams (hr.mono (by first | decide | omega)) rfl T.mg_seams T.F_seams.kp T.b_seams .nil pass0 (pa_cons (pv 0) pa_nil))) (fun _ _ _=>(pg_name (i:=0) (show (["told"]:List Str).Nodup by decide +kernel) rfl (Or.inl rfl))) (fun _ _ _=>(pts_one (pt_val (pe_ix (ix_tupK K rfl) (pv 0) pe_int (fun _ _=>rfl))))) (fun _ _ _=>(pe_ix (ix_tupK K rfl) (pv 0) pe_int (fun _ _=>rfl)))))),?_⟩
  walk_at "rdf"
  refine ⟨p,s,cs,rs,rfl,hc,lc,lr,fun lf xs L H1 s1 nf ef al px=>?_⟩
  have fw:=al.some.few lc lr
  walk_at "rdf"
  refine ⟨⟨_,SqL.of ef⟩,fun lw nw=>?_⟩
  refine compW_filt (lnOf H1) (fun v=>(seOf H1 v).1) (SqL.of ef) (by rw [px.1]; omega) nw (fun x o H5 Q' hx s5 q=>?_) (fun x o H5 Q' hx _ s5 q=>?_) (fun H5 s5 e5=>?_)
  ·obtain ⟨⟨T1,l,ys,rfl,_,eT,el,py⟩,_⟩:=px.mem x hx
   walk_at "rdf"
   refine rd_ixT (SqT.of (s5 _ _ eT)) (v:=.bl (seOf H1 (.ref T1)).1) rfl ?_
   walk_at "rdf"
   exact q H5 (Same.refl _)
  ·obtain ⟨⟨T1,l,ys,rfl,_,eT,el,py⟩,_⟩:=px.mem x hx
   walk_at "rdf"
   refine rd_ixT (SqT.of (s5 _ _ eT)) (v:=.ref l) rfl ?_
   walk_at "rdf"
   have e:lnOf H1 (.ref T1)=.ref l:=by simp only [lnOf,eT]
   rw [e] at q
   exact q H5 (Same.refl _)
  ·walk_at "rdf"
   refine k lw _ H5 (s1.trans s5) (s1.free nw) e5 (fun v hv=>?_) ⟨L,al⟩
   obtain ⟨u,hu,rfl⟩:=List.mem_map.mp hv
   rw [List.mem_filter] at hu
   obtain ⟨⟨T1,l,ys,rfl,_,eT,el,py⟩,hm⟩:=px.mem u hu.1
   have e:lnOf H1 (.ref T1)=.ref l:=by simp only [lnOf,eT]
   have td:=al.some.told _ hm
   rw [hu.2] at td
   have:=len_flat hm
   exact ⟨l,ys,_,e,s5 _ _ el,py.mono s5,td,by omega⟩
end
section
def par (p q:Int×Int):Int:=if p.1=q.1 then (p.1+p.2+1)%2 else (p.1+p.2)%2
def wayC (cs:List Int) (u x:Int):Int:=if (u+1 - x+cs.getD (x - 1).toNat 0)%2=1 then 1 else -1
def wayR (rs:List Int) (u y:Int):Int:=if (u - y+rs.getD (y - 1).toNat 0)%2=1 then 1 else -1
theorem step_turn {cs rs:List Int} {p q r:Int×Int} (h1:q∈nb cs rs p) (h2:r∈nb cs rs q) (hne:r≠p):par q r=par p q∧(q.1=r.1↔¬ p.1=q.1):=by
 obtain ⟨x,y⟩:=p
 rcases nb_mem.mp h1 with ⟨a,rfl⟩ | ⟨a,rfl⟩ | ⟨a,rfl⟩ | ⟨a,rfl⟩<;>rcases nb_mem.mp h2 with ⟨b,rfl⟩ | ⟨b,rfl⟩ | ⟨b,rfl⟩ | ⟨b,rfl⟩<;>clear h1 h2<;>dsimp only at a b ⊢
 ·rw [rt_one b] at a; cases a
 ·exact ⟨by unfold par; rw [if_pos rfl,if_neg (by dsimp only; omega)]; dsimp only; omega,by omega⟩
 ·exact ⟨by unfold par; rw [if_pos rfl,if_neg (by dsimp only; omega)]; dsimp only; omega,by omega⟩
 ·exact (hne (Prod.ext (by dsimp only; omega) rfl)).elim
 ·exact ⟨by unfold par; rw [if_neg (by dsimp only; omega),if_pos rfl]; dsimp only; omega,by omega⟩
 ·rw [ups_one b] at a; cases a
 ·exact (hne (Prod.ext rfl (by dsimp only; omega))).elim
 ·exact ⟨by unfold par; rw [if_neg (by dsimp only; omega),if_pos rfl]; dsimp only; omega,by omega⟩
 ·exact ⟨by unfold par; rw [if_neg (by dsimp only; omega),if_pos rfl]; dsimp only; omega,by omega⟩
 ·exact (hne (Prod.ext rfl (by dsimp only; omega))).elim
 ·rw [ups_one (y:=y+1) (by rw [Int.add_sub_cancel]; exact a)] at b; cases b
 ·exact ⟨by unfold par; rw [if_neg (by dsimp only; omega),if_pos rfl]; dsimp only; omega,by omega⟩
 ·exact (hne (Prod.ext (by dsimp only; omega) rfl)).elim
 ·exact ⟨by unfold par; rw [if_pos rfl,if_neg (by dsimp only; omega)]; dsimp only; omega,by omega⟩
 ·exact ⟨by unfold par; rw [if_pos rfl,if_neg (by dsimp only; omega)]; dsimp only; omega,by omega⟩
 ·rw [rt_one (x:=x+1) (by rw [Int.add_sub_cancel]; exact a)] at b; cases b
theorem step_way {cs rs:List Int} {p q:Int×Int} (h1:q∈nb cs rs p):(p.1=q.1→q.1 - p.1+q.2 - p.2=wayC cs (par p q) p.1)∧(¬ p.1=q.1→q.1 - p.1+q.2 - p.2=wayR rs (par p q) p.2)∧(q.1 - p.1+q.2 - p.2=1∨q.1 - p.1+q.2 - p.2=-1):=by
 obtain ⟨x,y⟩:=p
 have h1:=nb_mem.mp h1
 simp only [rt_iff,ups_iff] at h1
 unfold wayC wayR par
 rcases h1 with ⟨a,rfl⟩ | ⟨a,rfl⟩ | ⟨a,rfl⟩ | ⟨a,rfl⟩<;>dsimp only at *
 ·refine ⟨fun h=>by omega,fun h=>?_,by omega⟩
  rw [if_neg h]
  split<;>omega
 ·refine ⟨fun h=>?_,fun h=>by omega,by omega⟩
  rw [if_pos h]
  split<;>omega
 ·refine ⟨fun h=>?_,fun h=>by omega,by omega⟩
  rw [if_pos h]
  split<;>omega
 ·refine ⟨fun h=>by omega,fun h=>?_,by omega⟩
  rw [if_neg h]
  split<;>omega
end
section
variable {P:Program} {w:World} {K:PySem.W.Frag} {mg:Str→Option Value} {base:Heap} {t:Ad}
def IsMin (m:Int) (ns:List Int):Prop:=m∈ns∧∀ n∈ns,m≤n
def IsMax (m:Int) (ns:List Int):Prop:=m∈ns∧∀ n∈ns,n≤m
theorem map_pts {H:Hp} {zs:List V} {M:List (Int×Int)} (py:PwPt H zs M) (g:Int×Int→Int):zs.map (fun v=>V.int (g (ptOf H v)))=(M.map g).map V.int:=by
 rw [← py.map,List.map_map,List.map_map]; rfl
def sp_box:Sp:=fun vs H Q _=>∃ (l:Addr) (zs:List V) (M:List (Int×Int)),vs=[.ref l]∧H l=some (.lst zs)∧PwPt H zs M∧M≠[]∧M.length≤1681 ∧
 ∀ T a b c d H',Same H H'→H' T=some (.tup [.int a,.int b,.int c,.int d])→IsMin a (M.map (·.1))→IsMin b (M.map (·.2))→IsMax c (M.map (·.1))→IsMax d (M.map (·.2))→Q (.ref T) H'
theorem ok_box (T:Txt K mg t):FnOk P w K mg base CX0 1 t.f_box t.d_box ["line"] sp_box:=by
 refine T.F_box.ok sc_box (fun vs H Q E h=>?_) (fun cdv A outer s H vs Q E hr h=>?_)
 ·obtain ⟨l,zs,M,rfl,_⟩:=h; rfl
 ·obtain ⟨l,zs,M,rfl,el,py,hne,hz,k⟩:=h
  have ne1:M.map (·.1)≠[]:=fun e=>hne (List.map_eq_nil_iff.mp e)
  have ne2:M.map (·.2)≠[]:=fun e=>hne (List.map_eq_nil_iff.mp e)
  have ly:=py.1
  refine cutC (ps_setC (i:=1) sc_box.nd rfl (Or.inl rfl) (N:=["point"]) (cap:=[none]) rfl ⟨rfl,rfl,rfl,rfl,rfl,rfl⟩ (pi_list (pv 0)) (fun _ _ _=>(pg_name (i:=0) (show (["point"]:List Str).Nodup by decide +kernel) rfl (Or.inl rfl))) (fun _ _ _=>pts_nil) (fun _ _ _=>(pe_ix (ix_tupK K rfl) (pv 0) pe_int (fun _ _=>rfl))) (by rfl)) fun _ _=>cutC (ps_setC (i:=2) sc_box.nd rfl (Or.inl rfl) (N:=["point"]) (cap:=[none]) rfl ⟨rfl,rfl,rfl,rfl,rfl,rfl⟩ (pi_list (pv 0)) (fun _ _ _=>(pg_name (i:=0) (show (["point"]:List Str).Nodup by decide +kernel) rfl (Or.inl rfl))) (fun _ _ _=>pts_nil) (fun _ _ _=>(pe_ix (ix_tupK K rfl) (pv 0) pe_int (fun _ _=>rfl))) (by rfl)) fun _ _=>cutE (ps_ret (pe_tup (pa_cons (pe_callB (cI_minIK K rfl rfl) rfl T.no_min (by rfl) (pa_cons (pv 1) pa_nil)) (pa_cons (pe_callB (cI_minIK K rfl rfl) rfl T.no_min (by rfl) (pa_cons (pv 2) pa_nil)) (pa_cons (pe_callB (cI_maxIK K rfl rfl) rfl T.no_max (by rfl) (pa_cons (pv 1) pa_nil)) (pa_cons (pe_callB (cI_maxIK K rfl rfl) rfl T.no_max (by rfl) (pa_cons (pv 2) pa_nil)) pa_nil)))))) fun _ _=>?_
  walk_at "rdf"
  refine ⟨⟨_,SqL.of el⟩,fun l1 n1=>?_⟩
  refine compW_filt (fun v=>.int (ptOf H v).1) (fun _=>true) (SqL.of el) (by omega) n1 (fun x o H5 Q' hx s5 q=>?_) (fun x o H5 Q' hx _ s5 q=>?_) (fun H1 s1 e1=>?_)
  ·walk_at "rdf"
   exact q H5 (Same.refl _)
  ·obtain ⟨b,rfl,hb⟩:=py.mem x hx
   walk_at "rdf"
   refine rd_ixT (SqT.of (s5 _ _ hb)) (v:=.int (ptOf H (.ref b)).1) rfl ?_
   walk_at "rdf"
   exact q H5 (Same.refl _)
  rw [List.filter_eq_self.mpr (fun _ _=>rfl),map_pts py (·.1)] at e1
  walk_at "rdf"
  refine ⟨⟨_,SqL.of (s1 _ _ el)⟩,fun l2 n2=>?_⟩
  refine compW_filt (fun v=>.int (ptOf H v).2) (fun _=>true) (SqL.of (s1 _ _ el)) (by omega) n2 (fun x o H5 Q' hx s5 q=>?_) (fun x o H5 Q' hx _ s5 q=>?_) (fun H2 s2 e2=>?_)
  ·walk_at "rdf"
   exact q H5 (Same.refl _)
  ·obtain ⟨b,rfl,hb⟩:=py.mem x hx
   walk_at "rdf"
   refine rd_ixT (SqT.of (s5 _ _ (s1 _ _ hb))) (v:=.int (ptOf H (.ref b)).2) rfl ?_
   walk_at "rdf"
   exact q H5 (Same.refl _)
  rw [List.filter_eq_self.mpr (fun _ _=>rfl),map_pts py (·.2)] at e2
  walk_at "rdf"
  refine rd_best (s2 _ _ e1) ne1 fun a a1 a2=>?_
  walk_at "rdf"
  refine rd_best e2 ne2 fun b b1 b2=>?_
  walk_at "rdf"
  refine rd_best (s2 _ _ e1) ne1 fun c c1 c2=>?_
  walk_at "rdf"
  refine rd_best e2 ne2 fun d d1 d2=>?_
  walk_at "rdf"
  refine ⟨by show 4≤sizeLine; decide,fun T nT=>?_⟩
  walk_at "rdf"
  refine k T a b c d _ (s1.trans (s2.trans (Same.new nT))) upd_same ⟨a1,fun n hn=>?_⟩ ⟨b1,fun n hn=>?_⟩ ⟨c1,fun n hn=>?_⟩ ⟨d1,fun n hn=>?_⟩
  ·simpa using a2 n hn
  ·simpa using b2 n hn
  ·simpa using c2 n hn
  ·simpa using d2 n hn
end
section
variable {P:Program} {w:World} {K:PySem.W.Frag} {mg:Str→Option Value} {base:Heap} {t:Ad}
theorem told_cyc {cs rs:List Int} {M:List (Int×Int)} (h:Sm.Told (nb cs rs) true M):Wn.Cyc M:=by
 refine ⟨h.nd,?_,fun k hk=>?_⟩
 ·obtain ⟨a,b,l,rfl,o,_⟩:=h.rd rfl
  cases l with
  | nil =>
   have hm:a∈Sm.oth (nb cs rs) a b:=by rw [show Sm.oth (nb cs rs) a b=[a] from o.stop]; simp
   exact absurd rfl (Sm.mem_oth.mp hm).2
  | cons c l => simp only [List.length_cons]; omega
 ·obtain ⟨p,q,h1,h2,h3⟩:=h.step (gr_nb cs rs) hk (.inr rfl)
  rw [Wn.gt_eq (show M[Wn.pv M.length k]?=some p from h1),Wn.gt_eq h2]
  unfold Wn.Adj
  rcases nb_mem.mp h3 with ⟨_,rfl⟩ | ⟨_,rfl⟩ | ⟨_,rfl⟩ | ⟨_,rfl⟩<;>dsimp only<;>omega
theorem told_box {cs rs:List Int} (lc:cs.length≤39) (lr:rs.length≤39) {M:List (Int×Int)} {f:Bool} (h:Sm.Told (nb cs rs) f M):∀ p∈M,(0≤p.1∧p.1≤40)∧0≤p.2∧p.2≤40:=fun p hp=>by
 have:=told_inP h p hp
 unfold inPt at this
 omega
structure RwAt (H0 H:Hp) (d:Addr) (M:Int→List Int) (n:Nat):Prop where
 nd:H0 d=none
 ob:∃ kvs:List (Key×V),H d=some (.dK kvs)∧kvs.length≤n∧(kvs.map (·.1)).Nodup∧(∀ y:Int,valV kvs (.inl y)=none→M y=[]) ∧
  (∀ k v,valV kvs k=some v→∃ y l,k=.inl y∧v=.ref l∧l≠d∧H0 l=none∧H l=some (.lst ((M y).map V.int)))∧∀ k k' v,valV kvs k=some v→valV kvs k'=some v→k=k'
theorem RwAt.new {H0 H:Hp} {d:Addr} (n:H0 d=none) (e:H d=some (.dK [])):RwAt H0 H d (fun _=>[]) 0 :=
 ⟨n,[],e,Nat.le_refl _,List.nodup_nil,fun _ _=>rfl,fun s v h=>(by cases h),fun s s' v h=>(by cases h)⟩
theorem RwAt.mono {H0 H H':Hp} {d:Addr} {M:Int→List Int} {n:Nat} (h:RwAt H0 H d M n) (m:Same H H'):RwAt H0 H' d M n:=by
 obtain ⟨kvs,h1,h2,h3,h4,h5,h6⟩:=h.ob
 refine ⟨h.nd,kvs,m _ _ h1,h2,h3,h4,fun k v hv=>?_,h6⟩
 obtain ⟨y,l,e1,e2,q1,q2,q3⟩:=h5 k v hv
 exact ⟨y,l,e1,e2,q1,q2,m _ _ q3⟩
theorem RwAt.le {H0 H:Hp} {d:Addr} {M:Int→List Int} {n m:Nat} (h:RwAt H0 H d M n) (hm:n≤m):RwAt H0 H d M m :=
 let ⟨kvs,h1,h2,h3⟩:=h.ob; ⟨h.nd,kvs,h1,Nat.le_trans h2 hm,h3⟩
def addR (M:Int→List Int) (y x:Int):Int→List Int:=fun z=>if z=y then M z++[x] else M z
theorem RwAt.add {H0 H:Hp} {d l:Addr} {M:Int→List Int} {n:Nat} {kvs:List (Key×V)} {y x:Int} (h:RwAt H0 H d M n) (e:H d=some (.dK kvs)) (hv:valV kvs (.inl y)=some (.ref l)):H l=some (.lst ((M y).map V.int))∧RwAt H0 (L2.upd H l (.lst ((M y).map V.int++[.int x]))) d (addR M y x) n:=by
  obtain ⟨kvs',h1,h2,h3,h4,h5,h6⟩:=h.ob
  rw [e] at h1
  cases h1
  obtain ⟨y',l',e1,e2,q1,q2,q3⟩:=h5 _ _ hv
  injection e1 with e1
  injection e2 with e2
  subst e1 e2
  refine ⟨q3,h.nd,kvs,by rw [upd_ne q1.symm]; exact e,h2,h3,fun z hz=>?_,fun k v hk=>?_,h6⟩
  · unfold addR
    rw [if_neg (fun c=>by rw [c,hv] at hz; cases hz)]
    exact h4 z hz
  · unfold addR
    obtain ⟨z,l2,e3,e4,r1,r2,r3⟩:=h5 k v hk
    by_cases hz:z=y
    · subst hz e3
      rw [hv] at hk
      cases hk
      injection e4 with e4
      subst e4
      exact ⟨z,l,rfl,rfl,q1,q2,by rw [if_pos rfl,upd_same,List.map_append]; rfl⟩
    · have:l2≠l:=fun c=>hz (by
        have:=h6 k (.inl y) v hk (by rw [hv,e4,c])
        rw [e3] at this
        injection this)
      exact ⟨z,l2,e3,e4,r1,r2,by rw [if_neg hz,upd_ne this]; exact r3⟩
theorem RwAt.put {H0 H:Hp} {d l:Addr} {M:Int→List Int} {n:Nat} {kvs:List (Key×V)} {y:Int} (h:RwAt H0 H d M n) (e:H d=some (.dK kvs)) (hv:valV kvs (.inl y)=none) (hl:H l=some (.lst [])) (n0:H0 l=none) (nd:l≠d) (fr:∀ k v,valV kvs k=some v→v≠.ref l):RwAt H0 (L2.upd H d (.dK (putK kvs (.inl y) (.ref l)))) d M (n+1):=by
 obtain ⟨kvs',h1,h2,h3,h4,h5,h6⟩:=h.ob
 rw [e] at h1
 cases h1
 have hM:=h4 y hv
 have vp:∀ k,valV (putK kvs (.inl y) (.ref l)) k=if k=.inl y then some (.ref l) else valV kvs k:=fun k=>valV_put _ _ _ _
 refine ⟨h.nd,_,upd_same,by have:=length_putK kvs (.inl y) (.ref l); omega,?_,fun z hz=>?_,fun k v hk=>?_,fun k k' v hk hk'=>?_⟩
 ·rw [putK_new _ hv,List.map_append,List.nodup_append]
  refine ⟨h3,by simp,fun a ha b hb z=>?_⟩
  simp only [List.map_cons,List.map_nil,List.mem_singleton] at hb
  subst hb z
  have:=valV_mem.mpr ha
  rw [hv] at this
  cases this
 ·rw [vp] at hz
  by_cases c:(Sum.inl z:Key)=.inl y
  ·rw [if_pos c] at hz; cases hz
  ·rw [if_neg c] at hz; exact h4 z hz
 ·rw [vp] at hk
  by_cases c:k=.inl y
  ·rw [if_pos c] at hk
   cases hk
   exact ⟨y,l,c,rfl,nd,n0,by rw [upd_ne nd,hM]; exact hl⟩
  ·rw [if_neg c] at hk
   obtain ⟨z,l2,e3,e4,r1,r2,r3⟩:=h5 k v hk
   exact ⟨z,l2,e3,e4,r1,r2,by rw [upd_ne r1]; exact r3⟩
 ·rw [vp] at hk hk'
  by_cases c:k=.inl y<;>by_cases c':k'=.inl y
  ·rw [c,c']
  ·rw [if_pos c] at hk
   rw [if_neg c'] at hk'
   cases hk
   exact absurd rfl (fr k' _ hk')
  ·rw [if_neg c] at hk
   rw [if_pos c'] at hk'
   cases hk'
   exact absurd rfl (fr k _ hk)
  ·rw [if_neg c] at hk
   rw [if_neg c'] at hk'
   exact h6 k k' v hk hk'
theorem atI_prev {α:Type} {zs:List α} {k:Nat} (h:k<zs.length):atI zs ((k:Int) - 1)=zs[Wn.pv zs.length k]?:=by
 unfold Wn.pv
 by_cases e:k=0
 ·subst e
  rw [if_pos rfl]
  obtain ⟨i,b,rfl⟩:∃ i b,zs=i++[b]:=⟨zs.dropLast,zs.getLast (by intro z; rw [z] at h; simp at h),(List.dropLast_concat_getLast _).symm⟩
  rw [show ((0:Nat):Int) - 1=-1 by decide,atI_last,List.length_append,List.length_singleton,Nat.add_sub_cancel,List.getElem?_append_right (Nat.le_refl _),Nat.sub_self]
  rfl
 ·rw [if_neg e,show (k:Int) - 1=((k - 1:Nat):Int) by omega]
  rw [List.getElem?_eq_getElem (show k - 1<zs.length by omega)]
  exact atI_nat (List.getElem?_eq_getElem (show k - 1<zs.length by omega))
def sp_walls:Sp:=fun vs H Q _=>∃ (l:Addr) (zs:List V) (M:List (Int×Int)),vs=[.ref l]∧H l=some (.lst zs)∧PwPt H zs M∧M.length≤1681∧∀ d H',Same H H'→RwAt H H' d (Wn.rw M) 1681→Q (.ref d) H'
theorem ok_walls (T:Txt K mg t):FnOk P w K mg base CX0 1 t.f_walls t.d_walls ["line"] sp_walls:=by
  refine T.F_walls.ok sc_walls (fun vs H Q E h=>?_) (fun cdv A outer s H vs Q E hr h=>?_)
  · obtain ⟨l,zs,M,rfl,_⟩:=h; rfl
  · obtain ⟨l,zs,M,rfl,el,py,hz,k⟩:=h
    have ly:=py.1
    refine cutC (ps_set (i:=1) sc_walls.nd rfl (Or.inl rfl) pe_dnewK) fun _ _=>cutC (ps_for PassesOwn.never rfl (pi_range1 rfl T.no_range (pa_cons (pe_callB (cI_lenK K rfl) rfl T.no_len (by rfl) (pa_cons (pv 0) pa_nil)) pa_nil)) (pg_name (i:=2) sc_walls.nd rfl (Or.inl rfl)) (pss_cons (ps_set (i:=3) sc_walls.nd rfl (Or.inl rfl) (pe_ix (ix_listK K rfl) (pv 0) (pe_op op_sub (pv 2) pe_int) (fun _ _=>rfl))) (pss_cons (ps_set (i:=4) sc_walls.nd rfl (Or.inl rfl) (pe_ix (ix_listK K rfl) (pv 0) (pv 2) (fun _ _=>rfl))) (pss_one (ps_join (ps_if (pt_cmpR op_eq (pe_ix (ix_tupK K rfl) (pv 3) pe_int (fun _ _=>rfl)) (pe_ix (ix_tupK K rfl) (pv 4) pe_int (fun _ _=>rfl)) (nomark _)) (pss_one (ps_expr (pe_bm PySem.F.plainAttrs_list PySem.F.slot_list_append PySem.F.type_list_append mt_append (pe_dsetdK (pv 1) (pe_callB (cI_min2 rfl) rfl T.no_min (by rfl) (pa_cons (pe_ix (ix_tupK K rfl) (pv 3) pe_int (fun _ _=>rfl)) (pa_cons (pe_ix (ix_tupK K rfl) (pv 4) pe_int (fun _ _=>rfl)) pa_nil))) (pe_lst pa_nil) ⟨rfl,rfl,rfl,rfl⟩) (pa_cons (pe_ix (ix_tupK K rfl) (pv 3) pe_int (fun _ _=>rfl)) pa_nil)))) pss_nil)))))) fun _ _=>cutE (ps_ret (pv 1)) fun _ _=>?_
    walk_at "rdf"
    intro d nd
    have s1:=Same.new (o:=HO.dK []) nd
    have e1:=upd_same (H:=H) (a:=d) (o:=HO.dK [])
    generalize upd H d (HO.dK [])=H1 at s1 e1 ⊢
    walk_at "rdf"
    refine rd_lenL (s1 _ _ el) ?_
    refine ⟨_,rfl,by omega,by omega,?_⟩
    rw [Int.toNat_natCast]
    refine forW_range (fun i σ' H'=>∃ (o2 o3 o4:Option V),σ'=[some (.ref l),some (.ref d),o2,o3,o4]∧Same H H'∧RwAt H H' d (Wn.rwk M i) i) ⟨none,none,none,rfl,s1,RwAt.new nd e1⟩ ?_ ?_
    · rintro i σ' H2 hi ⟨o2,o3,o4,rfl,s2,rw2⟩
      rw [Int.zero_add]
      have el2:=s2 _ _ el
      have hp:Wn.pv zs.length i<zs.length:=Wn.pv_lt hi
      obtain ⟨b1,eb1,hb1⟩:=py.2 _ _ _ (List.getElem?_eq_getElem hp) (List.getElem?_eq_getElem (by omega))
      obtain ⟨b2,eb2,hb2⟩:=py.2 _ _ _ (List.getElem?_eq_getElem hi) (List.getElem?_eq_getElem (show i<M.length by omega))
      have g1:=Wn.gt_eq (List.getElem?_eq_getElem (show Wn.pv zs.length i<M.length by omega))
      have g2:=Wn.gt_eq (List.getElem?_eq_getElem (show i<M.length by omega))
      rw [← g1] at hb1
      rw [← g2] at hb2
      rw [ly] at hb1
      have hb1:=s2 _ _ hb1
      have hb2:=s2 _ _ hb2
      have a1:atI zs ((i:Int) - 1)=some (.ref b1):=by rw [atI_prev hi,List.getElem?_eq_getElem hp,eb1]
      have a2:atI zs ((i:Nat):Int)=some (.ref b2):=atI_nat (by rw [List.getElem?_eq_getElem hi,eb2])
      clear g1 g2 eb1 eb2
      walk_at "rdf"
      refine rd_ixL (SqL.of el2) a1 ?_
      walk_at "rdf"
      refine rd_ixL (SqL.of el2) a2 ?_
      walk_at "rdf"
      refine rd_join (fun σ' H'=>σ'=[some (.ref l),some (.ref d),some (.int (i:Nat)),some (.ref b1),some (.ref b2)]∧Same H H'∧RwAt H H' d (Wn.rwk M (i+1)) (i+1)) ?_ ?_
      · have dv:Wn.vw (Wn.gt M (Wn.pv M.length i)) (Wn.gt M i)=if (Wn.gt M (Wn.pv M.length i)).1=(Wn.gt M i).1 then some ((Wn.gt M (Wn.pv M.length i)).1,if (Wn.gt M i).2<(Wn.gt M (Wn.pv M.length i)).2 then (Wn.gt M i).2 else (Wn.gt M (Wn.pv M.length i)).2) else none:=rfl
        have rN:=Wn.rwk_none (M:=M) (k:=i)
        have rS:=fun {x y:Int}=>Wn.rwk_some (M:=M) (k:=i) (x:=x) (y:=y)
        generalize Wn.gt M (Wn.pv M.length i)=p at hb1 dv rN rS
        generalize Wn.gt M i=q at hb2 dv rN rS
        obtain ⟨px,py'⟩:=p
        obtain ⟨qx,qy⟩:=q
        dsimp only at hb1 hb2 dv
        walk_at "rdf"
        refine rd_ixT (SqT.of hb1) (v:=.int px) rfl ?_
        walk_at "rdf"
        refine rd_ixT (SqT.of hb2) (v:=.int qx) rfl ?_
        walk_at "rdf"
        by_cases c:px=qx
        · rw [decide_eq_true c]
          rw [if_pos c] at dv
          rw [rS dv]
          generalize hmn:(if qy<py' then qy else py')=mn
          obtain ⟨kvs,g1,g2,g3,g4,g5,g6⟩:=rw2.ob
          walk_at "rdf"
          refine rd_dsetdK ?_
          walk_at "rdf"
          refine rd_isDK g1 ?_
          walk_at "rdf"
          refine rd_ixT (SqT.of hb1) (v:=.int py') rfl ?_
          walk_at "rdf"
          refine rd_ixT (SqT.of hb2) (v:=.int qy) rfl ?_
          walk_at "rdf"
          rw [hmn]
          refine ⟨by show 0≤sizeLine; decide,fun ln nln=>?_⟩
          have sln:=Same.new (o:=HO.lst []) nln
          have eln:=upd_same (H:=H2) (a:=ln) (o:=HO.lst [])
          generalize upd H2 ln (HO.lst [])=H3 at sln eln ⊢
          have s3:=s2.trans sln
          have rw3:=rw2.mono sln
          have g13:=sln _ _ g1
          have hln:H ln=none:=s2.free nln
          refine ⟨kvs,.inl mn,rfl,g13,Nat.lt_of_le_of_lt g2 (small1000' (by omega)),fun v hv=>?_,fun hv=>?_⟩
          · obtain ⟨y',l',ey,rfl,q1,q2,q3⟩:=g5 _ _ hv
            have ad:=rw3.add (x:=px) g13 hv
            refine rd_bmL ad.1 ?_
            walk_at "rdf"
            refine rd_ixT (SqT.of (sln _ _ hb1)) (v:=.int px) rfl ?_
            walk_at "rdf"
            refine rd_append ad.1 ?_ ?_
            · rw [List.length_map]
              have:=Wn.rwk_len M i mn
              exact small1000' (by omega)
            · exact ⟨rfl,s3.later q2,ad.2.le (by omega)⟩
          · have pt:=rw3.put g13 hv eln hln (fun z=>by rw [z,g1] at nln; cases nln) (fun k v hk e=>by
              obtain ⟨y',l',_,e2,_,_,q3⟩:=g5 k v hk
              rw [e2] at e
              injection e with e
              rw [← e,q3] at nln
              cases nln)
            have v4:valV (putK kvs (Sum.inl mn) (V.ref ln)) (.inl mn)=some (.ref ln):=by rw [valV_put,if_pos rfl]
            have eln4:upd H3 d (.dK (putK kvs (Sum.inl mn) (V.ref ln))) d=_:=upd_same
            have s4:Same H (upd H3 d (.dK (putK kvs (Sum.inl mn) (V.ref ln)))):=s3.later nd
            have hb14:upd H3 d (.dK (putK kvs (Sum.inl mn) (V.ref ln))) b1=_:=(upd_ne (ne_of (sln _ _ hb1) g13 (by intro z; cases z))).trans (sln _ _ hb1)
            generalize upd H3 d (.dK (putK kvs (Sum.inl mn) (V.ref ln)))=H4 at pt eln4 s4 hb14 ⊢
            have ad:=pt.add (x:=px) eln4 v4
            refine rd_bmL ad.1 ?_
            walk_at "rdf"
            refine rd_ixT (SqT.of hb14) (v:=.int px) rfl ?_
            walk_at "rdf"
            refine rd_append ad.1 ?_ ?_
            · rw [List.length_map]
              have:=Wn.rwk_len M i mn
              exact small1000' (by omega)
            · exact ⟨rfl,s4.later hln,ad.2⟩
        · rw [decide_eq_false c]
          rw [if_neg c] at dv
          rw [rN dv]
          walk_at "rdf"
          exact ⟨rfl,s2,rw2.le (by omega)⟩
      · rintro σ' H3 ⟨rfl,s3,rw3⟩
        exact ⟨_,_,_,rfl,s3,rw3⟩
    · rintro σ' H2 ⟨o2,o3,o4,rfl,s2,rw2⟩
      walk_at "rdf"
      refine k d H2 s2 ?_
      rw [ly,Wn.rwk_all] at rw2
      exact rw2.le (by omega)
end
section
variable {K:PySem.W.Frag} {σ:L2.St} {H:Hp} {Q:VK} {te:TE} {cap:List (Option Nat)} {l:Addr}
theorem compW_span {a b y:Int} (hz:(b - a).toNat≤5000) (hl:H l=none)
  (step:∀ (i:Nat) o H' (Q':VK),i<(b - a).toNat→Same H H'→(∀ c H5,Same H' H5→H5 c=some (.tup [.int (a+(i:Nat)),.int y])→Q' (.ref c) H5)→te (((capS (none::cap) σ).set 0 o).set 0 (some (.int (a+(i:Nat))))) H' Q')
  (fin:∀ ys H',Same H H'→H' l=some (.lst ys)→PwPt H' ys (Wn.span a b y)→Q (.ref l) H'):CompW (Itr a (b - a).toNat) (gName 0) tTrue te (none::cap) l σ H Q:=by
 have tk:∀ i,i<(b - a).toNat→(Wn.span a b y).take (i+1)=(Wn.span a b y).take i++[(a+((i:Nat):Int),y)]:=fun i hi=>by
  unfold Wn.span
  rw [List.take_add_one,List.getElem?_map,List.getElem?_range hi]
  rfl
 have ln:(Wn.span a b y).length=(b - a).toNat:=by unfold Wn.span; rw [List.length_map,List.length_range]
 refine ⟨(b - a).toNat,fun i ys σ' H'=>(∃ o,σ'=(capS (none::cap) σ).set 0 o)∧Same H H'∧H' l=some (.lst ys)∧PwPt H' ys ((Wn.span a b y).take i),⟨⟨none,rfl⟩,Same.new hl,upd_same,by rw [List.take_zero]; exact PwPt.nil⟩,?_,?_⟩
 ·rintro i ys σ' H' hi ⟨⟨o,rfl⟩,s,e,pz⟩
  refine ⟨hi,fun x H2 z=>?_⟩
  obtain ⟨e2,rfl⟩:=z
  subst e2
  refine rd_name (rd_true (iteT ?_))
  refine step i o H2 _ hi s fun c H5 s5 hc=>⟨s5 _ _ e,?_,?_⟩
  ·have:=pz.1
   rw [List.length_take,ln] at this
   exact Nat.lt_of_le_of_lt (show ys.length≤5000 by omega) (by decide)
  ·exact ⟨⟨_,List.set_set ..⟩,(s.trans s5).later hl,upd_same,by rw [tk i hi]; exact ((pz.mono s5).upd (s5 _ _ e) (by intro ys z; cases z)).snoc (Pt.upd (q:=(a+((i:Nat):Int),y)) ⟨c,rfl,hc⟩ (s5 _ _ e) (by intro ys z; cases z))⟩
 ·rintro ys σ' H' ⟨_,s,e,pz⟩
  rw [List.take_of_length_le (by rw [ln]; exact Nat.le_refl _)] at pz
  exact ⟨Nat.le_refl _,fin ys H' s e pz⟩
theorem PwPt.app {H:Hp}:∀ {xs ys:List V} {ps qs:List (Int×Int)},PwPt H xs ps→PwPt H ys qs→PwPt H (xs++ys) (ps++qs)
 | [],_,[],_,_,h=>h
 | [],_,_::_,_,h,_=>by have:=h.1; simp at this
 | _::_,_,[],_,h,_=>by have:=h.1; simp at this
 | x::xs,ys,p::ps,qs,h,h'=>by
  obtain ⟨v,r,e,h1,h2⟩:=h.inv
  cases e
  exact PwPt.cons h1 (PwPt.app h2 h')
end
section
variable {P:Program} {w:World} {K:PySem.W.Frag} {mg:Str→Option Value} {base:Heap} {t:Ad}
theorem rd_sortEx {K:PySem.W.Frag} {a:Addr} {xs:List V} {ps:List (Int×Int)} {H:Hp} {Q:VK} (e:H a=some (.lst xs)) (h:PwPt H xs ps)
  (k:∀ (l:Addr) (ys:List V) (qs:List (Int×Int)),H l=none→PwPt (L2.upd H l (.lst ys)) ys qs→qs.Perm ps→qs.Pairwise Ts.ple→Q (.ref l) (L2.upd H l (.lst ys))):rSort K [.ref a] H Q:=by
 refine rd_sortP (ptOf H) e (fun v hv=>h.mem v hv) fun l ys hn hp hw=>k l ys (ys.map (ptOf H)) hn ?_ ((hp.map (ptOf H)).trans (List.Perm.of_eq h.map)) (List.pairwise_map.mpr hw)
 exact PwPt.mono (Same.new hn) (pwpt_of fun v hv=>h.mem v (hp.mem_iff.mp hv))
structure InsL (M C:List (Int×Int)):Prop where
 so:C.Pairwise Ts.ple
 nd:C.Nodup
 ms:∀ q,q∈C↔Wn.ins M q=true
theorem InsL.uniq {M C C':List (Int×Int)} (h:InsL M C) (h':InsL M C'):C=C':=by
 refine perm_eq ?_ h.so h'.so
 exact (List.perm_ext_iff_of_nodup h.nd h'.nd).mpr fun q=>(h.ms q).trans (h'.ms q).symm
theorem ins_few {M l:List (Int×Int)} (c:Wn.Cyc M) (bx:∀ p∈M,(0≤p.1∧p.1≤40)∧0≤p.2∧p.2≤40) (nd:l.Nodup) (h:∀ q∈l,Wn.ins M q=true):l.length≤1600 :=
 Wn.nodup_few (n:=40) nd fun q hq=>by have:=c.box (x0:=0) (x1:=40) (y0:=0) (y1:=40) bx (h q hq); omega
def sp_inside:Sp:=fun vs H Q _=>∃ (l:Addr) (zs:List V) (M:List (Int×Int)),vs=[.ref l]∧H l=some (.lst zs)∧PwPt H zs M∧M.length≤1681∧Wn.Cyc M∧(∀ p∈M,(0≤p.1∧p.1≤40)∧0≤p.2∧p.2≤40) ∧
 ∀ l' ys C H',Same H H'→H l'=none→H' l'=some (.lst ys)→PwPt H' ys C→InsL M C→Q (.ref l') H'
theorem ok_inside (T:Txt K mg t):FnOk P w K mg base CX0 2 t.f_inside t.d_inside ["line"] sp_inside:=by
 have G_walls:=ok_walls (P:=P) (w:=w) (base:=base) T
 refine T.F_inside.ok sc_inside (fun vs H Q E h=>?_) (fun cdv A outer s H vs Q E hr h=>?_)
 ·obtain ⟨l,zs,M,rfl,_⟩:=h; rfl
 ·obtain ⟨l,zs,M,rfl,el,py,hz,cy,bx,k⟩:=h
  refine cutC (ps_set (i:=1) sc_inside.nd rfl (Or.inl rfl) (pe_lst pa_nil)) fun _ _=>cutC (ps_thaw (ps_for PassesOwn.never rfl (pi_items (pe_bm0 PySem.F.plainAttrs_dict PySem.F.slot_dict_items PySem.F.type_dict_items mt_items (pe_call G_walls (hr.mono (by first | decide | omega)) rfl T.mg_walls T.F_walls.kp T.b_walls .nil pass0 (pa_cons (pv 0) pa_nil)))) (pg_tupK (n:=2) K rfl rfl (pgs_cons (pg_name (i:=2) sc_inside.nd rfl (Or.inr rfl)) (pgs_cons (pg_name (i:=3) sc_inside.nd rfl (Or.inl rfl)) pgs_nil))) (pss_cons (ps_set (i:=4) sc_inside.nd rfl (Or.inl rfl) (pe_callB (cI_sortedK K rfl) rfl T.no_sorted (by rfl) (pa_cons (pv 3) pa_nil))) (pss_one (ps_for PassesOwn.never rfl (pi_range3 rfl T.no_range (pa_cons pe_int (pa_cons (pe_callB (cI_lenK K rfl) rfl T.no_len (by rfl) (pa_cons (pv 4) pa_nil)) (pa_cons pe_int pa_nil)))) (pg_name (i:=5) sc_inside.nd rfl (Or.inl rfl)) (pss_one (ps_expr (pe_bm PySem.F.plainAttrs_list PySem.F.slot_list_extend PySem.F.type_list_extend mt_extend (pv 1) (pa_cons (pe_comp (N:=["x","y"]) (cap:=[none,some 2]) rfl ⟨rfl,rfl,rfl,rfl,rfl,rfl⟩ (pi_range2 rfl T.no_range (pa_cons (pe_ix (ix_listK K rfl) (pv 4) (pv 5) (fun _ _=>rfl)) (pa_cons (pe_ix (ix_listK K rfl) (pv 4) (pe_op op_add (pv 5) pe_int) (fun _ _=>rfl)) pa_nil))) (fun _ _ _=>(pg_name (i:=0) (show (["x","y"]:List Str).Nodup by decide +kernel) rfl (Or.inl rfl))) (fun _ _ _=>pts_nil) (fun _ _ _=>(pe_tup (pa_cons (pv 0) (pa_cons (pv 1) pa_nil))))) pa_nil))))))))) fun _ _=>cutE (ps_ret (pe_callB (cI_sortedK K rfl) rfl T.no_sorted (by rfl) (pa_cons (pv 1) pa_nil))) fun _ _=>?_
  walk_at "rdf"
  refine ⟨by show 0≤sizeLine; decide,fun lf nlf=>?_⟩
  have slf:=Same.new (o:=HO.lst []) nlf
  have elf:=upd_same (H:=H) (a:=lf) (o:=HO.lst [])
  generalize upd H lf (HO.lst [])=H1 at slf elf ⊢
  walk_at "rdf"
  refine ⟨l,zs,M,rfl,slf _ _ el,py.mono slf,hz,fun d H2 s2 rw2=>?_⟩
  obtain ⟨kvs,g1,g2,g3,g4,g5,g6⟩:=rw2.ob
  have nd:H d=none:=slf.free rw2.nd
  have elf2:=s2 _ _ elf
  have s02:=slf.trans s2
  have dlf:d≠lf:=fun z=>by have:=rw2.nd; rw [z,elf] at this; cases this
  walk_at "rdf"
  refine rd_bmD g1 ?_
  refine rd_viewv g1 fun v nv=>?_
  have sv:=Same.new (o:=ViewO "dict_items" v d) nv
  have ev:=upd_same (H:=H2) (a:=v) (o:=ViewO "dict_items" v d)
  generalize upd H2 v (ViewO "dict_items" v d)=H3 at sv ev ⊢
  refine ⟨v,d,kvs,rfl,ev,sv _ _ g1,fun FF hFF=>?_⟩
  have m4:ButL [d,lf] H2 (upd H3 d FF):=fun b o e nb=>by rw [upd_ne (fun z=>nb (by simp [z]))]; exact sv _ _ e
  have s4:Same H (upd H3 d FF):=fun b o e=>by rw [upd_ne (ne_of_none e nd)]; exact sv _ _ (s02 _ _ e)
  have e4:=upd_same (H:=H3) (a:=d) (o:=FF)
  have l4:upd H3 d FF lf=some (.lst []):=by rw [upd_ne dlf.symm]; exact sv _ _ elf2
  have dF:∃ φ,FF=.ext φ:=hFF.ext
  generalize upd H3 d FF=H4 at m4 s4 e4 l4 ⊢
  refine forW_items (fun i σ' H'=>∃ (o2 o3 o4 o5:Option V) (xs:List V) (ps:List (Int×Int)),σ'=[some (.ref l),some (.ref lf),o2,o3,o4,o5]∧Same H H'∧ButL [d,lf] H2 H'∧H' d=some FF∧H' lf=some (.lst xs)∧PwPt H' xs ps∧ps.Nodup∧∀ q,q∈ps↔Wn.ins M q=true∧(Sum.inl q.2:Key)∈(kvs.take i).map (·.1))
   ⟨none,none,none,none,[],[],rfl,s4,m4,e4,l4,PwPt.nil,List.nodup_nil,fun q=>by simp⟩ ?_ ?_ ?_
  ·rintro i σ' H' _ ⟨_,_,_,_,_,_,rfl,_,_,e,_⟩
   exact e
  ·rintro i kk x b σ' H5 hk ⟨o2,o3,o4,o5,xs,ps,rfl,s5,m5,e5,l5,px,pnd,pms⟩ nb
   have hik:i<kvs.length:=(List.getElem?_eq_some_iff.mp hk).1
   obtain ⟨y,ll,rfl,rfl,q1,q2,q3⟩:=g5 _ _ (valV_at g3 hk)
   have tki:(kvs.take (i+1)).map (·.1)=(kvs.take i).map (·.1)++[.inl y]:=by rw [List.take_add_one,hk,List.map_append]; rfl
   have nyk:(Sum.inl y:Key)∉(kvs.take i).map (·.1):=fun z=>by
    have h1:((kvs.take (i+1)).map (·.1)).Nodup:=g3.sublist (List.Sublist.map _ (List.take_sublist _ _))
    rw [tki,List.nodup_append] at h1
    exact h1.2.2 _ z _ (by simp) rfl
   rw [show kV (Sum.inl y)=V.int y from rfl]
   have s6:=Same.new (o:=HO.tup [V.int y,V.ref ll]) nb
   have e6:=upd_same (H:=H5) (a:=b) (o:=HO.tup [V.int y,V.ref ll])
   generalize upd H5 b (HO.tup [V.int y,V.ref ll])=H6 at s6 e6 ⊢
   have llf:ll≠lf:=fun z=>by rw [z,elf] at q2; cases q2
   have hll5:H5 ll=some (.lst ((Wn.rw M y).map V.int)):=m5 _ _ q3 (by simp only [List.mem_cons,List.not_mem_nil,or_false]; exact fun z=>z.elim q1 llf)
   refine rd_gtup e6 rfl ?_
   walk_at "rdf"
   refine rd_sortI (s6 _ _ hll5) fun lm ms nm pm pw=>?_
   obtain ⟨slt,sev,scl⟩:=cy.row pm pw
   have lmf:lm≠lf:=fun z=>by rw [z,s6 _ _ l5] at nm; cases nm
   have s7:=s6.trans (Same.new (o:=HO.lst (ms.map V.int)) nm)
   have e7:=upd_same (H:=H6) (a:=lm) (o:=HO.lst (ms.map V.int))
   generalize upd H6 lm (HO.lst (ms.map V.int))=H7 at s7 e7 ⊢
   have cyb:∀ q∈ps++Wn.cl y ms,Wn.ins M q=true:=fun q hq=>by
    rcases List.mem_append.mp hq with z | z
    ·exact ((pms q).mp z).1
    ·exact ((scl q).mp z).2
   have cyn:(ps++Wn.cl y ms).Nodup:=by
    rw [List.nodup_append]
    refine ⟨pnd,Wn.cl_nd y slt,fun p hp q hq z=>?_⟩
    subst z
    have h1:=((pms p).mp hp).2
    rw [((scl p).mp hq).1] at h1
    exact nyk h1
   have bnd:∀ j,(ps++Wn.cl y (ms.take (2*j))).length≤1600:=fun j=>by
    obtain ⟨r,e⟩:=Wn.cl_pre y j ms
    have h1:(ps++Wn.cl y (ms.take (2*j))).Nodup:=by
     rw [e,← List.append_assoc] at cyn
     exact (List.nodup_append.mp cyn).1
    refine ins_few cy bx h1 fun q hq=>cyb q ?_
    rw [e,← List.append_assoc]
    exact List.mem_append_left _ hq
   have lms:ms.length≤1681:=by rw [pm.length_eq]; have:=Wn.rwk_len M M.length y; rw [Wn.rwk_all] at this; omega
   walk_at "rdf"
   refine rd_lenL e7 ?_
   rw [List.length_map]
   walk_at "rdf"
   refine ⟨_,_,rfl,by omega,by omega,by omega,?_⟩
   have c2:cnt2 0 ((ms.length:Nat):Int)*2=ms.length:=by unfold cnt2; omega
   refine forW_range2 (fun j σ' H'=>∃ (o5:Option V) (xs:List V),σ'=[some (.ref l),some (.ref lf),some (.int y),some (.ref ll),some (.ref lm),o5]∧Same H H'∧ButL [d,lf] H2 H'∧H' d=some FF∧H' lm=some (.lst (ms.map V.int))∧H' lf=some (.lst xs)∧PwPt H' xs (ps++Wn.cl y (ms.take (2*j))))
    ⟨o5,xs,rfl,s5.trans s7,m5.trans (s7.butL _),s7 _ _ e5,e7,s7 _ _ l5,by rw [Nat.mul_zero,List.take_zero,show Wn.cl y []=[] from rfl,List.append_nil]; exact px.mono s7⟩ ?_ ?_
   ·rintro j σ' H8 hj ⟨o5,xs,rfl,s8,m8,e8,lm8,l8,px8⟩
    have hj1:2*j+1<ms.length:=by omega
    obtain ⟨ma,hma⟩:∃ ma,ms[2*j]?=some ma:=⟨_,List.getElem?_eq_getElem (by omega)⟩
    obtain ⟨mb,hmb⟩:∃ mb,ms[2*j+1]?=some mb:=⟨_,List.getElem?_eq_getElem hj1⟩
    have ia:atI (ms.map V.int) (0+((j:Nat):Int)*2)=some (.int ma):=by
     rw [show 0+((j:Nat):Int)*2=((2*j:Nat):Int) by omega]
     exact atI_nat (by rw [List.getElem?_map,hma]; rfl)
    have ib:atI (ms.map V.int) (0+((j:Nat):Int)*2+1)=some (.int mb):=by
     rw [show 0+((j:Nat):Int)*2+1=((2*j+1:Nat):Int) by omega]
     exact atI_nat (by rw [List.getElem?_map,hmb]; rfl)
    have rM:∀ z∈ms,0≤z∧z≤40:=fun z hz=>by
     have h1:=(cy.ends (Wn.mem_rw.mp (pm.mem_iff.mp hz))).1
     exact (bx _ h1).1
    have ra:=rM ma (List.mem_of_getElem? hma)
    have rb:=rM mb (List.mem_of_getElem? hmb)
    walk_at "rdf"
    refine rd_bmL l8 ?_
    walk_at "rdf"
    refine rd_rng2 ?_
    walk_at "rdf"
    refine rd_ixL (SqL.of lm8) ia ?_
    walk_at "rdf"
    refine rd_ixL (SqL.of lm8) ib ?_
    walk_at "rdf"
    refine ⟨_,_,rfl,⟨by omega,by omega,by omega,by omega⟩,fun lc nc=>?_⟩
    refine compW_span (y:=y) (by omega) nc (fun i' o H' Q' _ s9 q=>?_) fun ys H9 s9 e9 py9=>?_
    ·walk_at "rdf"
     refine ⟨by show 2≤sizeLine; decide,fun c nc=>?_⟩
     have sc:=Same.new (o:=HO.tup [V.int (ma+(i':Nat)),V.int y]) nc
     have ec:=upd_same (H:=H') (a:=c) (o:=HO.tup [V.int (ma+(i':Nat)),V.int y])
     generalize upd H' c (HO.tup [V.int (ma+(i':Nat)),V.int y])=H5 at sc ec ⊢
     exact q c H5 sc ec
    ·walk_at "rdf"
     have l9:=s9 _ _ l8
     have lcf:lc≠lf:=fun z=>by rw [z,l8] at nc; cases nc
     have bj:=bnd (j+1)
     rw [Wn.cl_take y j hma hmb,← List.append_assoc] at bj
     have px9:=(px8.mono s9).app py9
     refine ⟨lf,lc,xs,ys,rfl,rfl,l9,e9,?_,?_⟩
     ·have h1:=px9.1
      rw [List.length_append] at h1
      exact Nat.le_of_lt (small1000' (by omega))
     ·have mu:ButL [d,lf] H9 (upd H9 lf (.lst (xs++ys))):=(ButL.refl _ _).upd (by simp)
      refine ⟨_,_,rfl,(s8.trans s9).later nlf,(m8.trans (s9.butL _)).trans mu,?_,?_,upd_same,?_⟩
      ·rw [upd_ne dlf]; exact s9 _ _ e8
      ·rw [upd_ne lmf]; exact s9 _ _ lm8
      ·rw [Wn.cl_take y j hma hmb,← List.append_assoc]
       exact px9.upd l9 (by intro ys z; cases z)
   ·rintro σ' H8 ⟨o5,xs,rfl,s8,m8,e8,lm8,l8,px8⟩
    rw [show 2*cnt2 0 ((ms.length:Nat):Int)=ms.length by omega,List.take_of_length_le (Nat.le_refl _)] at px8
    refine ⟨_,_,_,_,xs,_,rfl,s8,m8,e8,l8,px8,cyn,fun q=>?_⟩
    rw [List.mem_append,pms,scl,tki,List.mem_append,List.mem_singleton]
    constructor
    ·rintro (⟨h1,h2⟩ | ⟨h1,h2⟩)
     ·exact ⟨h1,.inl h2⟩
     ·exact ⟨h2,.inr (by rw [h1])⟩
    ·rintro ⟨h1,h2 | h2⟩
     ·exact .inl ⟨h1,h2⟩
     ·exact .inr ⟨by injection h2,h1⟩
  ·rintro σ' H5 ⟨o2,o3,o4,o5,xs,ps,rfl,s5,m5,e5,l5,px,pnd,pms⟩
   refine ⟨_,⟨d,kvs,FF,hFF,e5,rfl⟩,?_⟩
   have s6:Same H (upd H5 d (.dK kvs)):=s5.later nd
   have l6:upd H5 d (.dK kvs) lf=some (.lst xs):=by rw [upd_ne dlf.symm]; exact l5
   have px6:=px.upd (o:=.dK kvs) e5 (by obtain ⟨φ,rfl⟩:=dF; intro ys z; cases z)
   generalize upd H5 d (.dK kvs)=H6 at s6 l6 px6 ⊢
   walk_at "rdf"
   refine rd_sortEx l6 px6 fun l' ys qs nl' py' pq sq=>?_
   walk_at "rdf"
   refine k l' ys qs _ (s6.later (s6.free nl')) (s6.free nl') upd_same py' ⟨sq,pq.nodup_iff.mpr pnd,fun q=>?_⟩
   rw [pq.mem_iff,pms]
   refine ⟨fun h=>h.1,fun h=>⟨h,?_⟩⟩
   rw [List.take_of_length_le (Nat.le_refl _)]
   obtain ⟨a,_,ha,_⟩:=cy.between h
   have hr:=Wn.mem_rw.mpr ha
   by_cases hv:valV kvs (.inl q.2)=none
   ·rw [g4 _ hv] at hr; cases hr
   ·exact valV_mem.mp (by cases e:valV kvs (.inl q.2) with | none=>exact absurd e hv | some z=>rfl)
def sp_area:Sp:=fun vs H Q _=>∃ (l:Addr) (zs:List V) (M:List (Int×Int)),vs=[.ref l]∧H l=some (.lst zs)∧PwPt H zs M∧M.length≤1681∧Wn.Cyc M∧(∀ p∈M,(0≤p.1∧p.1≤40)∧0≤p.2∧p.2≤40) ∧
 ∀ C H',Same H H'→InsL M C→Q (.int (C.length:Nat)) H'
theorem ok_area (T:Txt K mg t):FnOk P w K mg base CX0 3 t.f_area t.d_area ["line"] sp_area:=by
 have G_inside:=ok_inside (P:=P) (w:=w) (base:=base) T
 refine T.F_area.ok sc_area (fun vs H Q E h=>?_) (fun cdv A outer s H vs Q E hr h=>?_)
 ·obtain ⟨l,zs,M,rfl,_⟩:=h; rfl
 ·obtain ⟨l,zs,M,rfl,el,py,hz,cy,bx,k⟩:=h
  refine ⟨_,(pss_one (ps_ret (pe_callB (cI_lenK K rfl) rfl T.no_len (by rfl) (pa_cons (pe_call G_inside (hr.mono (by first | decide | omega)) rfl T.mg_inside T.F_inside.kp T.b_inside .nil pass0 (pa_cons (pv 0) pa_nil)) pa_nil)))),?_⟩
  walk_at "rdf"
  refine ⟨l,zs,M,rfl,el,py,hz,cy,bx,fun l' ys C H' s1 _ e1 p1 ic=>?_⟩
  walk_at "rdf"
  refine rd_lenL e1 ?_
  walk_at "rdf"
  rw [p1.1]
  exact k C H' s1 ic
end
section
variable {K:PySem.W.Frag} {σ:L2.St} {H:Hp} {Q:VK} {te:TE} {cap:List (Option Nat)} {l:Addr}
theorem compW_ptsI {a:Addr} {xs:List V} {ps:List (Int×Int)} (g:Int×Int→Int) (hs:SqL K H a xs) (pw:PwPt H xs ps) (hz:xs.length≤5000) (hl:H l=none)
  (step:∀ q o1 o2 H' (Q':VK),q∈ps→Same H H'→Q' (.int (g q)) H'→te (((((capS (none::none::cap) σ).set 0 o1).set 1 o2).set 0 (some (.int q.1))).set 1 (some (.int q.2))) H' Q')
  (fin:∀ H',Same H H'→H' l=some (.lst ((ps.map g).map V.int))→Q (.ref l) H'):CompW (Itl K a) (gTup K 2 (gCons (gName 0) (gCons (gName 1) gNil))) tTrue te (none::none::cap) l σ H Q:=by
 refine ⟨xs.length,fun i zs σ' H'=>zs=((ps.map g).map V.int).take i∧(∃ o1 o2,σ'=((capS (none::none::cap) σ).set 0 o1).set 1 o2)∧Same H H'∧H' l=some (.lst zs),⟨rfl,⟨none,none,rfl⟩,Same.new hl,upd_same⟩,?_,?_⟩
 ·rintro i zs σ' H' hi ⟨rfl,⟨o1,o2,rfl⟩,s,e⟩
  refine ⟨⟨xs,xs[i],s.seq hs,by simp [hi]⟩,fun x H2 y=>?_⟩
  obtain ⟨e2,y⟩:=y
  subst e2
  have hx:=y xs (s.seq hs)
  have hip:i<ps.length:=by rw [← pw.1]; exact hi
  obtain ⟨b,rfl,hb⟩:=pw.2 i x _ hx (List.getElem?_eq_getElem hip)
  have hl2:i<((ps.map g).map V.int).length:=by rw [List.length_map,List.length_map]; exact hip
  refine rd_gtup (s _ _ hb) rfl ?_
  refine rd_gcons (rd_name (rd_gcons (rd_name (rd_gnil ?_))))
  refine rd_true (iteT ?_)
  refine step ps[i] o1 o2 H2 _ (List.getElem_mem hip) s ⟨e,?_,?_⟩
  ·rw [List.length_take]
   exact Nat.lt_of_le_of_lt (show min i _≤5000 by omega) (by decide)
  ·refine ⟨?_,⟨some _,some _,rfl⟩,s.later hl,upd_same⟩
   rw [List.take_add_one,List.getElem?_eq_getElem hl2]
   simp
 ·rintro zs σ' H' ⟨rfl,_,s,e⟩
  rw [List.take_of_length_le (by rw [List.length_map,List.length_map,pw.1]; exact Nat.le_refl _)] at e
  exact ⟨⟨xs,s.seq hs,Nat.le_refl _⟩,fin H' s e⟩
end
section
variable {P:Program} {w:World} {K:PySem.W.Frag} {mg:Str→Option Value} {base:Heap} {t:Ad}
def sp_Lpatch:Sp:=fun vs H Q _=>∃ (l:Addr) (zs:List V) (M:List (Int×Int)),vs=[.ref l]∧H l=some (.lst zs)∧PwPt H zs M∧M.length≤1681∧Wn.Cyc M∧(∀ p∈M,(0≤p.1∧p.1≤40)∧0≤p.2∧p.2≤40) ∧
 ∀ l' ys C H',Same H H'→H l'=none→H' l'=some (.lst ys)→PwPt H' ys C→InsL M C→Q (.ref l') H'
theorem ok_Lpatch (T:Txt K mg t):FnOk P w K mg base CX0 2 t.f_Lpatch t.d_Lpatch ["_law_line"] sp_Lpatch:=by
 refine T.F_Lpatch.ok sc_Lpatch (fun vs H Q E h=>?_) (fun cdv A outer s H vs Q E hr h=>?_)
 ·obtain ⟨l,zs,M,rfl,_⟩:=h; rfl
 ·obtain ⟨l,zs,M,rfl,el,py,hz,cy,bx,k⟩:=h
  have ly:=py.1
  have l3:=cy.len
  have ne1:M.map (·.1)≠[]:=fun e=>by have:=List.map_eq_nil_iff.mp e; rw [this] at l3; simp at l3
  have ne2:M.map (·.2)≠[]:=fun e=>by have:=List.map_eq_nil_iff.mp e; rw [this] at l3; simp at l3
  refine cutC (ps_set (i:=1) sc_Lpatch.nd rfl (Or.inl rfl) (pe_callB (cI_minIK K rfl rfl) rfl T.no_min (by rfl) (pa_cons (pe_comp (N:=["_law_x","_law_y"]) (cap:=[none,none]) rfl ⟨rfl,rfl,rfl,rfl,rfl,rfl⟩ (pi_list (pv 0)) (fun _ _ _=>(pg_tupK (n:=2) K rfl rfl (pgs_cons (pg_name (i:=0) (show (["_law_x","_law_y"]:List Str).Nodup by decide +kernel) rfl (Or.inl rfl)) (pgs_cons (pg_name (i:=1) (show (["_law_x","_law_y"]:List Str).Nodup by decide +kernel) rfl (Or.inl rfl)) pgs_nil)))) (fun _ _ _=>pts_nil) (fun _ _ _=>(pv 0))) pa_nil))) fun _ _=>cutC (ps_set (i:=2) sc_Lpatch.nd rfl (Or.inl rfl) (pe_callB (cI_maxIK K rfl rfl) rfl T.no_max (by rfl) (pa_cons (pe_comp (N:=["_law_x","_law_y"]) (cap:=[none,none]) rfl ⟨rfl,rfl,rfl,rfl,rfl,rfl⟩ (pi_list (pv 0)) (fun _ _ _=>(pg_tupK (n:=2) K rfl rfl (pgs_cons (pg_name (i:=0) (show (["_law_x","_law_y"]:List Str).Nodup by decide +kernel) rfl (Or.inl rfl)) (pgs_cons (pg_name (i:=1) (show (["_law_x","_law_y"]:List Str).Nodup by decide +kernel) rfl (Or.inl rfl)) pgs_nil)))) (fun _ _ _=>pts_nil) (fun _ _ _=>(pv 0))) pa_nil))) fun _ _=>cutC (ps_set (i:=3) sc_Lpatch.nd rfl (Or.inl rfl) (pe_callB (cI_minIK K rfl rfl) rfl T.no_min (by rfl) (pa_cons (pe_comp (N:=["_law_x","_law_y"]) (cap:=[none,none]) rfl ⟨rfl,rfl,rfl,rfl,rfl,rfl⟩ (pi_list (pv 0)) (fun _ _ _=>(pg_tupK (n:=2) K rfl rfl (pgs_cons (pg_name (i:=0) (show (["_law_x","_law_y"]:List Str).Nodup by decide +kernel) rfl (Or.inl rfl)) (pgs_cons (pg_name (i:=1) (show (["_law_x","_law_y"]:List Str).Nodup by decide +kernel) rfl (Or.inl rfl)) pgs_nil)))) (fun _ _ _=>pts_nil) (fun _ _ _=>(pv 1))) pa_nil))) fun _ _=>cutC (ps_set (i:=4) sc_Lpatch.nd rfl (Or.inl rfl) (pe_callB (cI_maxIK K rfl rfl) rfl T.no_max (by rfl) (pa_cons (pe_comp (N:=["_law_x","_law_y"]) (cap:=[none,none]) rfl ⟨rfl,rfl,rfl,rfl,rfl,rfl⟩ (pi_list (pv 0)) (fun _ _ _=>(pg_tupK (n:=2) K rfl rfl (pgs_cons (pg_name (i:=0) (show (["_law_x","_law_y"]:List Str).Nodup by decide +kernel) rfl (Or.inl rfl)) (pgs_cons (pg_name (i:=1) (show (["_law_x","_law_y"]:List Str).Nodup by decide +kernel) rfl (Or.inl rfl)) pgs_nil)))) (fun _ _ _=>pts_nil) (fun _ _ _=>(pv 1))) pa_nil))) fun _ _=>cutC (ps_set (i:=5) sc_Lpatch.nd rfl (Or.inl rfl) pe_dnewT) fun _ _=>cutC (ps_for PassesOwn.never rfl (pi_range1 rfl T.no_range (pa_cons (pe_callB (cI_lenK K rfl) rfl T.no_len (by rfl) (pa_cons (pv 0) pa_nil)) pa_nil)) (pg_name (i:=6) sc_Lpatch.nd rfl (Or.inl rfl)) (pss_one (ps_join (ps_if (pt_cmpR op_eq (pe_ix (ix_tupK K rfl) (pe_ix (ix_listK K rfl) (pv 0) (pv 6) (fun _ _=>rfl)) pe_int (fun _ _=>rfl)) (pe_ix (ix_tupK K rfl) (pe_ix (ix_listK K rfl) (pv 0) (pe_op op_sub (pv 6) pe_int) (fun _ _=>rfl)) pe_int (fun _ _=>rfl)) (nomark _)) (pss_one (ps_dput (hu_of hr) (pv 5) (pe_tup (pa_cons (pe_ix (ix_tupK K rfl) (pe_ix (ix_listK K rfl) (pv 0) (pv 6) (fun _ _=>rfl)) pe_int (fun _ _=>rfl)) (pa_cons (pe_callB (cI_min2 rfl) rfl T.no_min (by rfl) (pa_cons (pe_ix (ix_tupK K rfl) (pe_ix (ix_listK K rfl) (pv 0) (pv 6) (fun _ _=>rfl)) pe_int (fun _ _=>rfl)) (pa_cons (pe_ix (ix_tupK K rfl) (pe_ix (ix_listK K rfl) (pv 0) (pe_op op_sub (pv 6) pe_int) (fun _ _=>rfl)) pe_int (fun _ _=>rfl)) pa_nil))) pa_nil))) pe_bl rfl)) pss_nil)))) fun _ _=>cutC (ps_set (i:=7) sc_Lpatch.nd rfl (Or.inl rfl) (pe_lst pa_nil)) fun _ _=>cutC (ps_for PassesOwn.never rfl (pi_range2 rfl T.no_range (pa_cons (pv 3) (pa_cons (pv 4) pa_nil))) (pg_name (i:=8) sc_Lpatch.nd rfl (Or.inl rfl)) (pss_cons (ps_set (i:=9) sc_Lpatch.nd rfl (Or.inl rfl) pe_bl) (pss_one (ps_for PassesOwn.never rfl (pi_range2 rfl T.no_range (pa_cons (pv 1) (pa_cons (pv 2) pa_nil))) (pg_name (i:=10) sc_Lpatch.nd rfl (Or.inl rfl)) (pss_cons (ps_set (i:=9) sc_Lpatch.nd rfl (Or.inl rfl) (pe_cmpR op_ne (pv 9) (pe_cmp (pc_din (hu_of hr) (pe_tup (pa_cons (pv 10) (pa_cons (pv 8) pa_nil))) (pv 5))) (nomark _))) (pss_one (ps_join (ps_if (pt_val (pv 9)) (pss_one (ps_expr (pe_bm PySem.F.plainAttrs_list PySem.F.slot_list_append PySem.F.type_list_append mt_append (pv 7) (pa_cons (pe_tup (pa_cons (pv 10) (pa_cons (pv 8) pa_nil))) pa_nil)))) pss_nil)))))))) fun _ _=>cutE (ps_ret (pe_callB (cI_sortedK K rfl) rfl T.no_sorted (by rfl) (pa_cons (pv 7) pa_nil))) fun _ _=>?_
  walk_at "rdf"
  refine ⟨⟨_,SqL.of el⟩,fun la na=>?_⟩
  refine compW_ptsI (·.1) (SqL.of el) py (by omega) na (fun q o1 o2 H' Q' _ _ q'=>?_) fun H1 s1 e1=>?_
  ·walk_at "rdf"
   exact q'
  walk_at "rdf"
  refine rd_best e1 ne1 fun x0 a1 a2=>?_
  walk_at "rdf"
  refine ⟨⟨_,SqL.of (s1 _ _ el)⟩,fun lb nb'=>?_⟩
  refine compW_ptsI (·.1) (SqL.of (s1 _ _ el)) (py.mono s1) (by omega) nb' (fun q o1 o2 H' Q' _ _ q'=>?_) fun H2 s2 e2=>?_
  ·walk_at "rdf"
   exact q'
  have s2:=s1.trans s2
  walk_at "rdf"
  refine rd_best e2 ne1 fun x1 b1 b2=>?_
  walk_at "rdf"
  refine ⟨⟨_,SqL.of (s2 _ _ el)⟩,fun lc nc=>?_⟩
  refine compW_ptsI (·.2) (SqL.of (s2 _ _ el)) (py.mono s2) (by omega) nc (fun q o1 o2 H' Q' _ _ q'=>?_) fun H3 s3 e3=>?_
  ·walk_at "rdf"
   exact q'
  have s3:=s2.trans s3
  walk_at "rdf"
  refine rd_best e3 ne2 fun y0 c1 c2=>?_
  walk_at "rdf"
  refine ⟨⟨_,SqL.of (s3 _ _ el)⟩,fun ld nd'=>?_⟩
  refine compW_ptsI (·.2) (SqL.of (s3 _ _ el)) (py.mono s3) (by omega) nd' (fun q o1 o2 H' Q' _ _ q'=>?_) fun H4 s4 e4=>?_
  ·walk_at "rdf"
   exact q'
  have s4:=s3.trans s4
  walk_at "rdf"
  refine rd_best e4 ne2 fun y1 d1 d2=>?_
  have bx':∀ p∈M,(x0≤p.1∧p.1≤x1)∧y0≤p.2∧p.2≤y1:=fun p hp=>by
   have h1:=a2 _ (List.mem_map.mpr ⟨p,hp,rfl⟩)
   have h2:=b2 _ (List.mem_map.mpr ⟨p,hp,rfl⟩)
   have h3:=c2 _ (List.mem_map.mpr ⟨p,hp,rfl⟩)
   have h4:=d2 _ (List.mem_map.mpr ⟨p,hp,rfl⟩)
   simp at h1 h2 h3 h4
   omega
  have bb:(0≤x0∧x0≤40)∧(0≤x1∧x1≤40)∧(0≤y0∧y0≤40)∧0≤y1∧y1≤40:=by
   obtain ⟨p1,hp1,z1⟩:=List.mem_map.mp a1
   obtain ⟨p2,hp2,z2⟩:=List.mem_map.mp b1
   obtain ⟨p3,hp3,z3⟩:=List.mem_map.mp c1
   obtain ⟨p4,hp4,z4⟩:=List.mem_map.mp d1
   have:=bx p1 hp1
   have:=bx p2 hp2
   have:=bx p3 hp3
   have:=bx p4 hp4
   omega
  clear a1 a2 b1 b2 c1 c2 d1 d2 e1 e2 e3 e4 s1 s2 s3
  walk_at "rdf"
  intro d nd
  have nd0:H d=none:=s4.free nd
  have s5:=s4.trans (Same.new (o:=HO.dT []) nd)
  have e5:=upd_same (H:=H4) (a:=d) (o:=HO.dT [])
  generalize upd H4 d (HO.dT [])=H5 at s5 e5 ⊢
  walk_at "rdf"
  refine rd_lenL (s5 _ _ el) ?_
  refine ⟨_,rfl,by omega,by omega,?_⟩
  rw [Int.toNat_natCast]
  refine forW_range (fun i σ' H'=>∃ (o6:Option V) (kvs:List (List Key×V)),σ'=[some (.ref l),some (.int x0),some (.int x1),some (.int y0),some (.int y1),some (.ref d),o6,none,none,none,none]∧Same H H'∧H' d=some (.dT kvs)∧KeysAre kvs (Wn.Wk M i)) ⟨none,[],rfl,s5,e5,rfl⟩ ?_ ?_
  ·rintro i σ' H6 hi ⟨o6,kvs,rfl,s6,e6,ke6⟩
   rw [Int.zero_add]
   have el6:=s6 _ _ el
   have hp:Wn.pv zs.length i<zs.length:=Wn.pv_lt hi
   obtain ⟨b1,eb1,hb1⟩:=py.2 _ _ _ (List.getElem?_eq_getElem hp) (List.getElem?_eq_getElem (by omega))
   obtain ⟨b2,eb2,hb2⟩:=py.2 _ _ _ (List.getElem?_eq_getElem hi) (List.getElem?_eq_getElem (show i<M.length by omega))
   have g1:=Wn.gt_eq (List.getElem?_eq_getElem (show Wn.pv zs.length i<M.length by omega))
   have g2:=Wn.gt_eq (List.getElem?_eq_getElem (show i<M.length by omega))
   rw [← g1] at hb1
   rw [← g2] at hb2
   rw [ly] at hb1
   have hb1:=s6 _ _ hb1
   have hb2:=s6 _ _ hb2
   have a1:atI zs ((i:Int) - 1)=some (.ref b1):=by rw [atI_prev hi,List.getElem?_eq_getElem hp,eb1]
   have a2:atI zs ((i:Nat):Int)=some (.ref b2):=atI_nat (by rw [List.getElem?_eq_getElem hi,eb2])
   clear g1 g2 eb1 eb2
   walk_at "rdf"
   refine rd_join (fun σ' H'=>∃ (kvs:List (List Key×V)),σ'=[some (.ref l),some (.int x0),some (.int x1),some (.int y0),some (.int y1),some (.ref d),some (.int (i:Nat)),none,none,none,none]∧Same H H'∧H' d=some (.dT kvs)∧KeysAre kvs (Wn.Wk M (i+1))) ?_ ?_
   ·have dv:Wn.vw (Wn.gt M (Wn.pv M.length i)) (Wn.gt M i)=if (Wn.gt M (Wn.pv M.length i)).1=(Wn.gt M i).1 then some ((Wn.gt M (Wn.pv M.length i)).1,if (Wn.gt M i).2<(Wn.gt M (Wn.pv M.length i)).2 then (Wn.gt M i).2 else (Wn.gt M (Wn.pv M.length i)).2) else none:=rfl
    have rN:=Wn.Wk_none (M:=M) (k:=i)
    have rS:=fun {q:Int×Int}=>Wn.Wk_some (M:=M) (k:=i) (q:=q)
    have rF:=fun {q:Int×Int}=>cy.fresh (k:=i) (by omega) (q:=q)
    generalize Wn.gt M (Wn.pv M.length i)=p at hb1 dv rN rS rF
    generalize Wn.gt M i=q at hb2 dv rN rS rF
    obtain ⟨px,py'⟩:=p
    obtain ⟨qx,qy⟩:=q
    dsimp only at hb1 hb2 dv
    walk_at "rdf"
    refine rd_ixL (SqL.of el6) a2 ?_
    walk_at "rdf"
    refine rd_ixT (SqT.of hb2) (v:=.int qx) rfl ?_
    walk_at "rdf"
    refine rd_ixL (SqL.of el6) a1 ?_
    walk_at "rdf"
    refine rd_ixT (SqT.of hb1) (v:=.int px) rfl ?_
    walk_at "rdf"
    by_cases c:qx=px
    ·rw [decide_eq_true c]
     rw [if_pos c.symm] at dv
     have emn:(if py'<qy then py' else qy)=(if qy<py' then qy else py'):=by split<;>split<;>omega
     walk_at "rdf"
     refine rd_ixL (SqL.of el6) a2 ?_
     walk_at "rdf"
     refine rd_ixT (SqT.of hb2) (v:=.int qx) rfl ?_
     walk_at "rdf"
     refine rd_ixL (SqL.of el6) a2 ?_
     walk_at "rdf"
     refine rd_ixT (SqT.of hb2) (v:=.int qy) rfl ?_
     walk_at "rdf"
     refine rd_ixL (SqL.of el6) a1 ?_
     walk_at "rdf"
     refine rd_ixT (SqT.of hb1) (v:=.int py') rfl ?_
     walk_at "rdf"
     rw [emn]
     generalize (if qy<py' then qy else py')=mn at dv
     refine ⟨by show 2≤sizeLine; decide,fun tk ntk=>?_⟩
     have stk:=Same.new (o:=HO.tup [V.int qx,V.int mn]) ntk
     have etk:=upd_same (H:=H6) (a:=tk) (o:=HO.tup [V.int qx,V.int mn])
     generalize upd H6 tk (HO.tup [V.int qx,V.int mn])=H7 at stk etk ⊢
     have e7:=stk _ _ e6
     subst c
     refine ⟨d,_,rfl,DPut.t (k:=ky (qx,mn)) e7 etk ?_,?_⟩
     ·have h1:=ke6.len
      have h2:=Wn.Wk_len M i
      exact small1000' (by omega)
     ·rw [rS dv]
      exact ⟨_,rfl,(s6.trans stk).later nd0,upd_same,ke6.put (rF dv)⟩
    ·rw [decide_eq_false c]
     rw [if_neg (fun z=>c z.symm)] at dv
     rw [rN dv]
     walk_at "rdf"
     exact ⟨kvs,rfl,s6,e6,ke6⟩
   ·rintro σ' H7 ⟨kvs,rfl,s7,e7,ke7⟩
    exact ⟨_,kvs,rfl,s7,e7,ke7⟩
  ·rintro σ' H6 ⟨o6,kvs,rfl,s6,e6,ke6⟩
   rw [ly,Wn.Wk_all] at ke6
   walk_at "rdf"
   refine ⟨by show 0≤sizeLine; decide,fun lf nlf=>?_⟩
   have slf:=Same.new (o:=HO.lst []) nlf
   have elf:=upd_same (H:=H6) (a:=lf) (o:=HO.lst [])
   generalize upd H6 lf (HO.lst [])=H7 at slf elf ⊢
   have nlf0:H lf=none:=s6.free nlf
   have s7:=s6.trans slf
   have e7:=slf _ _ e6
   have dlf:d≠lf:=ne_of_none e6 nlf
   walk_at "rdf"
   refine rd_rng2 ?_
   walk_at "rdf"
   refine ⟨_,_,rfl,⟨by omega,by omega,by omega,by omega⟩,?_⟩
   have few:∀ (b a:Int) (w h n:Nat) (y':Int),y'=b+((h:Nat):Int)→(Wn.patc M b a w h++Wn.rowc M y' a n).length≤1600:=fun b a w h n y' hy=>by
    refine ins_few cy bx ?_ fun q hq=>?_
    ·rw [List.nodup_append]
     refine ⟨Wn.patc_nd _ _ _ _ _,Wn.rowc_nd _ _ _ _,fun p hp q hq z=>?_⟩
     subst z
     have h1:=Wn.mem_patc.mp hp
     have h2:=Wn.mem_rowc.mp hq
     omega
    ·rcases List.mem_append.mp hq with z | z
     ·exact (Wn.mem_patc.mp z).2.2
     ·exact (Wn.mem_rowc.mp z).2.2.2
   refine forW_range (fun i σ' H'=>∃ (o8 o9 o10:Option V) (xs:List V),σ'=[some (.ref l),some (.int x0),some (.int x1),some (.int y0),some (.int y1),some (.ref d),o6,some (.ref lf),o8,o9,o10]∧Same H H'∧H' d=some (.dT kvs)∧H' lf=some (.lst xs)∧PwPt H' xs (Wn.patc M y0 x0 (x1 - x0).toNat i))
    ⟨none,none,none,[],rfl,s7,e7,elf,PwPt.nil⟩ ?_ ?_
   ·rintro i σ' H8 hi ⟨o8,o9,o10,xs,rfl,s8,e8,l8,p8⟩
    walk_at "rdf"
    refine rd_rng2 ?_
    walk_at "rdf"
    refine ⟨_,_,rfl,⟨by omega,by omega,by omega,by omega⟩,?_⟩
    generalize hyy:y0+((i:Nat):Int)=yy
    refine forW_range (fun j σ' H'=>∃ (o10:Option V) (xs:List V),σ'=[some (.ref l),some (.int x0),some (.int x1),some (.int y0),some (.int y1),some (.ref d),o6,some (.ref lf),some (.int yy),some (.bl (Wn.ins M (x0+((j:Nat):Int) - 1,yy))),o10]∧Same H H'∧H' d=some (.dT kvs)∧H' lf=some (.lst xs)∧PwPt H' xs (Wn.patc M y0 x0 (x1 - x0).toNat i++Wn.rowc M yy x0 j))
     ⟨o10,xs,?_,s8,e8,l8,by rw [show Wn.rowc M yy x0 0=[] from rfl,List.append_nil]; exact p8⟩ ?_ ?_
    ·rw [show x0+((0:Nat):Int) - 1=x0 - 1 by omega,cy.left fun p hp=>(bx' p hp).1.1]
     rfl
    ·rintro j σ' H9 hj ⟨o10,xs,rfl,s9,e9,l9,p9⟩
     have st:=cy.step (x0+((j:Nat):Int)) yy
     have rc:=Wn.rowc_succ M yy x0 j
     have bj:=few y0 x0 (x1 - x0).toNat i (j+1) yy hyy.symm
     rw [rc,← List.append_assoc] at bj
     have sj:x0+((j+1:Nat):Int) - 1=x0+((j:Nat):Int):=by omega
     rw [sj,rc,← List.append_assoc]
     generalize x0+((j:Nat):Int) - 1=xm at st ⊢
     generalize x0+((j:Nat):Int)=xx at st bj ⊢
     walk_at "rdf"
     refine ⟨by show 2≤sizeLine; decide,fun tk ntk=>?_⟩
     have stk:=Same.new (o:=HO.tup [V.int xx,V.int yy]) ntk
     have etk:=upd_same (H:=H9) (a:=tk) (o:=HO.tup [V.int xx,V.int yy])
     generalize upd H9 tk (HO.tup [V.int xx,V.int yy])=A1 at stk etk ⊢
     walk_at "rdf"
     refine ⟨d,_,rfl,DGet.t (k:=ky (xx,yy)) (stk _ _ e9) etk,?_⟩
     rw [ke6.val]
     walk_at "rdf"
     have ew:(!decide (Wn.ins M (xm,yy)=decide ((xx,yy)∈Wn.W M)))=Wn.ins M (xx,yy):=by
      rw [st]
      cases Wn.ins M (xm,yy)<;>cases decide ((xx,yy)∈Wn.W M)<;>rfl
     rw [ew]
     refine rd_join (fun σ' H'=>∃ (xs:List V),σ'=[some (.ref l),some (.int x0),some (.int x1),some (.int y0),some (.int y1),some (.ref d),o6,some (.ref lf),some (.int yy),some (.bl (Wn.ins M (xx,yy))),some (.int xx)]∧Same H H'∧H' d=some (.dT kvs)∧H' lf=some (.lst xs)∧PwPt H' xs (Wn.patc M y0 x0 (x1 - x0).toNat i++Wn.rowc M yy x0 j++if Wn.ins M (xx,yy)=true then [(xx,yy)] else [])) ?_ ?_
     ·walk_at "rdf"
      by_cases hin:Wn.ins M (xx,yy)=true
      ·rw [hin]
       rw [hin,if_pos rfl] at bj
       walk_at "rdf"
       have l10:=stk _ _ l9
       refine rd_bmL l10 ?_
       walk_at "rdf"
       refine ⟨by show 2≤sizeLine; decide,fun tc ntc=>?_⟩
       have stc:=Same.new (o:=HO.tup [V.int xx,V.int yy]) ntc
       have etc:=upd_same (H:=A1) (a:=tc) (o:=HO.tup [V.int xx,V.int yy])
       generalize upd A1 tc (HO.tup [V.int xx,V.int yy])=A2 at stc etc ⊢
       have l11:=stc _ _ l10
       walk_at "rdf"
       have p11:=p9.mono (stk.trans stc)
       refine rd_append l11 ?_ ?_
       ·have h1:=p11.1
        rw [List.length_append] at bj
        exact small1000' (by omega)
       ·refine ⟨_,rfl,(s9.trans (stk.trans stc)).later nlf0,by rw [upd_ne dlf]; exact stc _ _ (stk _ _ e9),upd_same,?_⟩
        rw [if_pos rfl]
        exact (p11.upd l11 (by intro ys z; cases z)).snoc (Pt.upd (q:=(xx,yy)) ⟨tc,rfl,etc⟩ l11 (by intro ys z; cases z))
      ·rw [Bool.not_eq_true] at hin
       rw [hin]
       walk_at "rdf"
       exact ⟨xs,rfl,s9.trans stk,stk _ _ e9,stk _ _ l9,by rw [if_neg (by decide),List.append_nil]; exact p9.mono stk⟩
     ·rintro σ' A2 ⟨xs,rfl,sA,eA,lA,pA⟩
      exact ⟨_,xs,rfl,sA,eA,lA,pA⟩
    ·rintro σ' H9 ⟨o10,xs,rfl,s9,e9,l9,p9⟩
     refine ⟨_,_,_,xs,rfl,s9,e9,l9,?_⟩
     rw [Wn.patc_succ,hyy]
     exact p9
   ·rintro σ' H8 ⟨o8,o9,o10,xs,rfl,s8,e8,l8,p8⟩
    walk_at "rdf"
    refine rd_sortEx l8 p8 fun l' ys qs nl' py' pq sq=>?_
    walk_at "rdf"
    refine k l' ys qs _ (s8.later (s8.free nl')) (s8.free nl') upd_same py' ⟨sq,pq.nodup_iff.mpr (Wn.patc_nd _ _ _ _ _),fun q=>?_⟩
    rw [pq.mem_iff,Wn.mem_patc]
    refine ⟨fun h=>h.2.2,fun h=>?_⟩
    have:=cy.box bx' h
    exact ⟨⟨by omega,by omega⟩,⟨by omega,by omega⟩,h⟩
end
section
variable {cs rs:List Int} {M:List (Int×Int)}
theorem mod_succ {i n:Nat} (h:2≤n):(i+1)%n=if i%n+1=n then 0 else i%n+1:=by
 have hi:=Nat.mod_lt i (show n > 0 by omega)
 rw [Nat.add_mod,Nat.mod_eq_of_lt (show 1<n by omega)]
 by_cases c:i%n+1=n
 ·rw [if_pos c,c,Nat.mod_self]
 ·rw [if_neg c,Nat.mod_eq_of_lt (by omega)]
def rp (M:List (Int×Int)) (i:Nat):Int×Int:=M.getD (i%M.length) (0,0)
theorem rp_at (h:2≤M.length) (i:Nat):M[i%M.length]?=some (rp M i):=by
 unfold rp
 rw [List.getD_eq_getElem?_getD,List.getElem?_eq_getElem (Nat.mod_lt _ (by omega))]; rfl
theorem rp_per (M:List (Int×Int)) (i:Nat):rp M (i+M.length)=rp M i:=by unfold rp; rw [Nat.add_mod_right]
theorem rp_step (td:Sm.Told (nb cs rs) true M) (i:Nat):rp M (i+1)∈nb cs rs (rp M i):=by
 have l2:=td.len
 have hi:=Nat.mod_lt i (show M.length > 0 by omega)
 obtain ⟨p,q,hp,hq,h⟩:=td.step (gr_nb cs rs) (i:=(i+1)%M.length) (Nat.mod_lt _ (by omega)) (.inr rfl)
 have e:Sm.bef M ((i+1)%M.length)=i%M.length:=by
  unfold Sm.bef
  rw [mod_succ l2]
  by_cases c:i%M.length+1=M.length
  ·rw [if_pos c,if_pos rfl]; omega
  ·rw [if_neg c,if_neg (by omega)]; omega
 rw [e,rp_at l2] at hp
 rw [rp_at l2] at hq
 cases Option.some.inj hp
 cases Option.some.inj hq
 exact h
theorem rp_inj (td:Sm.Told (nb cs rs) true M) {a b:Nat} (e:rp M a=rp M b):a%M.length=b%M.length:=by
 have l2:=td.len
 have ha:=rp_at l2 a
 have hb:=rp_at l2 b
 rw [e] at ha
 obtain ⟨h1,e1⟩:=List.getElem?_eq_some_iff.mp ha
 obtain ⟨h2,e2⟩:=List.getElem?_eq_some_iff.mp hb
 exact (List.getElem_inj td.nd).mp (e1.trans e2.symm)
theorem rp_ne (td:Sm.Told (nb cs rs) true M) (i:Nat):rp M (i+2)≠rp M i:=fun z=>by
 have l2:=td.len
 have l3:M.length≠2:=fun h2=>by
  have h1:M[Sm.bef M 0]?=some (rp M 1):=by
   unfold Sm.bef
   rw [if_pos rfl,h2]
   have:=rp_at l2 1
   rw [h2] at this
   exact this
  have h3:M[0+1]?=some (rp M 1):=by
   have:=rp_at l2 1
   rw [h2] at this
   exact this
  exact td.turn (gr_nb cs rs) (i:=0) (by omega) (.inr rfl) h1 h3 rfl
 have e:=rp_inj td z
 have hi:=Nat.mod_lt i (show M.length > 0 by omega)
 rw [show i+2=i+1+1 from rfl,mod_succ l2,mod_succ l2] at e
 by_cases c:i%M.length+1=M.length
 ·rw [if_pos c,if_neg (by omega)] at e; omega
 ·rw [if_neg c] at e
  by_cases d:i%M.length+1+1=M.length
  ·rw [if_pos d] at e; omega
  ·rw [if_neg d] at e; omega
def Col (M:List (Int×Int)) (i:Nat):Prop:=(rp M i).1=(rp M (i+1)).1
theorem step_one {p q:Int×Int} (h:q∈nb cs rs p):p.1=q.1∨p.2=q.2:=by
 rcases nb_mem.mp h with ⟨_,rfl⟩ | ⟨_,rfl⟩ | ⟨_,rfl⟩ | ⟨_,rfl⟩
 ·exact .inr rfl
 ·exact .inl rfl
 ·exact .inl rfl
 ·exact .inr rfl
theorem rp_turn (td:Sm.Told (nb cs rs) true M) (i:Nat):par (rp M (i+1)) (rp M (i+2))=par (rp M i) (rp M (i+1))∧(Col M (i+1)↔¬ Col M i):=step_turn (rp_step td i) (rp_step td (i+1)) (rp_ne td i)
theorem col_add (td:Sm.Told (nb cs rs) true M) (i:Nat):∀ k:Nat,(k%2=0→(Col M (i+k)↔Col M i))∧(k%2=1→(Col M (i+k)↔¬ Col M i))
 | 0=>⟨fun _=>Iff.rfl,fun h=>by omega⟩
 | k+1=>by
  have h:=col_add td i k
  have t:=(rp_turn td (i+k)).2
  refine ⟨fun e=>?_,fun e=>?_⟩
  ·have:=h.2 (by omega)
   exact t.trans ((not_congr this).trans Classical.not_not)
  ·have:=h.1 (by omega)
   exact t.trans (not_congr this)
theorem rp_even (td:Sm.Told (nb cs rs) true M):M.length%2=0:=by
 rcases Nat.mod_two_eq_zero_or_one M.length with h | h
 ·exact h
 ·have:=(col_add td 0 M.length).2 h
  have e:Col M (0+M.length)↔Col M 0:=by
   unfold Col
   rw [show 0+M.length+1=0+1+M.length by omega,rp_per,rp_per]
  have:=e.symm.trans this
  exact absurd this (by intro z; by_cases c:Col M 0<;>simp [c] at z)
theorem rp_par (td:Sm.Told (nb cs rs) true M):∀ i:Nat,par (rp M i) (rp M (i+1))=par (rp M 0) (rp M 1)
 | 0=>rfl
 | i+1=>(rp_turn td i).1.trans (rp_par td i)
theorem rp_row (td:Sm.Told (nb cs rs) true M) {i:Nat} (h:¬ Col M i):(rp M (i+1)).1=(rp M i).1+wayR rs (par (rp M 0) (rp M 1)) (rp M i).2∧(rp M (i+1)).2=(rp M i).2:=by
 have st:=rp_step td i
 have e:=(step_one st).resolve_left h
 have w:=(step_way st).2.1 h
 rw [rp_par td] at w
 refine ⟨by omega,e.symm⟩
theorem rp_col (td:Sm.Told (nb cs rs) true M) {i:Nat} (h:Col M i):(rp M (i+1)).2=(rp M i).2+wayC cs (par (rp M 0) (rp M 1)) (rp M i).1∧(rp M (i+1)).1=(rp M i).1:=by
 have st:=rp_step td i
 have w:=(step_way st).1 h
 rw [rp_par td] at w
 have h':(rp M i).1=(rp M (i+1)).1:=h
 refine ⟨by omega,h'.symm⟩
theorem rp_four (td:Sm.Told (nb cs rs) true M):M.length%8=4:=by
 have l2:=td.len
 have ev:=rp_even td
 obtain ⟨a,ha⟩:∃ a,¬ Col M a:=by
  by_cases c:Col M 0
  ·exact ⟨1,fun z=>(rp_turn td 0).2.mp z c⟩
  ·exact ⟨0,c⟩
 have hr:∀ i:Nat,¬ Col M (a+2*i):=fun i z=>ha (((col_add td a (2*i)).1 (by omega)).mp z)
 have hc:∀ i:Nat,Col M (a+2*i+1):=fun i=>(rp_turn td (a+2*i)).2.mpr (hr i)
 have:=NR.Orb.odd (n:=M.length / 2) (e:=wayR rs (par (rp M 0) (rp M 1))) (d:=wayC cs (par (rp M 0) (rp M 1))) (X:=fun i=>(rp M (a+2*i)).1) (Y:=fun i=>(rp M (a+2*i)).2)
  ⟨by omega,fun y=>?_,fun x=>?_,fun i=>?_,fun i=>?_,?_,?_,fun i k hi hk hx hy=>?_⟩
 ·omega
 ·unfold wayR; split<;>simp
 ·unfold wayC; split<;>simp
 ·show (rp M (a+2*i+1+1)).1=_
  rw [(rp_col td (hc i)).2,(rp_row td (hr i)).1]
 ·show (rp M (a+2*i+1+1)).2=(rp M (a+2*i)).2+wayC cs _ (rp M (a+2*i+1+1)).1
  rw [(rp_col td (hc i)).1,(rp_col td (hc i)).2,(rp_row td (hr i)).2]
 ·show (rp M (a+2*(M.length / 2))).1=(rp M a).1
  rw [show a+2*(M.length / 2)=a+M.length by omega,rp_per]
 ·show (rp M (a+2*(M.length / 2))).2=(rp M a).2
  rw [show a+2*(M.length / 2)=a+M.length by omega,rp_per]
 ·have e:=rp_inj td (Prod.ext hx hy:rp M (a+2*i)=rp M (a+2*k))
  have key:∀ x y:Nat,x≤y→y<x+M.length→x%M.length=y%M.length→x=y:=fun x y h1 h2 h3=>by
   have d1:=Nat.sub_mod_eq_zero_of_mod_eq h3.symm
   rw [Nat.mod_eq_of_lt (by omega)] at d1
   omega
  rcases Nat.le_total i k with z | z
  ·have:=key _ _ (by omega) (by omega) e; omega
  ·have:=key _ _ (by omega) (by omega) e.symm; omega
end
section
variable {cs rs:List Int} {M:List (Int×Int)}
theorem col_odd (td:Sm.Told (nb cs rs) true M) (i:Nat):Col M i↔i%2=1:=by
 have h0:¬ Col M 0:=by
  obtain ⟨a,b,l,rfl,o,hm,hb⟩:=td.rd rfl
  intro c
  have c':(rp (a::b::l) 0).1=(rp (a::b::l) (0+1)).1:=c
  have e0:rp (a::b::l) 0=a:=by unfold rp; rw [Nat.zero_mod]; rfl
  have e1:rp (a::b::l) (0+1)=b:=by unfold rp; rw [Nat.mod_eq_of_lt (by simp)]; rfl
  rw [e0,e1,hb] at c'
  dsimp only at c'
  omega
 have h:=col_add td 0 i
 rw [Nat.zero_add] at h
 rcases Nat.mod_two_eq_zero_or_one i with m | m
 ·exact ⟨fun c=>absurd ((h.1 m).mp c) h0,fun e=>by omega⟩
 ·exact ⟨fun _=>m,fun _=>(h.2 m).mpr h0⟩
theorem rp_mem (td:Sm.Told (nb cs rs) true M) (i:Nat):rp M i∈M:=List.mem_of_getElem? (rp_at td.len i)
theorem rp_of (td:Sm.Told (nb cs rs) true M) {q:Int×Int} (h:q∈M):∃ i,rp M i=q:=by
 obtain ⟨i,hi⟩:=List.getElem?_of_mem h
 have:=rp_at td.len i
 have hl:=(List.getElem?_eq_some_iff.mp hi).1
 rw [Nat.mod_eq_of_lt hl,hi] at this
 exact ⟨i,(Option.some.inj this).symm⟩
abbrev dR (rs:List Int) (M:List (Int×Int)):Int→Int:=wayR rs (par (rp M 0) (rp M 1))
abbrev dC (cs:List Int) (M:List (Int×Int)):Int→Int:=wayC cs (par (rp M 0) (rp M 1))
abbrev rX (M:List (Int×Int)):Nat→Int:=fun i=>(rp M i).1
abbrev rY (M:List (Int×Int)):Nat→Int:=fun i=>(rp M i).2
theorem told_lp (td:Sm.Told (nb cs rs) true M):Ar.Lp M.length (dR rs M) (dC cs M) (rX M) (rY M):=by
 have f4:=rp_four td
 have row:∀ i,i%2=0→(rp M (i+1)).1=(rp M i).1+dR rs M (rp M i).2∧(rp M (i+1)).2=(rp M i).2:=fun i h=>rp_row td fun c=>by have:=(col_odd td i).mp c; omega
 refine ⟨by omega,by omega,fun y=>?_,fun x=>?_,row,fun i h=>?_,fun i=>?_,fun i=>?_,fun i j hi hj hx hy=>?_,fun i=>?_,?_⟩
 ·show wayR rs _ y=1∨wayR rs _ y=-1; unfold wayR; split<;>simp
 ·show wayC cs _ x=1∨wayC cs _ x=-1; unfold wayC; split<;>simp
 ·have:=rp_col td ((col_odd td i).mpr h); exact ⟨this.2,this.1⟩
 ·show (rp M (i+M.length)).1=_; rw [rp_per]
 ·show (rp M (i+M.length)).2=_; rw [rp_per]
 ·have:=rp_inj td (Prod.ext hx hy:rp M i=rp M j)
  rwa [Nat.mod_eq_of_lt hi,Nat.mod_eq_of_lt hj] at this
 ·obtain ⟨a,b,l,e,o,hm,hb⟩:=td.rd rfl
  have h:=hm _ (rp_mem td i)
  have e0:rp M 0=a:=by unfold rp; rw [Nat.zero_mod,e]; rfl
  show (rp M 0).1<(rp M i).1∨(rp M 0).1=(rp M i).1∧(rp M 0).2≤(rp M i).2
  rw [e0]; exact h
 ·obtain ⟨a,b,l,e,o,hm,hb⟩:=td.rd rfl
  have e0:rp M 0=a:=by unfold rp; rw [Nat.zero_mod,e]; rfl
  have e1:rp M (0+1)=b:=by unfold rp; rw [e,Nat.mod_eq_of_lt (by simp)]; rfl
  have:=(row 0 rfl).1
  rw [e1,e0,hb] at this
  dsimp only at this
  show dR rs M (rp M 0).2=1
  rw [e0]; omega
theorem gt_rp {k:Nat} (h:k<M.length):Wn.gt M k=rp M k:=by unfold Wn.gt rp; rw [Nat.mod_eq_of_lt h]
theorem gt_pv {k:Nat} (h:k<M.length):Wn.gt M (Wn.pv M.length k)=rp M (k+M.length - 1):=by
 rw [gt_rp (Wn.pv_lt h)]
 unfold Wn.pv
 by_cases e:k=0
 ·rw [if_pos e,e,Nat.zero_add]
 ·rw [if_neg e,show k+M.length - 1=k - 1+M.length by omega,rp_per]
theorem mem_W (td:Sm.Told (nb cs rs) true M) (cy:Wn.Cyc M) {x y:Int}:(x,y)∈Wn.W M↔Ar.Ec (dC cs M) (rX M) (rY M) x y:=by
 have l2:=td.len
 unfold Wn.W
 rw [List.mem_filterMap]
 constructor
 ·rintro ⟨k,hk,e⟩
  rw [List.mem_range] at hk
  have c:=Wn.vw_some (cy.adj k hk) e
  rw [gt_pv hk,gt_rp hk,← rp_per M k,show k+M.length=k+M.length - 1+1 by omega,show k+M.length - 1+1 - 1=k+M.length - 1 by omega] at c
  generalize k+M.length - 1=j at c
  have hc:Col M j:=by
   show (rp M j).1=(rp M (j+1)).1
   rcases c with ⟨a,b⟩ | ⟨a,b⟩<;>rw [a,b]
  have r:=(rp_col td hc).1
  refine ⟨j,(col_odd td j).mp hc,?_,?_⟩
  ·show (rp M j).1=x; rcases c with ⟨a,_⟩ | ⟨a,_⟩<;>rw [a]
  ·show ((rp M j).2=y∧dC cs M x=1)∨((rp M j).2=y+1∧dC cs M x=-1)
   rcases c with ⟨a,b⟩ | ⟨a,b⟩<;>rw [a,b] at r<;>dsimp only at r<;>rw [a]
   ·exact .inl ⟨rfl,by show wayC cs _ x=1; omega⟩
   ·exact .inr ⟨rfl,by show wayC cs _ x=-1; omega⟩
 ·rintro ⟨i,hi,ex,h⟩
  have ex:(rp M i).1=x:=ex
  have h:((rp M i).2=y∧dC cs M x=1)∨((rp M i).2=y+1∧dC cs M x=-1):=h
  have r:=rp_col td ((col_odd td i).mpr hi)
  have hk:=Nat.mod_lt (i+1) (show M.length > 0 by omega)
  refine ⟨(i+1)%M.length,List.mem_range.mpr hk,?_⟩
  have e1:Wn.gt M ((i+1)%M.length)=rp M (i+1):=by unfold Wn.gt rp; rfl
  have e2:Wn.gt M (Wn.pv M.length ((i+1)%M.length))=rp M i:=by
   have:Wn.pv M.length ((i+1)%M.length)=i%M.length:=by
    unfold Wn.pv
    rw [mod_succ l2]
    have hi':=Nat.mod_lt i (show M.length > 0 by omega)
    by_cases c:i%M.length+1=M.length
    ·rw [if_pos c,if_pos rfl]; omega
    ·rw [if_neg c,if_neg (by omega)]; omega
   rw [this]; unfold Wn.gt rp; rfl
  rw [e1,e2]
  unfold Wn.vw
  rw [if_pos r.2.symm,ex]
  have r1:(rp M (i+1)).2=(rp M i).2+dC cs M (rp M i).1:=r.1
  rw [ex] at r1
  rcases h with ⟨a,b⟩ | ⟨a,b⟩
  ·rw [if_neg (by omega),a]
  ·rw [if_pos (by omega),show (rp M (i+1)).2=y by omega]
theorem told_si (td:Sm.Told (nb cs rs) true M) (cy:Wn.Cyc M) {x0 x1 y0 y1:Int} (hb:∀ p∈M,(x0≤p.1∧p.1≤x1)∧y0≤p.2∧p.2≤y1):Ar.Si (dR rs M) (dC cs M) (rX M) (rY M) (fun x y=>Wn.ins M (x,y)) x0 x1 y0 y1:=by
 refine ⟨fun x y=>?_,fun i=>hb _ (rp_mem td i),fun x y h=>cy.box hb h⟩
 rw [← mem_W td cy,cy.step x y]
 by_cases c:(x,y)∈Wn.W M
 ·rw [decide_eq_true c]
  cases Wn.ins M (x - 1,y)<;>simp [c]
 ·rw [decide_eq_false c]
  cases Wn.ins M (x - 1,y)<;>simp [c]
theorem told_odd (td:Sm.Told (nb cs rs) true M) (cy:Wn.Cyc M) (bx:∀ p∈M,(0≤p.1∧p.1≤40)∧0≤p.2∧p.2≤40) {a b c d:Int} (ha:IsMin a (M.map (·.1))) (hb:IsMin b (M.map (·.2))) (hc:IsMax c (M.map (·.1))) (hd:IsMax d (M.map (·.2))):(c - a)%2=1∧(d - b)%2=1:=by
 have m1:∀ p∈M,p.1∈M.map (·.1):=fun p hp=>List.mem_map.mpr ⟨p,hp,rfl⟩
 have m2:∀ p∈M,p.2∈M.map (·.2):=fun p hp=>List.mem_map.mpr ⟨p,hp,rfl⟩
 have si:=told_si td cy (x0:=a) (x1:=c) (y0:=b) (y1:=d) fun p hp=>⟨⟨ha.2 _ (m1 p hp),hc.2 _ (m1 p hp)⟩,hb.2 _ (m2 p hp),hd.2 _ (m2 p hp)⟩
 have g1:∀ z,z∈M.map (·.1)→(∃ i,rX M i=z)∧0≤z:=fun z hz=>by
  obtain ⟨p,hp,rfl⟩:=List.mem_map.mp hz
  obtain ⟨i,e⟩:=rp_of td hp
  exact ⟨⟨i,congrArg Prod.fst e⟩,(bx p hp).1.1⟩
 have g2:∀ z,z∈M.map (·.2)→(∃ i,rY M i=z)∧0≤z:=fun z hz=>by
  obtain ⟨p,hp,rfl⟩:=List.mem_map.mp hz
  obtain ⟨i,e⟩:=rp_of td hp
  exact ⟨⟨i,congrArg Prod.snd e⟩,(bx p hp).2.1⟩
 exact si.odd (told_lp td) (g1 a ha.1).2 (g2 b hb.1).2 (g1 a ha.1).1 (g1 c hc.1).1 (g2 b hb.1).1 (g2 d hd.1).1
theorem flat_four (U:List (Int×Int)):∀ {L:List Sm1},(∀ e∈L,(e.2.filter fun q=>decide (q∈U)).length%4=0)→((flat L).filter fun q=>decide (q∈U)).length%4=0
 | [],_=>rfl
 | e::L,h=>by
  have ih:=flat_four U (L:=L) fun e' he'=>h e' (List.mem_cons_of_mem _ he')
  have h0:=h e List.mem_cons_self
  unfold flat at ih ⊢
  rw [List.flatMap_cons,List.filter_append,List.length_append]
  omega
theorem inner_two {x y:Int} (hx:0<x∧x<(cs.length:Int)+1) (hy:0<y∧y<(rs.length:Int)+1):(nb cs rs (x,y)).length=2:=by
 obtain ⟨a,ha,ea⟩:∃ a∈nb cs rs (x,y),a.2=y∧a.1≠x:=by
  by_cases c:(x+rs.getD (y - 1).toNat 0)%2=1
  ·exact ⟨(x+1,y),nb_mem.mpr (.inr (.inr (.inr ⟨rt_iff.mpr ⟨hy.1,hy.2,by dsimp only; omega,hx.2,c⟩,rfl⟩))),rfl,by dsimp only; omega⟩
  ·exact ⟨(x - 1,y),nb_mem.mpr (.inl ⟨rt_iff.mpr ⟨hy.1,hy.2,by dsimp only; omega,by dsimp only; omega,by dsimp only; omega⟩,rfl⟩),rfl,by dsimp only; omega⟩
 obtain ⟨b,hb,eb⟩:∃ b∈nb cs rs (x,y),b.1=x:=by
  by_cases c:(y+cs.getD (x - 1).toNat 0)%2=1
  ·exact ⟨(x,y+1),nb_mem.mpr (.inr (.inr (.inl ⟨ups_iff.mpr ⟨hx.1,hx.2,by dsimp only; omega,hy.2,c⟩,rfl⟩))),rfl⟩
  ·exact ⟨(x,y - 1),nb_mem.mpr (.inr (.inl ⟨ups_iff.mpr ⟨hx.1,hx.2,by dsimp only; omega,by dsimp only; omega,by dsimp only; omega⟩,rfl⟩)),rfl⟩
 exact Sm.two_len (gr_nb cs rs) ha hb fun e=>ea.2 (by rw [e]; exact eb)
theorem told_area (td:Sm.Told (nb cs rs) true M) (cy:Wn.Cyc M) (bx:∀ p∈M,(0≤p.1∧p.1≤40)∧0≤p.2∧p.2≤40) {L:List Sm1} (al:AllS cs rs L) {C:List (Int×Int)} (ic:InsL M C):C.length%4=1:=by
 have G:=gr_nb cs rs
 have lp:=told_lp td
 have f4:=rp_four td
 have si:=told_si td cy (x0:=0) (x1:=((40:Nat):Int)) (y0:=0) (y1:=((40:Nat):Int)) bx
 have si2:=told_si td cy (x0:=0) (x1:=(cs.length:Int)+1) (y0:=0) (y1:=(rs.length:Int)+1) fun p hp=>by
  have:=told_inP td p hp
  unfold inPt at this
  omega
 have on:∀ q:Int×Int,Ar.On (rX M) (rY M) q.1 q.2↔q∈M:=fun q=>by
  constructor
  ·rintro ⟨i,h1,h2⟩
   have:rp M i=q:=Prod.ext h1 h2
   rw [← this]; exact rp_mem td i
  ·intro h
   obtain ⟨i,e⟩:=rp_of td h
   exact ⟨i,congrArg Prod.fst e,congrArg Prod.snd e⟩
 have mU:∀ q,q∈C.filter (fun q=>decide (q∉M))↔¬ Ar.On (rX M) (rY M) q.1 q.2∧Wn.ins M (q.1,q.2)=true:=fun q=>by
  rw [List.mem_filter,decide_eq_true_eq,on q,ic.ms q,and_comm]
 have nU:(C.filter fun q=>decide (q∉M)).Nodup:=List.Pairwise.filter _ ic.nd
 have ar:=si.area lp ic.nd ic.ms nU mU
 generalize C.filter (fun q=>decide (q∉M))=U at mU nU ar
 have inn:∀ q∈U,(0<q.1∧q.1<(cs.length:Int)+1)∧0<q.2∧q.2<(rs.length:Int)+1:=fun q hq=>by
  obtain ⟨h1,h2⟩:=(mU q).mp hq
  obtain ⟨o1,o2,o3⟩:=si2.offw lp h1
  rw [h2] at o3
  have a:=si2.out _ _ h2
  have b:=si2.out _ _ o3
  omega
 have sh:Sm.Shut (nb cs rs) U:=fun q hq r hr=>by
  obtain ⟨h1,h2⟩:=(mU q).mp hq
  have h3:¬ Ar.On (rX M) (rY M) r.1 r.2:=fun z=>h1 ((on q).mpr (td.shut G r ((on r).mp z) q (G.sym hr)))
  refine (mU r).mpr ⟨h3,?_⟩
  have oq:=si2.offw lp h1
  have or':=si2.offw lp h3
  rcases nb_mem.mp hr with ⟨_,rfl⟩ | ⟨_,rfl⟩ | ⟨_,rfl⟩ | ⟨_,rfl⟩<;>dsimp only at or' ⊢
  ·rw [oq.1]; exact h2
  ·rw [oq.2.1]; exact h2
  ·rw [← or'.2.1,show q.2+1 - 1=q.2 by omega]; exact h2
  ·rw [← or'.1,show q.1+1 - 1=q.1 by omega]; exact h2
 have each:∀ e∈L,(e.2.filter fun q=>decide (q∈U)).length%4=0:=fun e he=>by
  have te:=al.some.told e he
  by_cases h:∃ q∈e.2,q∈U
  ·obtain ⟨q,hq,hqU⟩:=h
   have all:∀ x∈e.2,x∈U:=by
    obtain ⟨a,b,l,eq,adj,go,_⟩:=te.path
    rw [eq] at hq ⊢
    exact Sm.go_in G sh adj go q hq hqU
   rw [List.filter_eq_self.mpr fun x hx=>decide_eq_true (all x hx)]
   cases e1:e.1 with
   | true=>rw [e1] at te; have:=rp_four te; omega
   | false =>
    rw [e1] at te
    obtain ⟨a,b,l,eq,o,_⟩:=te.op rfl
    have ha:=inn a (all a (by rw [eq]; exact List.mem_cons_self))
    have:(nb cs rs a).length=2:=inner_two ha.1 ha.2
    have:=o.one
    omega
  ·rw [List.filter_eq_nil_iff.mpr fun x hx=>by rw [decide_eq_true_eq]; exact fun z=>h ⟨x,hx,z⟩]
   rfl
 have u4:=flat_four U each
 have e1:=nodup_le U ((flat L).filter fun q=>decide (q∈U)) nU fun q hq=>by
  refine List.mem_filter.mpr ⟨al.cov q ?_ fun z=>?_,decide_eq_true hq⟩
  ·have:=inn q hq
   unfold inPt
   omega
  ·have:(nb cs rs q).length=2:=inner_two (inn q hq).1 (inn q hq).2
   rw [z] at this
   cases this
 have e2:=nodup_le ((flat L).filter fun q=>decide (q∈U)) U (List.Pairwise.filter _ al.some.nd) fun q hq=>of_decide_eq_true (List.mem_filter.mp hq).2
 omega
end
section
variable {P:Program} {w:World} {K:PySem.W.Frag} {mg:Str→Option Value} {base:Heap} {t:Ad}
def sp_law (K:PySem.W.Frag):Sp:=fun vs H Q _=>∃ (a:Addr) (ns:List Int),vs=[.ref a]∧SqL K H a (ns.map V.int)∧ns.length≤63∧∀ H',Q (.bl true) H'
theorem ok_law (T:Txt K mg t):FnOk P w K mg base CX0 12 t.f_law t.d_law ["_law_script"] (sp_law K):=by
 have G_Ldraws:=ok_Ldraws (P:=P) (w:=w) (base:=base) T
 have G_Lplan:=ok_Lplan (P:=P) (w:=w) (base:=base) T
 have G_Lrow:=ok_Lrow (P:=P) (w:=w) (base:=base) T
 have G_Lmade:=ok_Lmade (P:=P) (w:=w) (base:=base) T
 have G_rounds:=ok_rounds (P:=P) (w:=w) (base:=base) T
 have G_area:=ok_area (P:=P) (w:=w) (base:=base) T
 have G_box:=ok_box (P:=P) (w:=w) (base:=base) T
 have G_Lpatch:=ok_Lpatch (P:=P) (w:=w) (base:=base) T
 refine T.F_law.ok sc_law (fun vs H Q E h=>?_) (fun cdv A outer s H vs Q E hr h=>?_)
 ·obtain ⟨a,ns,rfl,_⟩:=h; rfl
 ·obtain ⟨a,ns,rfl,hS,hl,z⟩:=h
  refine cutC (ps_set (i:=1) sc_law.nd rfl (Or.inl rfl) (pe_call G_Ldraws (hr.mono (by first | decide | omega)) rfl T.mg_Ldraws T.F_Ldraws.kp T.b_Ldraws .nil pass0 (pa_cons (pv 0) (pa_cons pe_int pa_nil)))) fun _ _=>cutC (ps_set (i:=2) sc_law.nd rfl (Or.inl rfl) (pe_call G_Lplan (hr.mono (by first | decide | omega)) rfl T.mg_Lplan T.F_Lplan.kp T.b_Lplan .nil pass0 (pa_cons (pv 1) pa_nil))) fun _ _=>cutC (ps_join (ps_if (pt_cmpR op_eq (pe_op op_mod (pe_ix (ix_listK K rfl) (pv 1) pe_int (fun _ _=>rfl)) pe_int) pe_int (nomark _)) (pss_one (ps_set (i:=2) sc_law.nd rfl (Or.inl rfl) (pe_tup (pa_cons (pe_op op_mod (pe_ix (ix_listK K rfl) (pv 1) pe_int (fun _ _=>rfl)) pe_int) (pa_cons (pe_call G_Lrow (hr.mono (by first | decide | omega)) rfl T.mg_Lrow T.F_Lrow.kp T.b_Lrow .nil pass0 (pa_cons (pe_slice (sl_listK K rfl) (pv 1) (po_some pe_int) po_none) (pa_cons pe_int pa_nil))) (pa_cons (pe_call G_Lrow (hr.mono (by first | decide | omega)) rfl T.mg_Lrow T.F_Lrow.kp T.b_Lrow .nil pass0 (pa_cons (pe_slice (sl_listK K rfl) (pv 1) (po_some pe_int) po_none) (pa_cons pe_int pa_nil))) pa_nil)))))) pss_nil)) fun _ _=>cutC (ps_for PassesOwn.never rfl (pi_list (pe_call G_rounds (hr.mono (by first | decide | omega)) rfl T.mg_rounds T.F_rounds.kp T.b_rounds .nil pass0 (pa_cons (pe_call G_Lmade (hr.mono (by first | decide | omega)) rfl T.mg_Lmade T.F_Lmade.kp T.b_Lmade .nil pass0 (pa_cons (pv 2) pa_nil)) pa_nil))) (pg_name (i:=3) sc_law.nd rfl (Or.inl rfl)) (pss_cons (ps_set (i:=4) sc_law.nd rfl (Or.inl rfl) (pe_call G_area (hr.mono (by first | decide | omega)) rfl T.mg_area T.F_area.kp T.b_area .nil pass0 (pa_cons (pv 3) pa_nil))) (pss_cons (ps_asg (pe_call G_box (hr.mono (by first | decide | omega)) rfl T.mg_box T.F_box.kp T.b_box .nil pass0 (pa_cons (pv 3) pa_nil)) (pg_tupK (n:=4) K rfl rfl (pgs_cons (pg_name (i:=5) sc_law.nd rfl (Or.inl rfl)) (pgs_cons (pg_name (i:=6) sc_law.nd rfl (Or.inl rfl)) (pgs_cons (pg_name (i:=7) sc_law.nd rfl (Or.inl rfl)) (pgs_cons (pg_name (i:=8) sc_law.nd rfl (Or.inl rfl)) pgs_nil)))))) (pss_cons (ps_if (PW.pt (pw_or (pt_cmpR op_ne (pv 4) (pe_callB (cI_lenK K rfl) rfl T.no_len (by rfl) (pa_cons (pe_call G_Lpatch (hr.mono (by first | decide | omega)) rfl T.mg_Lpatch T.F_Lpatch.kp T.b_Lpatch .nil pass0 (pa_cons (pv 3) pa_nil)) pa_nil)) (nomark _)) (pw_or1 (pt_cmpR op_ne (pe_op op_mod (pv 4) pe_int) pe_int (nomark _))))) (pss_one (ps_ret pe_bl)) pss_nil) (pss_one (ps_if (PW.pt (pw_or (pt_cmpR op_ne (pe_op op_mod (pe_op op_sub (pv 7) (pv 5)) pe_int) pe_int (nomark _)) (pw_or1 (pt_cmpR op_ne (pe_op op_mod (pe_op op_sub (pv 8) (pv 6)) pe_int) pe_int (nomark _))))) (pss_one (ps_ret pe_bl)) pss_nil)))))) fun _ _=>cutE (ps_ret pe_bl) fun _ _=>?_
  walk_at "rdf"
  refine ⟨a,13,ns,rfl,hS,hl,by decide,fun ls zs H1 s1 es lz _ sm=>?_⟩
  walk_at "rdf"
  refine ⟨ls,zs,rfl,es,by omega,fun pp s cs rs H2 s2 pl=>?_⟩
  walk_at "rdf"
  have es2:=s2 _ _ es
  have I12:atI (zs.map V.int) 12=_:=atI_ints (by decide) (by omega)
  have I3:atI (zs.map V.int) 3=_:=atI_ints (by decide) (by omega)
  generalize zs.getD (12:Int).toNat 0=z12 at I12
  generalize zs.getD (3:Int).toNat 0=z3 at I3
  refine rd_join (fun σ' H'=>∃ (pp:Addr) (s:Int) (cs rs:List Int),σ'=[some (.ref a),some (.ref ls),some (.ref pp),none,none,none,none,none,none]∧PlanAt true H' pp s cs rs) ?_ ?_
  ·walk_at "rdf"
   refine rd_ixL (SqL.of es2) I12 ?_
   walk_at "rdf"
   refine rd_I (by decide) ?_
   walk_at "rdf"
   by_cases hz:z12%4=1
   ·rw [decide_eq_true hz]
    walk_at "rdf"
    refine rd_ixL (SqL.of es2) I3 ?_
    walk_at "rdf"
    refine rd_I (by decide) ?_
    walk_at "rdf"
    refine rd_slL es2 fun l3 n3=>?_
    have s3:=Same.new (o:=HO.lst (cutV (zs.map V.int) (some 4) none)) n3
    walk_at "rdf"
    refine ⟨l3,23,zs.drop 4,rfl,by rw [upd_same]; exact congrArg (fun x=>some (HO.lst x)) (cutV_drop (k:=4)),by rw [List.length_drop]; omega,by omega,fun c cs H3 s4 ec lc bc=>?_⟩
    walk_at "rdf"
    have ha4:=s4 _ _ (s3 _ _ es2)
    refine rd_slL ha4 fun l5 n5=>?_
    have s5:=Same.new (o:=HO.lst (cutV (zs.map V.int) (some 8) none)) n5
    walk_at "rdf"
    refine ⟨l5,23,zs.drop 8,rfl,by rw [upd_same]; exact congrArg (fun x=>some (HO.lst x)) (cutV_drop (k:=8)),by rw [List.length_drop]; omega,by omega,fun r rs H4 s6 er lr br=>?_⟩
    walk_at "rdf"
    refine ⟨by show 3≤sizeLine; decide,fun p hp=>?_⟩
    have s7:=Same.new (o:=HO.tup [V.int (z3%2),V.ref c,V.ref r]) hp
    walk_at "rdf"
    exact ⟨p,z3%2,cs,rs,rfl,⟨c,r,upd_same,s7 _ _ (s6 _ _ (s5 _ _ ec)),s7 _ _ er⟩,mod2 z3,⟨by omega,bc⟩,⟨by omega,br⟩⟩
   ·rw [decide_eq_false hz]
    walk_at "rdf"
    exact ⟨pp,s,cs,rs,rfl,pl⟩
  clear pl
  rintro σ2 H3 ⟨pp,s,cs,rs,rfl,pl⟩
  walk_at "rdf"
  refine ⟨pp,true,s,cs,rs,rfl,pl,fun p H4 s3 hC=>?_⟩
  obtain ⟨⟨c,r,hp,hc,hr'⟩,sh,bc,br⟩:=id pl
  have lc:=bc.1
  have lr:=br.1
  walk_at "rdf"
  refine ⟨p,s,cs,rs,rfl,hC,by omega,by omega,fun lf xs H5 s5 nf ef px hL=>?_⟩
  obtain ⟨L,al⟩:=hL
  walk_at "rdf"
  refine ⟨⟨_,SqL.of ef⟩,?_⟩
  refine forW_list (K:=K) (a:=lf) (xs:=xs) (fun i σ' H'=>∃ (o3 o4 o5 o6 o7 o8:Option V),σ'=[some (.ref a),some (.ref ls),some (.ref pp),o3,o4,o5,o6,o7,o8]∧Same H5 H')
   ⟨none,none,none,none,none,none,rfl,Same.refl _⟩ (fun i σ' H' _ ⟨_,_,_,_,_,_,_,z⟩=>SqL.of (z _ _ ef)) ?_ ?_
  ·rintro i v σ' H6 hv ⟨o3,o4,o5,o6,o7,o8,rfl,s6⟩
   obtain ⟨l,zs,M,rfl,el,py,td,bl⟩:=(px v (List.mem_of_getElem? hv)).mono s6
   have cy:=told_cyc td
   have bx:=told_box (by omega) (by omega) td
   walk_at "rdf"
   refine ⟨l,zs,M,rfl,el,py,bl,cy,bx,fun C H7 s7 ic=>?_⟩
   have h1:=told_area td cy bx al ic
   walk_at "rdf"
   refine ⟨l,zs,M,rfl,s7 _ _ el,py.mono s7,(fun e=>by have:=cy.len; rw [e] at this; simp at this),bl,fun T xa ya xb yb H8 s8 eT ha hb hc hd=>?_⟩
   obtain ⟨h2,h3⟩:=told_odd td cy bx ha hb hc hd
   walk_at "rdf"
   refine rd_gtup eT rfl ?_
   walk_at "rdf"
   have s78:=s7.trans s8
   refine ⟨l,zs,M,rfl,s78 _ _ el,py.mono s78,bl,cy,bx,fun l' ys C' H9 s9 _ e9 p9 ic9=>?_⟩
   walk_at "rdf"
   refine rd_lenL e9 ?_
   rw [p9.1,ic9.uniq ic]
   walk_at "rdf"
   rw [decide_eq_true (rfl:((C.length:Nat):Int)=((C.length:Nat):Int))]
   walk_at "rdf"
   refine rd_I (by decide) ?_
   walk_at "rdf"
   rw [decide_eq_true (show ((C.length:Nat):Int)%4=1 by omega)]
   walk_at "rdf"
   refine rd_I (by decide) ?_
   walk_at "rdf"
   rw [decide_eq_true h2]
   walk_at "rdf"
   refine rd_I (by decide) ?_
   walk_at "rdf"
   rw [decide_eq_true h3]
   walk_at "rdf"
   exact ⟨_,_,_,_,_,_,rfl,s6.trans (s78.trans s9)⟩
  ·rintro σ' H6 ⟨o3,o4,o5,o6,o7,o8,rfl,s6⟩
   walk_at "rdf"
   exact z _
end
end My
set_option Elab.async false
set_option linter.all false
set_option maxRecDepth 100000
namespace PySem.W.Fast
theorem tw2298102573077966557:True:=⟨⟩
theorem tw13259970556643948774:True:=⟨⟩
theorem tw15337106109543289151:True:=⟨⟩
theorem tw16249817536232243639:True:=⟨⟩
theorem tw1031800256497362101:True:=⟨⟩
theorem tw12166259300178909304:True:=⟨⟩
theorem tw3812003365635910905:True:=⟨⟩
theorem tw8061057932775669946:True:=⟨⟩
theorem tw17164531273885421405:True:=⟨⟩
theorem tw7252238899602134808:True:=⟨⟩
theorem tw8506660807780927703:True:=⟨⟩
theorem tw18114004324510995731:True:=⟨⟩
theorem tw7250713489670567800:True:=⟨⟩
theorem tw11722538938562559376:True:=⟨⟩
theorem tw15636428714436413586:True:=⟨⟩
theorem tw16555692724568520504:True:=⟨⟩
theorem tw9910844063024510120:True:=⟨⟩
theorem tw8014445301719232345:True:=⟨⟩
theorem tw7562898183380688007:True:=⟨⟩
theorem tw10877911517302917828:True:=⟨⟩
theorem tw13554431953795154855:True:=⟨⟩
theorem tw14289680838039072823:True:=⟨⟩
theorem tw5490137815281193076:True:=⟨⟩
theorem tw458343399342111161:True:=⟨⟩
theorem tw10208554978582373693:True:=⟨⟩
theorem tw5189155201660490859:True:=⟨⟩
theorem tw5512826782529760656:True:=⟨⟩
theorem tw1977134189690400596:True:=⟨⟩
theorem tw11038419278462041601:True:=⟨⟩
theorem tw14117618134755194074:True:=⟨⟩
theorem tw10343077188399029307:True:=⟨⟩
theorem tw16631457344519662447:True:=⟨⟩
theorem tw12742465291126316552:True:=⟨⟩
theorem tw10659704206793798251:True:=⟨⟩
theorem tw3364575880422197593:True:=⟨⟩
theorem tw7894590293169318284:True:=⟨⟩
theorem tw6776862821982880036:True:=⟨⟩
theorem tw1268532944278978536:True:=⟨⟩
theorem tw5217040885204006498:True:=⟨⟩
theorem tw3657346803143990259:True:=⟨⟩
theorem tw5278764177091570916:True:=⟨⟩
theorem tw2507279011295476678:True:=⟨⟩
theorem tw12287353072929268166:True:=⟨⟩
theorem tw8219998016668685696:True:=⟨⟩
theorem tw15163007512808696200:True:=⟨⟩
theorem tw14249802270531779162:True:=⟨⟩
theorem tw10414813481915699195:True:=⟨⟩
theorem tw5140049362917651593:True:=⟨⟩
theorem tw9083918278199672190:True:=⟨⟩
theorem tw6463183112960779944:True:=⟨⟩
theorem tw6027417353772601531:True:=⟨⟩
theorem tw3912281107059553595:True:=⟨⟩
theorem tw15765029190369383270:True:=⟨⟩
theorem tw14408455537953059703:True:=⟨⟩
theorem tw13498592730283501268:True:=⟨⟩
theorem tw16545841125994958565:True:=⟨⟩
theorem tw11388247368147504692:True:=⟨⟩
theorem tw9128086676359539445:True:=⟨⟩
theorem tw7216441184785076752:True:=⟨⟩
theorem tw14522466049460730986:True:=⟨⟩
theorem tw8944028743514470927:True:=⟨⟩
theorem tw18249258808406577586:True:=⟨⟩
theorem tw16080499390608029820:True:=⟨⟩
theorem tw2264632250026855777:True:=⟨⟩
theorem tw14031158401066954929:True:=⟨⟩
theorem tw12620458022166664319:True:=⟨⟩
theorem tw14401872159105482699:True:=⟨⟩
theorem tw15255823019445241487:True:=⟨⟩
theorem tw3782953718028915275:True:=⟨⟩
theorem tw6263560940955936189:True:=⟨⟩
theorem tw4366983427280464008:True:=⟨⟩
theorem tw14264768192548545469:True:=⟨⟩
theorem tw11512389712406833045:True:=⟨⟩
theorem tw15286620545234484224:True:=⟨⟩
theorem tw16877745644666714136:True:=⟨⟩
theorem tw16866048765314817948:True:=⟨⟩
theorem tw2010374430838502354:True:=⟨⟩
theorem tw8468220782583490862:True:=⟨⟩
theorem tw11430785588702514936:True:=⟨⟩
theorem tw3069927258023705587:True:=⟨⟩
theorem tw6192837674367050750:True:=⟨⟩
theorem tw17562964038180294844:True:=⟨⟩
theorem tw3327518988935085632:True:=⟨⟩
theorem tw134613396721016467:True:=⟨⟩
theorem tw13700695759637545206:True:=⟨⟩
theorem tw18403357779449282980:True:=⟨⟩
theorem tw1943187075672778837:True:=⟨⟩
theorem tw17631429215345255886:True:=⟨⟩
theorem tw3256246169447352703:True:=⟨⟩
theorem tw17338460587760985369:True:=⟨⟩
theorem tw7914352898437799742:True:=⟨⟩
theorem tw963016071718710407:True:=⟨⟩
theorem tw16393833260339734533:True:=⟨⟩
theorem tw16984438238339070997:True:=⟨⟩
theorem tw940497302739303245:True:=⟨⟩
theorem tw15472569341365464806:True:=⟨⟩
theorem tw115770892094303715:True:=⟨⟩
theorem tw565491554582388437:True:=⟨⟩
theorem tw6206400903681892780:True:=⟨⟩
theorem tw14402669263959366175:True:=⟨⟩
theorem tw2790885310082481000:True:=⟨⟩
theorem tw3880086696385095961:True:=⟨⟩
theorem tw4584843151845183775:True:=⟨⟩
theorem tw10857039663435139579:True:=⟨⟩
theorem tw10038294785677340912:True:=⟨⟩
theorem tw13851015338238067307:True:=⟨⟩
theorem tw12612274473783668034:True:=⟨⟩
theorem tw4312538519110748324:True:=⟨⟩
theorem tw1985562619656166656:True:=⟨⟩
theorem tw14054639647637264176:True:=⟨⟩
theorem tw11491165219069560452:True:=⟨⟩
theorem tw16303197392109061051:True:=⟨⟩
theorem tw3182186864808987378:True:=⟨⟩
theorem tw7491278915596164526:True:=⟨⟩
theorem tw13327876556374125038:True:=⟨⟩
theorem tw243165762571541249:True:=⟨⟩
theorem tw1401876656594918858:True:=⟨⟩
theorem tw9780807825391371521:True:=⟨⟩
theorem tw16094301881033833995:True:=⟨⟩
theorem tw13654114290033958851:True:=⟨⟩
theorem tw8524747361737917053:True:=⟨⟩
theorem tw14719836488695024531:True:=⟨⟩
theorem tw8107579474297921075:True:=⟨⟩
theorem tw14678898780129534046:True:=⟨⟩
theorem tw12476133242663275910:True:=⟨⟩
theorem tw16327461016560726079:True:=⟨⟩
theorem tw10866677145949983967:True:=⟨⟩
theorem tw8439352808309467238:True:=⟨⟩
theorem tw1945884258766155241:True:=⟨⟩
theorem tw3491286946870775392:True:=⟨⟩
theorem tw4628834767792443453:True:=⟨⟩
theorem tw10136051776515205420:True:=⟨⟩
theorem tw12401770528995026514:True:=⟨⟩
theorem tw9074046900354835879:True:=⟨⟩
theorem tw10385455563962178636:True:=⟨⟩
theorem tw5286885285897960564:True:=⟨⟩
theorem tw4926729367091220973:True:=⟨⟩
theorem tw8871786782484622781:True:=⟨⟩
theorem tw16286727763179401886:True:=⟨⟩
theorem tw5246206910759819477:True:=⟨⟩
theorem tw1683722092221127863:True:=⟨⟩
theorem tw12271925462965950854:True:=⟨⟩
theorem tw9769161277784983474:True:=⟨⟩
theorem tw11725003136183717814:True:=⟨⟩
theorem tw15981799313129653331:True:=⟨⟩
theorem tw3939136863946358775:True:=⟨⟩
theorem tw10212139559829819431:True:=⟨⟩
theorem tw12926727530515478758:True:=⟨⟩
theorem tw1492512925848301330:True:=⟨⟩
theorem tw4016704487220600814:True:=⟨⟩
theorem tw9590364264032884479:True:=⟨⟩
theorem tw14871219882261280210:True:=⟨⟩
theorem tw6127421370472781295:True:=⟨⟩
theorem tw15121280025930136969:True:=⟨⟩
theorem tw13329791055657065964:True:=⟨⟩
theorem tw6313903429974909606:True:=⟨⟩
theorem tw14374766159751516761:True:=⟨⟩
theorem tw605211010685876954:True:=⟨⟩
theorem tw1409267054175533604:True:=⟨⟩
theorem tw18183441014859878216:True:=⟨⟩
theorem tw8525089885096985989:True:=⟨⟩
theorem tw7033684007683252119:True:=⟨⟩
theorem tw1124371232562629265:True:=⟨⟩
theorem tw8359834011665890499:True:=⟨⟩
theorem tw10516618975313647789:True:=⟨⟩
theorem tw6050339765908410411:True:=⟨⟩
theorem tw18374095258556981350:True:=⟨⟩
theorem tw5626156657514549615:True:=⟨⟩
theorem tw14815987406562162201:True:=⟨⟩
theorem tw17781684221963959807:True:=⟨⟩
theorem tw5811494395106896438:True:=⟨⟩
theorem tw7638895113984623391:True:=⟨⟩
theorem tw13103246982551719722:True:=⟨⟩
theorem tw13174025044619583364:True:=⟨⟩
theorem tw2026172364227920105:True:=⟨⟩
theorem tw6260977809027521575:True:=⟨⟩
theorem tw15137577306780346200:True:=⟨⟩
theorem tw15253205747473725728:True:=⟨⟩
theorem tw12693000838328952954:True:=⟨⟩
theorem tw14674701460774539613:True:=⟨⟩
theorem tw5058520689607831728:True:=⟨⟩
theorem tw7871722529725172569:True:=⟨⟩
theorem tw14774490715237308763:True:=⟨⟩
theorem tw10191968555609283664:True:=⟨⟩
theorem tw15710699758273327101:True:=⟨⟩
theorem tw8106656278942634721:True:=⟨⟩
theorem tw11511828792731753310:True:=⟨⟩
theorem tw10261844959063419972:True:=⟨⟩
theorem tw749490282181494542:True:=⟨⟩
theorem tw16354911466133866994:True:=⟨⟩
theorem tw11437095955621384612:True:=⟨⟩
theorem tw12793489194999554994:True:=⟨⟩
theorem tw9777948867801038456:True:=⟨⟩
theorem tw5119498377462527095:True:=⟨⟩
theorem tw9371514867554304270:True:=⟨⟩
theorem tw5730313708997727474:True:=⟨⟩
theorem tw11296273247265010530:True:=⟨⟩
theorem tw4274001359224719764:True:=⟨⟩
theorem tw11111281182411311215:True:=⟨⟩
theorem tw13824976387151057156:True:=⟨⟩
theorem tw851285219672497172:True:=⟨⟩
theorem tw7561866238557061185:True:=⟨⟩
theorem tw14603614367690021580:True:=⟨⟩
theorem tw13443622989003271247:True:=⟨⟩
theorem tw2008592460008146149:True:=⟨⟩
theorem tw3556953853756713517:True:=⟨⟩
theorem tw11900929001401679950:True:=⟨⟩
theorem tw14102656869156532929:True:=⟨⟩
theorem tw4133901294125822294:True:=⟨⟩
theorem tw11637758554933237249:True:=⟨⟩
theorem tw16470212985865923275:True:=⟨⟩
theorem tw2569987790432752638:True:=⟨⟩
theorem tw9630253279388884883:True:=⟨⟩
theorem tw17150867139956914373:True:=⟨⟩
theorem tw6362685995663645099:True:=⟨⟩
theorem tw14384034634920791833:True:=⟨⟩
theorem tw11211868339397448510:True:=⟨⟩
theorem tw4738557589868474781:True:=⟨⟩
theorem tw16358443949132166087:True:=⟨⟩
theorem tw11818355732444564347:True:=⟨⟩
theorem tw6828295106048939550:True:=⟨⟩
theorem tw9254392738458918403:True:=⟨⟩
theorem tw8767296112527734702:True:=⟨⟩
theorem tw6516084386917557478:True:=⟨⟩
theorem tw18068396571948596177:True:=⟨⟩
theorem tw5193356208226321618:True:=⟨⟩
theorem tw17427405945689652332:True:=⟨⟩
theorem tw8680902625460642646:True:=⟨⟩
theorem tw9933219269515789930:True:=⟨⟩
theorem tw8610726878937585618:True:=⟨⟩
theorem tw10131631330305888824:True:=⟨⟩
theorem tw7488641045216408748:True:=⟨⟩
theorem tw11325266157669860710:True:=⟨⟩
theorem tw729368751398739862:True:=⟨⟩
theorem tw15553826077855489222:True:=⟨⟩
theorem tw10012894195978161929:True:=⟨⟩
theorem tw16517004125077469906:True:=⟨⟩
theorem tw2265171835619929613:True:=⟨⟩
theorem tw2503151515402296627:True:=⟨⟩
theorem tw2617468992759988428:True:=⟨⟩
theorem tw5792515296178868851:True:=⟨⟩
theorem tw3324280819309669276:True:=⟨⟩
theorem tw17485660847502455292:True:=⟨⟩
theorem tw13337036111076305870:True:=⟨⟩
theorem tw16562054694674735594:True:=⟨⟩
theorem tw10513578905757424539:True:=⟨⟩
theorem tw303079149250916456:True:=⟨⟩
theorem tw14552892343108809695:True:=⟨⟩
theorem tw12216004824531791354:True:=⟨⟩
theorem tw16077849260446384847:True:=⟨⟩
theorem tw345531281569210505:True:=⟨⟩
theorem tw4078948151639392379:True:=⟨⟩
theorem tw10844477456085598162:True:=⟨⟩
theorem tw17469218673395468600:True:=⟨⟩
theorem tw15918075657258346041:True:=⟨⟩
theorem tw11028488622410987928:True:=⟨⟩
theorem tw13639943829923249792:True:=⟨⟩
theorem tw14925631801101305346:True:=⟨⟩
theorem tw15004568152178272299:True:=⟨⟩
theorem tw17255485875074389695:True:=⟨⟩
theorem tw1677901347393021606:True:=⟨⟩
theorem tw5993037684473093882:True:=⟨⟩
theorem tw3910891187028639113:True:=⟨⟩
theorem tw1301679904590042915:True:=⟨⟩
theorem tw7089249250074842869:True:=⟨⟩
theorem tw16677269461232514795:True:=⟨⟩
theorem tw18055457682659639175:True:=⟨⟩
theorem tw1141678586711067832:True:=⟨⟩
theorem tw2908075618229261716:True:=⟨⟩
theorem tw13197855995389980077:True:=⟨⟩
theorem tw6206814172135197647:True:=⟨⟩
theorem tw1311990209797437245:True:=⟨⟩
theorem tw1811526795595056806:True:=⟨⟩
theorem tw8247628787131268950:True:=⟨⟩
theorem tw9097794337728960664:True:=⟨⟩
theorem tw16166417927398288010:True:=⟨⟩
theorem tw16384236745161785080:True:=⟨⟩
theorem tw16692447290958660016:True:=⟨⟩
theorem tw7342982558221062826:True:=⟨⟩
theorem tw8756772644065312848:True:=⟨⟩
theorem tw5038813348606955275:True:=⟨⟩
theorem tw494776666174581031:True:=⟨⟩
theorem tw10391854365704442211:True:=⟨⟩
theorem tw8852211454214108176:True:=⟨⟩
theorem tw1624556712441506803:True:=⟨⟩
theorem tw16376663382080300436:True:=⟨⟩
theorem tw6936205105494886011:True:=⟨⟩
theorem tw13654153537683060247:True:=⟨⟩
theorem tw12823909399576193394:True:=⟨⟩
theorem tw18139020198574039300:True:=⟨⟩
theorem tw6190419050048958214:True:=⟨⟩
theorem tw11884140551736675704:True:=⟨⟩
theorem tw17431058611384759515:True:=⟨⟩
theorem tw201650164288611692:True:=⟨⟩
theorem tw5849983555635944708:True:=⟨⟩
theorem tw4636400435127531282:True:=⟨⟩
theorem tw7358577518128664127:True:=⟨⟩
theorem tw4974305011288263454:True:=⟨⟩
theorem tw322661616971994062:True:=⟨⟩
theorem tw16729817525913587012:True:=⟨⟩
theorem tw15719016905652452463:True:=⟨⟩
theorem tw2487624094972044551:True:=⟨⟩
theorem tw14364626032165912967:True:=⟨⟩
theorem tw4472094386162591976:True:=⟨⟩
theorem tw12623202022520152443:True:=⟨⟩
theorem tw15894602482028007187:True:=⟨⟩
theorem tw8867694088076426257:True:=⟨⟩
theorem tw2042599679795489313:True:=⟨⟩
theorem tw9996642084163416553:True:=⟨⟩
theorem tw7393707336193204806:True:=⟨⟩
theorem tw15162218797143550708:True:=⟨⟩
theorem tw3507881043143907695:True:=⟨⟩
theorem tw1643609673205032390:True:=⟨⟩
theorem tw10105222768357075438:True:=⟨⟩
theorem tw16649462308871336122:True:=⟨⟩
theorem tw13620611243046794675:True:=⟨⟩
theorem tw2082373162716251767:True:=⟨⟩
theorem tw11530585438292053064:True:=⟨⟩
theorem tw3653129400679059621:True:=⟨⟩
theorem tw15576660119440359069:True:=⟨⟩
theorem tw12935709442855178918:True:=⟨⟩
theorem tw8173981210744876305:True:=⟨⟩
theorem tw17725299385377072497:True:=⟨⟩
theorem tw926876011560164154:True:=⟨⟩
theorem tw15159241102863806179:True:=⟨⟩
theorem tw12547710517564834013:True:=⟨⟩
theorem tw16785693512130798477:True:=⟨⟩
theorem tw109905892704423950:True:=⟨⟩
theorem tw4103547103370142574:True:=⟨⟩
theorem tw3932817376816594220:True:=⟨⟩
theorem tw6863202752092912157:True:=⟨⟩
theorem tw1572924648680768795:True:=⟨⟩
theorem tw14881588138917531852:True:=⟨⟩
theorem tw16942119816378186912:True:=⟨⟩
theorem tw6909430876806106820:True:=⟨⟩
theorem tw10278455214566538467:True:=⟨⟩
theorem tw8902460913578090313:True:=⟨⟩
theorem tw4971406994745861560:True:=⟨⟩
theorem tw17404134544210787825:True:=⟨⟩
theorem tw14848824034234968900:True:=⟨⟩
theorem tw7769797680706031768:True:=⟨⟩
theorem tw11951673248100817798:True:=⟨⟩
theorem tw2079852093320524807:True:=⟨⟩
theorem tw2034465908310139568:True:=⟨⟩
theorem tw6340669017326348265:True:=⟨⟩
theorem tw2543413760237352184:True:=⟨⟩
theorem tw15297228841108444030:True:=⟨⟩
theorem tw7710445183289036550:True:=⟨⟩
theorem tw14763355926318052700:True:=⟨⟩
theorem tw16633814583603635571:True:=⟨⟩
theorem tw10032699522398698686:True:=⟨⟩
theorem tw14253306495281637637:True:=⟨⟩
theorem tw15898935115281917053:True:=⟨⟩
theorem tw3470247584670299887:True:=⟨⟩
theorem tw10563957239535494798:True:=⟨⟩
theorem tw213004550377162766:True:=⟨⟩
theorem tw9500624785418944375:True:=⟨⟩
theorem tw6186678657798066073:True:=⟨⟩
theorem tw13885733660303687585:True:=⟨⟩
theorem tw2300610795299735544:True:=⟨⟩
theorem tw5667713271288950807:True:=⟨⟩
theorem tw13514729317944355621:True:=⟨⟩
theorem tw6663618324739215910:True:=⟨⟩
theorem tw16373538040360291619:True:=⟨⟩
theorem tw3144555316739859509:True:=⟨⟩
theorem tw6413377813295079312:True:=⟨⟩
theorem tw4487473855807456952:True:=⟨⟩
theorem tw16575431209476260646:True:=⟨⟩
end PySem.W.Fast
open PySem PySem.W PyProof.Rows
set_option maxRecDepth 100000 in
set_option maxHeartbeats 0 in
theorem PySem.Challenge.cw_sashiko_k14_whole_areas_leave_one_holds : PySem.Challenge.rw_sashiko_k14_whole_areas_leave_one.Holds := by
 w_on; o_law; k_head; (case hw=>w_witness2)
 k_fill
 refine L2.walk_ofK (l:=PySem.Challenge.rw_sashiko_k14_whole_areas_leave_one) (n:=63) (k:=12) (x:="_law_script") (CX:=L2.CX0) (sp:=My.sp_law) rfl (by decide) rfl ⟨rfl,by decide,by decide⟩ (fun w h Y=>PySem.W.kIn_of Y) ?F ?S ?C
 case F =>
  intro w mg fa h KX G hmg
  have T:∃ t:My.Ad,My.Txt (L2.KOf KX) mg t:=by
   dsimp only [L2.KOf]
   refine' My.txt_mk KX G ?aC_Board ?ga_Board ?rd_Board ?aC_Cloth ?pg_Cloth ?hd_Cloth ?po_Cloth ?sa_Cloth ?mk_Cloth ?kc_Cloth ?na_columns_count ?na_rows_count ?na_col_bits ?na_row_bits ?na_first_colour ?a_isnumber ?F_isnumber ?a_isbelow ?F_isbelow ?a_isbit ?F_isbit ?a_allbits ?F_allbits ?a_isside ?F_isside ?fc_BoardInit ?F_BoardInit ?a_ClothInit ?i_ClothInit ?F_ClothInit ?a_Clothwide ?i_Clothwide ?F_Clothwide ?a_Clothtall ?i_Clothtall ?F_Clothtall ?a_Clothbitsalong ?i_Clothbitsalong ?F_Clothbitsalong ?a_Clothbit ?i_Clothbit ?F_Clothbit ?a_Clothstitched ?i_Clothstitched ?F_Clothstitched ?a_sewnright ?F_sewnright ?a_sewnup ?F_sewnup ?a_joined ?F_joined ?a_walk ?F_walk ?a_toldround ?F_toldround ?a_toldopen ?F_toldopen ?a_seam ?F_seam ?a_firstpoint ?F_firstpoint ?a_seams ?F_seams ?a_rounds ?F_rounds ?a_box ?F_box ?a_walls ?F_walls ?a_inside ?F_inside ?a_area ?F_area ?a_Ldraws ?F_Ldraws ?a_Lbits ?F_Lbits ?a_Lrow ?F_Lrow ?a_Lplan ?F_Lplan ?a_Lmade ?F_Lmade ?a_Lpatch ?F_Lpatch ?a_law ?F_law ?aX_BadSize ?aX_BadBit ?aX_NoLine ?aX_NoStep ?aX_NoPoint ?x_BadSize ?x_BadBit ?x_NoLine ?x_NoStep ?x_NoPoint ?v_LONGEST_SIDE ?z_isinstance ?z_int ?z_bool ?z_all ?z_len ?z_tuple ?z_list ?z_range ?z_abs ?z_str ?z_zip ?z_ValueError ?z_sorted ?z_min ?z_max ?z_reversed
   (case aC_Board | aC_Cloth | aX_BadSize | aX_BadBit | aX_NoLine | aX_NoStep | aX_NoPoint | a_isnumber | a_isbelow | a_isbit | a_allbits | a_isside | a_sewnright | a_sewnup | a_joined | a_walk | a_toldround | a_toldopen | a_seam | a_firstpoint | a_seams | a_rounds | a_box | a_walls | a_inside | a_area | a_Ldraws | a_Lbits | a_Lrow | a_Lplan | a_Lmade | a_Lpatch | a_law=>(unfold My.QNs; k_is))
   (case z_isinstance | z_int | z_bool | z_all | z_len | z_tuple | z_list | z_range | z_abs | z_str | z_zip | z_ValueError | z_sorted | z_min | z_max | z_reversed=>(unfold My.QNn; k_is))
   (case a_ClothInit | a_Clothwide | a_Clothtall | a_Clothbitsalong | a_Clothbit | a_Clothstitched=>(unfold My.QFi; k_is))
   (case ga_Board | rd_Board | pg_Cloth | hd_Cloth | po_Cloth | sa_Cloth | mk_Cloth | kc_Cloth | fc_BoardInit | v_LONGEST_SIDE=>k_is)
   (case na_columns_count | na_rows_count | na_col_bits | na_row_bits | na_first_colour=>(unfold My.QFn; k_is))
   (case i_ClothInit | i_Clothwide | i_Clothtall | i_Clothbitsalong | i_Clothbit | i_Clothstitched=>(unfold My.QIf; k_is))
   (case x_BadSize | x_BadBit | x_NoLine | x_NoStep | x_NoPoint=>(unfold My.QXc; k_exc))
   (case F_isnumber | F_isbelow | F_isbit | F_allbits | F_isside | F_BoardInit | F_ClothInit | F_Clothwide | F_Clothtall | F_Clothbitsalong | F_Clothbit | F_Clothstitched | F_sewnright | F_sewnup | F_joined | F_walk | F_toldround | F_toldopen | F_seam | F_firstpoint | F_seams | F_rounds | F_box | F_walls | F_inside | F_area | F_Ldraws | F_Lbits | F_Lrow | F_Lplan | F_Lmade | F_Lpatch | F_law=>exact L2.fun_mk (by k_is) (by k_is) (by k_is))
  obtain ⟨t,T⟩:=T
  have e0:=hmg.symm.trans T.mg_law
  cases e0
  exact ⟨t.d_law,T.F_law.bl fun _ _ _ _ _ _ _=>rfl,fun base _ _=>My.ok_law T⟩
 case S=>exact fun K H a ns hl _ hS=>⟨a,ns,rfl,hS,hl,fun _=>rfl⟩
 case C=>exact fun _ _ _ _ z=>z
