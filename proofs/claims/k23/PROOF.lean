import PyProof.Rows.All
import Wide.All
import OpenK.AllK
import Wide.FinOn
import Lean
import PyProof.EqAt
import PyProof.EqKinds
import PyProof.TupleCall
import KE.KSortTup
import KE.KItemsList
import KE.KPairComp
import KE.KDictOf
import PyProof.AttrMissHeap
import PySem.Challenge.RW_sashiko_k23_whole_pictures_of_cloths
set_option Elab.async false
set_option linter.all false
set_option maxRecDepth 100000
namespace L2
open PySem PySem.Spec PyProof.Rows
abbrev Key := Sum Int Str
def keyIs : Key → Value → Bool
 | .inl k, v => Value.isInt k v
 | .inr x, v => Value.isStrOf x v
def keyH (w : World) : Key → Int
 | .inl k => hashInt k
 | .inr x => hashStr w x
theorem keyIs_shape : ∀ {k : Key} {v : Value}, keyIs k v = true → (∃ i t, k = Sum.inl i ∧ v = Value.int i t) ∨ (∃ x t, k = Sum.inr x ∧ v = Value.str x t)
 | .inl i, v, h => by
  obtain ⟨t, e⟩ := Value.isInt_shape (k := i) (v := v) h
  exact .inl ⟨i, t, rfl, e⟩
 | .inr x, v, h => by
  obtain ⟨t, e⟩ := Value.isStrOf_shape (x := x) (v := v) h
  exact .inr ⟨x, t, rfl, e⟩
theorem key_ll (a b : Int) : decide ((Sum.inl a : Key) = Sum.inl b) = (a == b) := by
 by_cases e : a = b
 ·subst e; simp
 ·have h : ¬ (Sum.inl a : Key) = Sum.inl b := fun q => e (Sum.inl.inj q)
  rw [decide_eq_false h]
  exact (beq_eq_false_iff_ne.mpr e).symm
theorem key_rr (a b : Str) : decide ((Sum.inr a : Key) = Sum.inr b) = decide (a = b) := by
 by_cases e : a = b
 ·subst e; simp
 ·have h : ¬ (Sum.inr a : Key) = Sum.inr b := fun q => e (Sum.inr.inj q)
  rw [decide_eq_false h, decide_eq_false e]
theorem key_lr (a : Int) (b : Str) : decide ((Sum.inl a : Key) = Sum.inr b) = false := decide_eq_false (fun q => nomatch q)
theorem key_rl (a : Str) (b : Int) : decide ((Sum.inr a : Key) = Sum.inl b) = false := decide_eq_false (fun q => nomatch q)
def mixKind (prog : Program) (w : World) : PySem.KeyKind prog w Key where
 is := keyIs
 hash := keyH w
 inj := fun v a b ha hb => by
  rcases keyIs_shape ha with ⟨i, t, rfl, rfl⟩ | ⟨x, t, rfl, rfl⟩
  ·rcases keyIs_shape hb with ⟨j, u, rfl, e⟩ | ⟨y, u, rfl, e⟩
   ·injection e with e1 _; rw [e1]
   ·exact nomatch e
  ·rcases keyIs_shape hb with ⟨j, u, rfl, e⟩ | ⟨y, u, rfl, e⟩
   ·exact nomatch e
   ·injection e with e1 _; rw [e1]
 byValue := fun k v h => by
  rcases keyIs_shape h with ⟨i, t, rfl, rfl⟩ | ⟨x, t, rfl, rfl⟩ <;> rfl
 pyHash := fun hv h => by
  rcases keyIs_shape hv with ⟨i, t, rfl, rfl⟩ | ⟨x, t, rfl, rfl⟩
  ·exact wpAny_pyHash_int h
  ·exact wpAny_pyHash_str h
 eqBool := fun hu hv h => by
  rcases keyIs_shape hu with ⟨i, t, rfl, rfl⟩ | ⟨x, t, rfl, rfl⟩
  ·rcases keyIs_shape hv with ⟨j, u, rfl, rfl⟩ | ⟨y, u, rfl, rfl⟩
   ·rw [key_ll] at h; exact wpAny_eqBool_int h
   ·rw [key_lr] at h; exact SeqAt.EqAt.int_str i t y u _ _ _ _ h
  ·rcases keyIs_shape hv with ⟨j, u, rfl, rfl⟩ | ⟨y, u, rfl, rfl⟩
   ·rw [key_rl] at h; exact SeqAt.EqAt.str_int x t j u _ _ _ _ h
   ·rw [key_rr] at h; exact wpAny_eqBool_str h
 «strs» := fun k x t v h => by
  rcases keyIs_shape h with ⟨i, u, rfl, e⟩ | ⟨y, u, rfl, e⟩
  ·exact nomatch e
  ·injection e with e1 _
   subst e1
   cases v <;> rfl
end L2
namespace L2
open PySem PySem.Spec PyProof.Rows
inductive V where
 | non | bl (b : Bool) | int (i : Int) | str (x : Str) | byt (b : Array UInt8) | flt (b : UInt64) | ref (a : Addr) | ty (n : String)
 deriving DecidableEq
def RelV : V → Value → Prop
 | .non, u => u = Value.none
 | .bl b, u => u = Value.bool b
 | .int i, u => ∃ t, u = Value.int i t
 | .str x, u => ∃ t, u = Value.str x t
 | .byt b, u => ∃ t, u = Value.bytes b t
 | .flt b, u => ∃ t, u = Value.float b t
 | .ref a, u => u = Value.ref a
 | .ty n, u => u = Value.type n
abbrev Vals : List V → List Value → Prop := Paired RelV
theorem Vals.length {xs : List V} {us : List Value} (r : Vals xs us) : xs.length = us.length := Paired.length r
theorem Vals.get : ∀ {xs : List V} {us : List Value} {i : Nat} {x : V}, Vals xs us → xs[i]? = some x → ∃ u, us[i]? = some u ∧ RelV x u
 | _, _, _, _, .nil, e => by simp at e
 | _, _, 0, _, .cons r _, e => by simp at e; subst e; exact ⟨_, rfl, r⟩
 | _, _, i + 1, x, .cons _ t, e => by
  obtain ⟨u, h1, h2⟩ := Vals.get (i := i) (x := x) t (by simpa using e)
  exact ⟨u, by simpa using h1, h2⟩
theorem Vals.set {x : V} {u : Value} (r : RelV x u) : ∀ {xs : List V} {us : List Value} (i : Nat), Vals xs us → Vals (xs.set i x) (us.set i u)
 | _, _, _, .nil => .nil
 | _, _, 0, .cons _ t => .cons r t
 | _, _, i + 1, .cons q t => .cons q (Vals.set r i t)
theorem Vals.append : ∀ {xs ys : List V} {us ws : List Value}, Vals xs us → Vals ys ws → Vals (xs ++ ys) (us ++ ws)
 | _, _, _, _, .nil, s => s
 | _, _, _, _, .cons r t, s => .cons r (Vals.append t s)
theorem Vals.take : ∀ {xs : List V} {us : List Value} (n : Nat), Vals xs us → Vals (xs.take n) (us.take n)
 | _, _, 0, _ => .nil
 | _, _, _ + 1, .nil => .nil
 | _, _, n + 1, .cons r t => .cons r (Vals.take n t)
theorem Vals.drop : ∀ {xs : List V} {us : List Value} (n : Nat), Vals xs us → Vals (xs.drop n) (us.drop n)
 | _, _, 0, r => r
 | _, _, _ + 1, .nil => .nil
 | _, _, n + 1, .cons _ t => Vals.drop n t
def RelO : Option V → Option Value → Prop
 | some v, some u => RelV v u
 | none, none => True
 | _, _ => False
def KV {κ : Type} : List (κ × V) → List (κ × Value) → Prop := Paired fun (p : κ × V) (q : κ × Value) => p.1 = q.1 ∧ RelV p.2 q.2
def kV : Key → V
 | .inl i => .int i
 | .inr x => .str x
inductive HO where
 | lst (xs : List V)
 | tup (xs : List V)
 | dK (kvs : List (Key × V)) | dT (kvs : List (List Key × V))
 | set (S : Int → Bool) (n : Nat)
 | ins (C dx : Addr) (fs : List (Str × V))
 | own (x : Addr)
 | xd (fs : List (Str × V))
 | met (f x : Addr)
 | rng (lo hi : Int)
 | frz (o : Obj) (u : HO)
 | tbl (ps : Array Value)
 | ext (φ : Heap → Prop)
abbrev Hp := Addr → Option HO
def upd (H : Hp) (a : Addr) (o : HO) : Hp := fun b => if b = a then some o else H b
theorem upd_same {H : Hp} {a : Addr} {o : HO} : upd H a o a = some o := by unfold upd; rw [if_pos rfl]
theorem upd_ne {H : Hp} {a b : Addr} {o : HO} (h : b ≠ a) : upd H a o b = H b := by unfold upd; rw [if_neg h]
theorem upd_upd {H : Hp} {a : Addr} {o u : HO} : upd (upd H a o) a u = upd H a u := by
 funext b; unfold upd; split <;> rfl
theorem ne_of {H : Hp} {a b : Addr} {o u : HO} (h : H a = some o) (h' : H b = some u) (d : o ≠ u) : a ≠ b := by
 intro e; subst e; rw [h] at h'; exact d (Option.some.inj h')
theorem ne_of_none {H : Hp} {a b : Addr} {o : HO} (h : H a = some o) (h' : H b = none) : a ≠ b := by
 intro e; subst e; rw [h] at h'; cases h'
section
variable (P : Program) (w : World)
def ObjOk (H : Hp) (h : Heap) (a : Addr) : HO → Prop
  | .lst xs => xs.length ≤ sizeLine ∧ ∃ (its : List Value) (n : Nat), Vals xs its ∧ h.get? a = some { cls := .type "list", data := .seq its.toArray n }
  | .tup xs => xs.length ≤ sizeLine ∧ ∃ its : List Value, Vals xs its ∧ IsTup h a its.toArray
  | .dK kvs => kvs.length ≤ sizeLine ∧ (a == sysModules) = false ∧ ∃ vs, KV kvs vs ∧ h.DictOf (mixKind P w) a vs
  | .dT kvs => kvs.length ≤ sizeLine ∧ (a == sysModules) = false ∧ ∃ xs : List (List Key × Addr × Value),
      Paired (fun (p : List Key × V) (q : List Key × Addr × Value) => p.1 = q.1 ∧ H q.2.1 = some (.tup (p.1.map kV)) ∧ RelV p.2 q.2.2) kvs xs ∧
      ∃ o es ep, h.get? a = some o ∧ o.ExactDict ∧ o.data = .dict es ep ∧ es.toList = xs.map (entryOfKey (tupleKind (mixKind P w))) ∧ (xs.map (·.1)).Nodup
  | .set S n => h.SetOf (intKind P w) a S n
  | .ins C dx fs => H dx = some (.own a) ∧ fs.length ≤ 1000 ∧ dx ≠ a ∧ h.get? a = some (PySem.W.instObj C dx) ∧
      ∃ mA, h.Ns1 dx mA ∧ (∀ f, RelO (fs.lookup f) (mA f)) ∧ PySem.Within mA (fs.map (·.1))
  | .own _ => ∃ o, h.get? a = some o
  | .xd fs => ∃ mA, h.Ns1 a mA ∧ ∀ f, RelO (fs.lookup f) (mA f)
  | .rng lo hi => ∃ t u v, h.get? a = some { cls := .type "range", data := .fields #[.int lo t, .int hi u, .int 1 v] }
  | .frz o u => h.get? a = some o ∧ ObjOk H h a u
  | .tbl ps => h.get? a = some { cls := .none, data := .fields ps }
  | .met f x => h.get? a = some (PySem.W.methodObj (.ref f) (.ref x))
  | .ext φ => φ h ∧ (∃ o, h.get? a = some o) ∧ ∀ h1 h2 : Heap, φ h1 → (∀ o, h1.get? a = some o → h2.get? a = some o) → φ h2
def HOk (H : Hp) (h : Heap) : Prop := ∀ a o, H a = some o → ObjOk P w H h a o
end
section
variable {P : Program} {w : World} {H H' : Hp} {h h' : Heap} {a : Addr} {o : HO}
theorem ObjOk.lt (x : ObjOk P w H h a o) : a < h.objs.size := by
 cases o with
 | lst xs => obtain ⟨_, _, _, _, e⟩ := x; exact Heap.lt_size e
 | tup xs => obtain ⟨_, _, _, p⟩ := x; exact p.lt
 | dK kvs => obtain ⟨_, _, _, _, o, _, _, e, _⟩ := x; exact Heap.lt_size e
 | dT kvs => obtain ⟨_, _, _, _, o, _, _, e, _⟩ := x; exact Heap.lt_size e
 | set S n => obtain ⟨o, _, _, _, e, _⟩ := x; exact Heap.lt_size e
 | ins C dx fs => obtain ⟨_, _, _, e, _⟩ := x; exact Heap.lt_size e
 | own y => obtain ⟨_, e⟩ := x; exact Heap.lt_size e
 | xd fs => obtain ⟨_, ⟨_, _, _, e, _⟩, _⟩ := x; exact Heap.lt_size e
 | rng lo hi => obtain ⟨_, _, _, e⟩ := x; exact Heap.lt_size e
 | frz ob u => obtain ⟨e, _⟩ := x; exact Heap.lt_size e
 | tbl ps => exact Heap.lt_size (show h.get? a = some _ from x)
 | met f y => exact Heap.lt_size (show h.get? a = some _ from x)
 | ext φ => obtain ⟨_, ⟨_, e⟩, _⟩ := x; exact Heap.lt_size e
theorem Paired.mapP {α β : Type} {F G : α → β → Prop} : ∀ {l₁ : List α} {l₂ : List β}, Paired F l₁ l₂ → (∀ a b, F a b → G a b) → Paired G l₁ l₂
 | _, _, .nil, _ => .nil
 | _, _, .cons r t, f => .cons (f _ _ r) (Paired.mapP t f)
theorem ObjOk.stay (x : ObjOk P w H h a o) (k : ∀ b u, (b = a ∨ H b = some (.own a)) → h.get? b = some u → h'.get? b = some u)
  (ho : ∀ b, H b = some (.own a) → H' b = some (.own a)) (ht : ∀ b xs, H b = some (.tup xs) → H' b = some (.tup xs)) : ObjOk P w H' h' a o := by
 induction o with
 | lst xs => obtain ⟨z, its, n, r, e⟩ := x; exact ⟨z, its, n, r, k _ _ (.inl rfl) e⟩
 | tup xs => obtain ⟨z, its, r, ob, e, c⟩ := x; exact ⟨z, its, r, ob, k _ _ (.inl rfl) e, c⟩
 | dK kvs => obtain ⟨z, y, vs, r, ob, es, ep, e, c⟩ := x; exact ⟨z, y, vs, r, ob, es, ep, k _ _ (.inl rfl) e, c⟩
 | dT kvs =>
  obtain ⟨z, y, xs, r, ob, es, ep, e, c⟩ := x
  exact ⟨z, y, xs, Paired.mapP r fun p q z => ⟨z.1, ht _ _ z.2.1, z.2.2⟩, ob, es, ep, k _ _ (.inl rfl) e, c⟩
 | set S n => obtain ⟨ob, es, ep, t, e, c⟩ := x; exact ⟨ob, es, ep, t, k _ _ (.inl rfl) e, c⟩
 | ins C dx fs =>
  obtain ⟨d, z, ne, e, mA, ⟨od, es, ep, e2, c⟩, r⟩ := x
  exact ⟨ho _ d, z, ne, k _ _ (.inl rfl) e, mA, ⟨od, es, ep, k _ _ (.inr d) e2, c⟩, r⟩
 | own y => obtain ⟨ob, e⟩ := x; exact ⟨ob, k _ _ (.inl rfl) e⟩
 | xd fs => obtain ⟨mA, ⟨od, es, ep, e, c⟩, r⟩ := x; exact ⟨mA, ⟨od, es, ep, k _ _ (.inl rfl) e, c⟩, r⟩
 | rng lo hi => obtain ⟨t, u, v, e⟩ := x; exact ⟨t, u, v, k _ _ (.inl rfl) e⟩
 | frz ob u ih => obtain ⟨e, q⟩ := x; exact ⟨k _ _ (.inl rfl) e, ih q⟩
 | tbl ps =>
  have e : h.get? a = some { cls := .none, data := .fields ps } := x
  show h'.get? a = some { cls := .none, data := .fields ps }
  exact k a _ (.inl rfl) e
 | met f y =>
  have e : h.get? a = some (PySem.W.methodObj (.ref f) (.ref y)) := x
  show h'.get? a = some (PySem.W.methodObj (.ref f) (.ref y))
  exact k a _ (.inl rfl) e
 | ext φ => obtain ⟨p, ⟨o, e⟩, st⟩ := x; exact ⟨st _ _ p fun o q => k _ _ (.inl rfl) q, ⟨o, k _ _ (.inl rfl) e⟩, st⟩
theorem HOk.lt (x : HOk P w H h) (e : H a = some o) : a < h.objs.size := (x a o e).lt
theorem HOk.fresh (x : HOk P w H h) (e : h.objs.size ≤ a) : H a = none := by
 cases q : H a with
 | none => rfl
 | some u => exact absurd (Nat.lt_of_lt_of_le (x.lt q) e) (Nat.lt_irrefl _)
theorem HOk.kept (x : HOk P w H h) (k : ∀ b u, h.get? b = some u → h'.get? b = some u) : HOk P w H h' := fun a o e =>
 (x a o e).stay (fun b u _ q => k b u q) (fun _ q => q) fun _ _ q => q
theorem HOk.laid (x : HOk P w H h) (k : ∀ b u, h.get? b = some u → h'.get? b = some u) (hp : h.objs.size ≤ a) (new : ObjOk P w (upd H a o) h' a o) : HOk P w (upd H a o) h' := fun b u e => by
 have hn := x.fresh hp
 by_cases hb : b = a
 ·subst hb; rw [upd_same] at e; cases e; exact new
 ·rw [upd_ne hb] at e
  exact (x b u e).stay (fun c v _ q => k c v q) (fun c q => by rw [upd_ne (ne_of_none q hn)]; exact q) fun c xs q => by rw [upd_ne (ne_of_none q hn)]; exact q
end
def Rd (H : Hp) (a : Addr) (u : HO) : Prop := H a = some u ∨ ∃ o, H a = some (.frz o u)
theorem Rd.ok {P : Program} {w : World} {H : Hp} {h : Heap} {a : Addr} {u : HO} (r : Rd H a u) (x : HOk P w H h) : ObjOk P w H h a u := by
 rcases r with r | ⟨o, r⟩
 ·exact x a u r
 ·obtain ⟨_, q⟩ := x a _ r
  exact q
def Mut : Option HO → Prop
 | some (.lst _) => True
 | some (.dK _) => True
 | some (.dT _) => True
 | some (.set _ _) => True
 | some (.ins _ _ _) => True
 | some (.ext _) => True
 | _ => False
section
variable {P : Program} {w : World} {H : Hp} {h h' : Heap} {x e : Addr} {o' : HO}
theorem HOk.write (ok : HOk P w H h) (mu : Mut (H x)) (he : e = x ∨ H e = some (.own x)) (k : ∀ b u, b ≠ e → h.get? b = some u → h'.get? b = some u) (heo : ∃ u, h'.get? e = some u)
    (new : ObjOk P w (upd H x o') h' x o') : HOk P w (upd H x o') h' := fun b u q => by
  have nown : ∀ c y, H c = some (.own y) → c ≠ x := fun c y r z => by subst z; rw [r] at mu; exact mu
  have ntup : ∀ c xs, H c = some (.tup xs) → c ≠ x := fun c xs r z => by subst z; rw [r] at mu; exact mu
  by_cases hb : b = x
  · subst hb; rw [upd_same] at q; cases q; exact new
  · rw [upd_ne hb] at q
    by_cases hbe : b = e
    · have q' : H b = some (.own x) := by
        rcases he with z | z
        · exact absurd (hbe.trans z) hb
        · rw [hbe]; exact z
      rw [q] at q'; cases q'
      obtain ⟨v, hv⟩ := heo
      exact ⟨v, by rw [hbe]; exact hv⟩
    · refine (ok b u q).stay (fun c v hc r => k c v ?_ r) (fun c r => by rw [upd_ne (nown c b r)]; exact r) fun c xs r => by rw [upd_ne (ntup c xs r)]; exact r
      rcases hc with rfl | hc
      · exact hbe
      · rintro rfl
        rcases he with z | z
        · exact nown c b hc z
        · rw [hc] at z; cases z; exact hb rfl
end
structure Un (fs ex : List Addr) (H H' : Hp) (h h' : Heap) : Prop where
 keep : ∀ b o, h.get? b = some o → H b = none → b ∉ fs → b ∉ ex → h'.get? b = some o
 slot : ∀ b o, h.get? b = some o → H b = none → b ∈ fs → b ∉ ex → ∃ sl, h'.get? b = some { o with slots := sl }
 free : ∀ b o, h.get? b = some o → H b = none → b ∉ ex → H' b = none
 there : ∀ b o, h.get? b = some o → b ∉ ex → ∃ o', h'.get? b = some o'
 tups : ∀ b xs, H b = some (.tup xs) → H' b = some (.tup xs)
 frzs : ∀ b o u, H b = some (.frz o u) → H' b = some (.frz o u)
 tbls : ∀ b ps, H b = some (.tbl ps) → ∃ more, H' b = some (.tbl (ps ++ more))
section
variable {fs fs' ex ex' : List Addr} {H H1 H2 : Hp} {h h1 h2 h' : Heap} {a x e : Addr} {o : HO}
theorem Un.any (u : Un fs ex H H1 h h1) {b : Addr} {ob : Obj} (q : h.get? b = some ob) (n : H b = none) (hx : b ∉ ex) : ∃ sl, h1.get? b = some { ob with slots := sl } := by
 by_cases hb : b ∈ fs
 ·exact u.slot b ob q n hb hx
 ·exact ⟨ob.slots, u.keep b ob q n hb hx⟩
theorem Un.kept (k : ∀ b u, h.get? b = some u → h'.get? b = some u) : Un fs ex H H h h' :=
 ⟨fun b ob q _ _ _ => k b ob q, fun b ob q _ _ _ => ⟨ob.slots, k b ob q⟩, fun _ _ _ n _ => n, fun b ob q _ => ⟨ob, k b ob q⟩, fun _ _ q => q, fun _ _ _ q => q, fun _ ps q => ⟨#[], by rw [q]; simp⟩⟩
theorem Un.refl : Un fs ex H H h h := Un.kept fun _ _ q => q
theorem Un.laid (k : ∀ b u, h.get? b = some u → h'.get? b = some u) (hp : h.objs.size ≤ a) (hn : H a = none) : Un fs ex H (upd H a o) h h' where
 keep := fun b u q _ _ _ => k b u q
 slot := fun b u q _ _ _ => ⟨u.slots, k b u q⟩
 free := fun b u q n _ => by rw [upd_ne (Nat.ne_of_lt (Nat.lt_of_lt_of_le (Heap.lt_size q) hp))]; exact n
 there := fun b u q _ => ⟨u, k b u q⟩
 tups := fun b xs q => by rw [upd_ne (ne_of_none q hn)]; exact q
 frzs := fun b u xs q => by rw [upd_ne (ne_of_none q hn)]; exact q
 tbls := fun b ps q => ⟨#[], by rw [upd_ne (ne_of_none q hn), q]; simp⟩
theorem Un.write (mu : Mut (H x)) (he : e = x ∨ H e = some (.own x)) (k : ∀ b u, b ≠ e → h.get? b = some u → h'.get? b = some u) (heo : ∃ u, h'.get? e = some u) : Un fs ex H (upd H x o) h h' := by
 have hx : ∀ b, H b = none → b ≠ x := fun b n z => by subst z; rw [n] at mu; exact mu
 have hb : ∀ b, H b = none → b ≠ e := fun b n z => by
  subst z
  rcases he with r | r
  ·exact hx b n r
  ·rw [n] at r; cases r
 have hm : ∀ b u, H b = some u → ¬ Mut (some u) → b ≠ x := fun b u q nm z => by subst z; rw [q] at mu; exact nm mu
 refine ⟨fun b u q n _ _ => k b u (hb b n) q, fun b u q n _ _ => ⟨u.slots, k b u (hb b n) q⟩, fun b u q n _ => by rw [upd_ne (hx b n)]; exact n, fun b u q _ => ?_,
  fun b xs q => by rw [upd_ne (hm b _ q fun z => z)]; exact q, fun b u xs q => by rw [upd_ne (hm b _ q fun z => z)]; exact q, fun b ps q => ⟨#[], by rw [upd_ne (hm b _ q fun z => z), q]; simp⟩⟩
 by_cases hbe : b = e
 ·subst hbe; exact heo
 ·exact ⟨u, k b u hbe q⟩
end
def trk (h : Heap) (H : Hp) : List Addr := (List.range h.objs.size).filter fun a => (H a).isSome
def hidT (h : Heap) (H : Hp) : Heap := PySem.W.hideAll h (trk h H)
theorem hidT_size (h : Heap) (H : Hp) : (hidT h H).objs.size = h.objs.size := PySem.W.hideAll_size _ _
theorem hidT_get {h : Heap} {H : Hp} {b : Addr} {o : Obj} (e : h.get? b = some o) (n : H b = none) : (hidT h H).get? b = some o :=
 PySem.W.hideAll_get _ e fun hm => by
  have q : (H b).isSome = true := (List.mem_filter.mp hm).2
  rw [n] at q; simp at q
theorem of_hidT {h : Heap} {H : Hp} {b : Addr} {o : Obj} (e : (hidT h H).get? b = some o) : h.get? b = some o ∧ H b = none := by
 have e' : h.get? b = some o := PySem.W.of_hideAll (trk h H) e
 refine ⟨e', ?_⟩
 cases q : H b with
 | none => rfl
 | some x =>
  have hm : b ∈ trk h H := List.mem_filter.mpr ⟨List.mem_range.mpr (Heap.lt_size e'), by simp [q]⟩
  have z : (hidT h H).get? b = none := PySem.W.hideAll_none (trk h H) hm
  rw [z] at e; cases e
def allNews (g h : Heap) (L : Addr) : List (Addr × Obj) := (List.range h.objs.size).filterMap fun a => if a = L ∨ (g.get? a).isSome = true then none else (h.get? a).map fun o => (a, o)
def rest (g h : Heap) (L d : Addr) : List (Addr × Obj) := (allNews g h L).filter fun p => decide (p.1 ≠ d)
end L2
namespace L2
open PySem PySem.Spec PyProof.Rows
structure Mod (K : PySem.W.Frag) (mg : Str → Option Value) (base : Heap) : Prop where
 kin : K.In base
 glob : base.Ns mainGlobals mg
 blt : ∃ mb, base.Ns builtinsNs mb ∧ ∀ x : Str, x ≠ "__name__" → mb x = bootBuiltins x
 nolimit : base.NoLimit
structure Cx where
 prog : Program
 w : World
 K : PySem.W.Frag
 mg : Str → Option Value
 base : Heap
 A : Around
 N : List Str
 s₀ : Shared
 H₀ : Hp
 env : Env
 outer : List Env
 stack : List Env
 ex : List Addr
 fn : Str → Bool
 calm : Bool
 pn : List (Addr × Obj)
 xe : Value → Shared → Prop
def frs (l : List Env) : List Addr := l.filterMap (·.frame)
abbrev Cx.fs (X : Cx) : List Addr := frs X.outer
def Vis (sc : Scope) (x : Str) : Prop := sc.names.lookup x = some .local ∨ sc.names.lookup x = some .cell ∨ sc.names.lookup x = some .free
def Loc (sc : Scope) (x : Str) : Prop := sc.names.lookup x = some .local ∨ sc.names.lookup x = some .cell
def Look (env : Env) (h : Heap) (m : Str → Option Value) (x : Str) (u : Value) : Prop :=
 (env.kindOf x = some .local ∧ m x = some u) ∨ ((env.kindOf x = some .cell ∨ env.kindOf x = some .free) ∧ ∃ c, env.cells.lookup x = some c ∧ h.IsCell c (some u))
structure Cx.Ok (X : Cx) : Prop where
 mod : Mod X.K X.mg X.base
 kind : X.env.scope.kind = .function
 glob : X.env.globals = mainGlobals
 blt : X.env.builtins = builtinsNs
 above : X.s₀.heap.objs.size ≤ X.env.locals
 inj : ∀ x y c, X.env.cells.lookup x = some c → X.env.cells.lookup y = some c → x = y
 has : ∀ x, (X.env.kindOf x = some .cell ∨ X.env.kindOf x = some .free) → ∃ c, X.env.cells.lookup x = some c
 cab : ∀ x c, X.fn x = true → X.env.cells.lookup x = some c → X.s₀.heap.objs.size ≤ c
 hd : X.calm = true → X.A.handled = none
 frames : X.A.frames = some X.stack
 stk : X.stack = X.outer ∨ (X.stack = X.env :: X.outer ∧ X.env.frame = some X.env.locals)
 exf : ∀ b ∈ X.ex, b ≠ X.env.locals ∧ ∀ x c, X.env.cells.lookup x = some c → c ≠ b
 bs : ∀ b o, X.base.get? b = some o → X.s₀.heap.get? b = some o ∧ X.H₀ b = none
 bsz : X.base.objs.size ≤ X.s₀.heap.objs.size
 noex : ∀ b o, X.base.get? b = some o → b ∉ X.ex
 exfs : ∀ b ∈ X.ex, b ∉ X.fs
 funs : X.s₀.heap.FunFrames X.base X.outer
 frf : ∀ b ∈ X.fs, X.H₀ b = none
structure Inv (X : Cx) (pins : List (Addr × Obj)) (σ : List (Option V)) (H : Hp) (s : Shared) : Prop where
 ok : X.Ok
 os : s.os = X.s₀.os
 bare : AllBare s.gens
 base : Un X.fs X.ex X.H₀ H X.s₀.heap s.heap
 loc : ∃ m, s.heap.Ns X.env.locals m ∧ ∀ (i : Nat) (x : Str) (v : V), X.N[i]? = some x → σ[i]? = some (some v) → Vis X.env.scope x → ∃ u, RelV v u ∧ Look X.env s.heap m x u
 cell : ∀ x c, X.env.cells.lookup x = some c → ∃ v, s.heap.IsCell c v
 free : H X.env.locals = none
 freeC : ∀ x c, X.env.cells.lookup x = some c → H c = none
 pin : ∀ p ∈ X.pn ++ pins, s.heap.get? p.1 = some p.2 ∧ H p.1 = none ∧ p.1 ≠ X.env.locals ∧ p.1 ∉ X.fs ∧ ∀ v, p.2.data ≠ .cell v
 hok : HOk X.prog X.w H s.heap
 len : σ.length = X.N.length
section
variable {X : Cx} {pins : List (Addr × Obj)} {σ : List (Option V)} {H H' : Hp} {s : Shared} {h' : Heap}
theorem Cx.Ok.nofr (ok : X.Ok) {b : Addr} {o : Obj} (e : X.base.get? b = some o) : b ∉ X.fs := fun hb => by
 have := (ok.funs.mem hb).1
 rw [e] at this; cases this
theorem Inv.bs (I : Inv X pins σ H s) : ∀ b o, X.base.get? b = some o → s.heap.get? b = some o ∧ H b = none := fun b o e =>
 ⟨I.base.keep b o (I.ok.bs b o e).1 (I.ok.bs b o e).2 (I.ok.nofr e) (I.ok.noex b o e), I.base.free b o (I.ok.bs b o e).1 (I.ok.bs b o e).2 (I.ok.noex b o e)⟩
theorem Inv.bk (I : Inv X pins σ H s) : ∀ b o, X.base.get? b = some o → s.heap.get? b = some o := fun b o e => (I.bs b o e).1
theorem Inv.mod (I : Inv X pins σ H s) : Mod X.K X.mg X.base := I.ok.mod
theorem Inv.kIn (I : Inv X pins σ H s) : X.K.In s.heap := I.ok.mod.kin.keeps I.bk
theorem Inv.lt (I : Inv X pins σ H s) : X.env.locals < s.heap.objs.size := let ⟨_, hn, _⟩ := I.loc; hn.lt
theorem Inv.sz (I : Inv X pins σ H s) : X.s₀.heap.objs.size ≤ s.heap.objs.size := Nat.le_trans I.ok.above (Nat.le_of_lt I.lt)
theorem Inv.nofs (I : Inv X pins σ H s) {a : Addr} (h : s.heap.objs.size ≤ a) : a ∉ X.fs := fun hb => by
 obtain ⟨_, o, ho, _⟩ := I.ok.funs.mem hb
 exact absurd (Nat.lt_of_lt_of_le (Heap.lt_size ho) (Nat.le_trans I.sz h)) (Nat.lt_irrefl _)
theorem Inv.cne (I : Inv X pins σ H s) : ∀ x c, X.env.cells.lookup x = some c → c ≠ X.env.locals := fun x c e z => by
 obtain ⟨v, o, ho, hd⟩ := I.cell x c e
 obtain ⟨m, ⟨o', es, ep, ho', hd', _⟩, _⟩ := I.loc
 rw [z, ho'] at ho; cases ho; rw [hd'] at hd; cases hd
theorem Inv.funs (I : Inv X pins σ H s) : s.heap.FunFrames X.base X.outer := by
 have all : ∀ (l : List Env), (∀ b ∈ frs l, b ∈ X.fs) → X.s₀.heap.FunFrames X.base l → s.heap.FunFrames X.base l := by
  intro l
  induction l with
  | nil => intro _ _; trivial
  | cons env r ih =>
   intro hs hl
   obtain ⟨hk, ⟨L, o, hf, hn, ho, hd⟩, hr⟩ := hl
   have hL : L ∈ X.fs := hs L (by unfold frs; rw [List.filterMap_cons, hf]; exact List.mem_cons_self)
   obtain ⟨sl, e⟩ := I.base.slot L o ho (I.ok.frf L hL) hL fun z => I.ok.exfs L z hL
   exact ⟨hk, ⟨L, _, hf, hn, e, hd⟩, ih (fun b hb => hs b (by unfold frs; rw [List.filterMap_cons, hf]; exact List.mem_cons_of_mem _ hb)) hr⟩
 exact all X.outer (fun _ hb => hb) I.ok.funs
theorem Inv.stack (I : Inv X pins σ H s) : s.heap.FunFrames X.base X.stack := by
 rcases I.ok.stk with e | ⟨e, hf⟩
 ·rw [e]; exact I.funs
 ·rw [e]
  obtain ⟨m, hn, _⟩ := I.loc
  refine .cons (by rw [I.ok.kind]; decide) hf hn ?_ I.funs
  exact Heap.get?_none_of_le (Nat.le_trans I.ok.bsz I.ok.above)
theorem Inv.stkSub (I : Inv X pins σ H s) : ∀ b ∈ frs X.stack, b ∈ X.env.locals :: X.fs := fun b hb => by
 rcases I.ok.stk with e | ⟨e, hf⟩
 ·rw [e] at hb; exact List.mem_cons_of_mem _ hb
 ·rw [e] at hb
  unfold frs at hb
  rw [List.filterMap_cons, hf] at hb
  exact hb
theorem Inv.stkFree (I : Inv X pins σ H s) : ∀ b ∈ frs X.stack, H b = none := fun b hb => by
 rcases List.mem_cons.mp (I.stkSub b hb) with e | hb
 ·rw [e]; exact I.free
 ·obtain ⟨_, o, ho, _⟩ := I.ok.funs.mem hb
  exact I.base.free b o ho (I.ok.frf b hb) fun z => I.ok.exfs b z hb
theorem Inv.step {g' : Array GenState} {t' : Nat} {d' : Drawn} {ch : List Addr} (I : Inv X pins σ H s)
  (hch : ∀ b ∈ ch, (b ∈ X.ex ∨ X.s₀.heap.objs.size ≤ b) ∧ b ≠ X.env.locals ∧ (∀ x c, X.env.cells.lookup x = some c → c ≠ b) ∧ ∀ p ∈ X.pn ++ pins, p.1 ≠ b)
  (keep : ∀ b o, b ≠ X.env.locals → b ∉ X.fs → b ∉ ch → s.heap.get? b = some o → H b = none → h'.get? b = some o)
  (slot : ∀ b o, b ≠ X.env.locals → b ∈ X.fs → b ∉ ch → s.heap.get? b = some o → H b = none → ∃ sl, h'.get? b = some { o with slots := sl }) (free : ∀ b o, b ∉ ch → s.heap.get? b = some o → H b = none → H' b = none)
  (there : ∀ b o, b ∉ ch → s.heap.get? b = some o → ∃ o', h'.get? b = some o')
  (tups : ∀ b xs, H b = some (.tup xs) → H' b = some (.tup xs)) (frzs : ∀ b o u, H b = some (.frz o u) → H' b = some (.frz o u)) (tbls : ∀ b ps, H b = some (.tbl ps) → ∃ more, H' b = some (.tbl (ps ++ more)))
  (ns : ∀ m, s.heap.Ns X.env.locals m → h'.Ns X.env.locals m) (hok : HOk X.prog X.w H' h') (hg : AllBare g') :
  Inv X pins σ H' { s with heap := h', gens := g', drawn := d', toks := t' } := by
 have neL : ∀ b o, X.s₀.heap.get? b = some o → b ≠ X.env.locals := fun b o e => Nat.ne_of_lt (Nat.lt_of_lt_of_le (Heap.lt_size e) I.ok.above)
 have neC : ∀ b o, X.s₀.heap.get? b = some o → b ∉ X.ex → b ∉ ch := fun b o e hx hb => by
  rcases (hch b hb).1 with z | z
  ·exact hx z
  ·exact absurd (Nat.lt_of_lt_of_le (Heap.lt_size e) z) (Nat.lt_irrefl _)
 have cellK : ∀ x c, X.env.cells.lookup x = some c → ∀ v, s.heap.IsCell c v → h'.IsCell c v := fun x c e v ⟨o, ho, hd⟩ => by
  have nch : c ∉ ch := fun z => (hch c z).2.2.1 x c e rfl
  by_cases hc : c ∈ X.fs
  ·obtain ⟨sl, q⟩ := slot c o (I.cne x c e) hc nch ho (I.freeC x c e)
   exact ⟨_, q, hd⟩
  ·exact ⟨o, keep c o (I.cne x c e) hc nch ho (I.freeC x c e), hd⟩
 refine ⟨I.ok, I.os, hg, ⟨fun b o e n hb hx => ?_, fun b o e n hb hx => ?_, fun b o e n hx => ?_, fun b o e hx => ?_, fun b xs e => tups b xs (I.base.tups b xs e), fun b o xs e => frzs b o xs (I.base.frzs b o xs e), fun b ps e => ?_⟩, ?_, fun x c e => ?_, ?_, fun x c e => ?_, fun p hp => ?_, hok, I.len⟩
 ·exact keep b o (neL b o e) hb (neC b o e hx) (I.base.keep b o e n hb hx) (I.base.free b o e n hx)
 ·obtain ⟨sl, e1⟩ := I.base.slot b o e n hb hx
  obtain ⟨sl', e2⟩ := slot b _ (neL b o e) hb (neC b o e hx) e1 (I.base.free b o e n hx)
  exact ⟨sl', e2⟩
 ·obtain ⟨o', e1⟩ := I.base.there b o e hx
  exact free b o' (neC b o e hx) e1 (I.base.free b o e n hx)
 ·obtain ⟨o', e1⟩ := I.base.there b o e hx
  exact there b o' (neC b o e hx) e1
 ·obtain ⟨m1, e1⟩ := I.base.tbls b ps e
  obtain ⟨m2, e2⟩ := tbls b _ e1
  exact ⟨m1 ++ m2, by rw [e2, Array.append_assoc]⟩
 ·obtain ⟨m, hn, hl⟩ := I.loc
  refine ⟨m, ns m hn, fun i x v e1 e2 e3 => ?_⟩
  obtain ⟨u, r, l⟩ := hl i x v e1 e2 e3
  refine ⟨u, r, ?_⟩
  rcases l with l | ⟨k, c, e, z⟩
  ·exact .inl l
  ·exact .inr ⟨k, c, e, cellK x c e _ z⟩
 ·obtain ⟨v, z⟩ := I.cell x c e
  exact ⟨v, cellK x c e v z⟩
 ·obtain ⟨m, ⟨o, _, _, ho, _⟩, _⟩ := I.loc
  exact free _ o (fun z => (hch _ z).2.1 rfl) ho I.free
 ·obtain ⟨v, o, ho, hd⟩ := I.cell x c e
  exact free c o (fun z => (hch c z).2.2.1 x c e rfl) ho (I.freeC x c e)
 ·obtain ⟨e, n, ne, nf, d⟩ := I.pin p hp
  have nch : p.1 ∉ ch := fun z => (hch p.1 z).2.2.2 p hp rfl
  exact ⟨keep p.1 p.2 ne nf nch e n, free p.1 p.2 nch e n, ne, nf, d⟩
theorem Inv.un {t' : Nat} (I : Inv X pins σ H s) (u : Un X.fs [] H H' s.heap h') (hok : HOk X.prog X.w H' h') : Inv X pins σ H' { s with heap := h', toks := t' } := by
 obtain ⟨m, ⟨o, es, ep, ho, r⟩, _⟩ := id I.loc
 obtain ⟨sl, hL⟩ := u.any ho I.free (by simp)
 exact I.step (g' := s.gens) (d' := s.drawn) (ch := []) (fun _ z => nomatch z) (fun b o _ hb _ e n => u.keep b o e n hb (by simp)) (fun b o _ hb _ e n => u.slot b o e n hb (by simp)) (fun b o _ e n => u.free b o e n (by simp)) (fun b o _ e => u.there b o e (by simp)) u.tups u.frzs u.tbls (fun m' hm => by
  obtain ⟨o', es', ep', ho', r'⟩ := hm
  rw [ho] at ho'; cases ho'
  exact ⟨_, es', ep', hL, r'⟩) hok I.bare
theorem Inv.call {g' : Array GenState} {t' : Nat} {d' : Drawn} {ch : List Addr} (I : Inv X pins σ H s) (u : Un (frs X.stack) ch H H' s.heap h') (hok : HOk X.prog X.w H' h') (hg : AllBare g')
  (hch : ∀ b ∈ ch, (b ∈ X.ex ∨ X.s₀.heap.objs.size ≤ b) ∧ b ≠ X.env.locals ∧ (∀ x c, X.env.cells.lookup x = some c → c ≠ b) ∧ ∀ p ∈ X.pn ++ pins, p.1 ≠ b) :
  Inv X pins σ H' { s with heap := h', gens := g', drawn := d', toks := t' } := by
 obtain ⟨m, ⟨o, es, ep, ho, r⟩, _⟩ := id I.loc
 obtain ⟨sl, hL⟩ := u.any ho I.free fun z => (hch _ z).2.1 rfl
 exact I.step (ch := ch) hch (fun b o hL hb hc e n => u.keep b o e n (fun z => (List.mem_cons.mp (I.stkSub b z)).elim hL hb) hc) (fun b o _ _ hc e n => u.any e n hc) (fun b o hc e n => u.free b o e n hc) (fun b o hc e => u.there b o e hc) u.tups u.frzs u.tbls (fun m' hm => by
  obtain ⟨o', es', ep', ho', r'⟩ := hm
  rw [ho] at ho'; cases ho'
  exact ⟨_, es', ep', hL, r'⟩) hok hg
theorem Inv.turned {t' : Nat} {it : Addr} (I : Inv X pins σ H s) (k : ∀ b o, b ≠ it → s.heap.get? b = some o → h'.get? b = some o) (hn : H it = none) (hL : it ≠ X.env.locals)
  (h1 : it ∈ X.ex ∨ X.s₀.heap.objs.size ≤ it) (h2 : ∀ x c, X.env.cells.lookup x = some c → c ≠ it) (h3 : ∀ p ∈ X.pn ++ pins, p.1 ≠ it) : Inv X pins σ H { s with heap := h', toks := t' } := by
 have nit : ∀ b u, H b = some u → b ≠ it := fun b u e z => by rw [z, hn] at e; cases e
 refine I.step (g' := s.gens) (d' := s.drawn) (ch := [it]) (fun b hb => ?_) (fun b o _ _ hc e _ => k b o (fun z => hc (by simp [z])) e) (fun b o _ _ hc e _ => ⟨o.slots, k b o (fun z => hc (by simp [z])) e⟩) (fun _ _ _ _ n => n)
  (fun b o hc e => ⟨o, k b o (fun z => hc (by simp [z])) e⟩) (fun _ _ e => e) (fun _ _ _ e => e) (fun b ps e => ⟨#[], by rw [e]; simp⟩) (fun m hm => ?_) (fun b u e => ?_) I.bare
 ·have e : b = it := by simpa using hb
  subst e
  exact ⟨h1, hL, h2, h3⟩
 ·obtain ⟨o, es, ep, ho, r⟩ := hm
  exact ⟨o, es, ep, k _ o (Ne.symm hL) ho, r⟩
 ·refine (I.hok b u e).stay (fun c v hc q => k c v ?_ q) (fun _ q => q) fun _ _ q => q
  rcases hc with z | z
  ·rw [z]; exact nit b u e
  ·exact nit c _ z
theorem Inv.tok (I : Inv X pins σ H s) (t : Nat) : Inv X pins σ H { s with toks := t } := I.un (h' := s.heap) (t' := t) Un.refl I.hok
theorem Inv.kept {t' : Nat} (I : Inv X pins σ H s) (k : ∀ b u, s.heap.get? b = some u → h'.get? b = some u) : Inv X pins σ H { s with heap := h', toks := t' } := I.un (Un.kept k) (I.hok.kept k)
theorem Inv.laid {a : Addr} {o : HO} {t' : Nat} (I : Inv X pins σ H s) (k : ∀ b u, s.heap.get? b = some u → h'.get? b = some u) (hp : s.heap.objs.size ≤ a) (new : ObjOk X.prog X.w (upd H a o) h' a o) :
  Inv X pins σ (upd H a o) { s with heap := h', toks := t' } := I.un (Un.laid k hp (I.hok.fresh hp)) (I.hok.laid k hp new)
theorem Inv.write {x e : Addr} {o : HO} {t' : Nat} (I : Inv X pins σ H s) (mu : Mut (H x)) (he : e = x ∨ H e = some (.own x)) (k : ∀ b u, b ≠ e → s.heap.get? b = some u → h'.get? b = some u) (heo : ∃ u, h'.get? e = some u)
  (new : ObjOk X.prog X.w (upd H x o) h' x o) : Inv X pins σ (upd H x o) { s with heap := h', toks := t' } := I.un (Un.write mu he k heo) (I.hok.write mu he k heo new)
theorem Inv.pins_of {pins' : List (Addr × Obj)} (I : Inv X pins σ H s) (h : ∀ p ∈ pins', s.heap.get? p.1 = some p.2 ∧ H p.1 = none ∧ p.1 ≠ X.env.locals ∧ p.1 ∉ X.fs ∧ ∀ v, p.2.data ≠ .cell v) : Inv X pins' σ H s :=
 ⟨I.ok, I.os, I.bare, I.base, I.loc, I.cell, I.free, I.freeC, fun p hp => (List.mem_append.mp hp).elim (fun z => I.pin p (List.mem_append_left _ z)) (h p), I.hok, I.len⟩
theorem nodup_ix {N : List Str} (hN : N.Nodup) {i j : Nat} {x : Str} (a : N[i]? = some x) (b : N[j]? = some x) : i = j := by
 obtain ⟨h1, e1⟩ := List.getElem?_eq_some_iff.mp a
 obtain ⟨h2, e2⟩ := List.getElem?_eq_some_iff.mp b
 exact (List.getElem_inj hN).mp (e1.trans e2.symm)
theorem store_ok2 {M : Model} {A : Around} {E : Value → Shared → Prop} {i : Nat} {x : Str} {v : V} {u : Value} {Q : Unit → Shared → Prop} (I : Inv X pins σ H s) (hN : X.N.Nodup) (hi : X.N[i]? = some x) (hx : Loc X.env.scope x) (r : RelV v u)
    (h : ∀ s', Inv X pins (σ.set i (some v)) H s' → (∃ a, Heap.SameBut a s.heap s'.heap ∧ (a = X.env.locals ∨ X.env.cells.lookup x = some a)) → Q () s') (hf : X.fn x = true ∨ X.env.scope.names.lookup x = some .local := by first | exact .inl rfl | exact .inr rfl | assumption) : wpAny M A (storeName X.env x u) Q E s := by
  obtain ⟨m, hn, hl⟩ := id I.loc
  have hcls : (X.env.scope.kind == .class || (X.env.scope.kind == .module && X.env.locals != X.env.globals)) = false := by rw [I.ok.kind]; rfl
  have hiσ : i < σ.length := by rw [I.len]; exact (List.getElem?_eq_some_iff.mp hi).1
  have cne := I.cne
  have tracked : ∀ {a : Addr} {h' : Heap}, (∃ o, s.heap.get? a = some o ∧ H a = none) → Heap.SameBut a s.heap h' → HOk X.prog X.w H h' := fun {a h'} ha hs b ob e => by
    obtain ⟨_, _, hfree⟩ := ha
    refine (I.hok b ob e).stay (fun c w' hc q => (hs.2 c ?_).trans q) (fun _ q => q) fun _ _ q => q
    rintro rfl
    rcases hc with rfl | hc
    · rw [hfree] at e; cases e
    · rw [hfree] at hc; cases hc
  rcases hx with hk | hk
  · refine wpAny_storeName_local hk hn (fun h' hn' hs => ?_) hcls
    obtain ⟨oL, _, _, hoL, _⟩ := id hn
    refine h _ ⟨I.ok, I.os, I.bare, ⟨fun b o e n hb hx => ?_, fun b o e n hb hx => ?_, I.base.free, fun b o e hx => ?_, I.base.tups, I.base.frzs, I.base.tbls⟩, ⟨_, hn', fun j y v' e1 e2 e3 => ?_⟩, fun y c e => ?_, I.free, I.freeC, fun p hp => ?_, tracked ⟨oL, hoL, I.free⟩ hs, by simpa using I.len⟩ ⟨_, hs, .inl rfl⟩
    · exact (hs.2 b (Nat.ne_of_lt (Nat.lt_of_lt_of_le (Heap.lt_size e) I.ok.above))).trans (I.base.keep b o e n hb hx)
    · obtain ⟨sl, e1⟩ := I.base.slot b o e n hb hx
      exact ⟨sl, (hs.2 b (Nat.ne_of_lt (Nat.lt_of_lt_of_le (Heap.lt_size e) I.ok.above))).trans e1⟩
    · obtain ⟨o', e1⟩ := I.base.there b o e hx
      exact ⟨o', (hs.2 b (Nat.ne_of_lt (Nat.lt_of_lt_of_le (Heap.lt_size e) I.ok.above))).trans e1⟩
    · by_cases hj : j = i
      · subst hj
        rw [hi] at e1; cases e1
        rw [List.getElem?_set_self hiσ] at e2
        cases e2
        exact ⟨u, r, .inl ⟨hk, by simp⟩⟩
      · rw [List.getElem?_set_ne (Ne.symm hj)] at e2
        obtain ⟨u', r', q⟩ := hl j y v' e1 e2 e3
        refine ⟨u', r', ?_⟩
        rcases q with ⟨k, e⟩ | ⟨k, c, e, z⟩
        · refine .inl ⟨k, ?_⟩
          have : y ≠ x := fun e => hj (nodup_ix hN e1 (e ▸ hi))
          simp [this, e]
        · exact .inr ⟨k, c, e, z.sameBut hs (cne y c e)⟩
    · obtain ⟨w', z⟩ := I.cell y c e
      exact ⟨w', z.sameBut hs (cne y c e)⟩
    · obtain ⟨e, n, ne, nf, d⟩ := I.pin p hp
      exact ⟨(hs.2 p.1 ne).trans e, n, ne, nf, d⟩
  · have hfn : X.fn x = true := by
      rcases hf with z | z
      · exact z
      · rw [z] at hk; cases hk
    obtain ⟨c, hc⟩ := I.ok.has x (.inl hk)
    obtain ⟨w', z⟩ := I.cell x c hc
    refine wpAny_storeName_cell I.ok.kind hk hc z (fun h' hc' hs => ?_)
    obtain ⟨oc, hoc, hocd⟩ := id z
    refine h { s with heap := h' } ⟨I.ok, I.os, I.bare, ⟨fun b o e n hb hx => ?_, fun b o e n hb hx => ?_, I.base.free, fun b o e hx => ?_, I.base.tups, I.base.frzs, I.base.tbls⟩, ⟨m, hn.sameBut hs (Ne.symm (cne x c hc)), fun j y v' e1 e2 e3 => ?_⟩, fun y c' e => ?_, I.free, I.freeC, fun p hp => ?_, tracked ⟨oc, hoc, I.freeC x c hc⟩ hs, by simpa using I.len⟩ ⟨c, hs, .inr hc⟩
    · exact (hs.2 b (Nat.ne_of_lt (Nat.lt_of_lt_of_le (Heap.lt_size e) (I.ok.cab x c hfn hc)))).trans (I.base.keep b o e n hb hx)
    · obtain ⟨sl, e1⟩ := I.base.slot b o e n hb hx
      exact ⟨sl, (hs.2 b (Nat.ne_of_lt (Nat.lt_of_lt_of_le (Heap.lt_size e) (I.ok.cab x c hfn hc)))).trans e1⟩
    · obtain ⟨o', e1⟩ := I.base.there b o e hx
      exact ⟨o', (hs.2 b (Nat.ne_of_lt (Nat.lt_of_lt_of_le (Heap.lt_size e) (I.ok.cab x c hfn hc)))).trans e1⟩
    · by_cases hj : j = i
      · subst hj
        rw [hi] at e1; cases e1
        rw [List.getElem?_set_self hiσ] at e2
        cases e2
        exact ⟨u, r, .inr ⟨.inl hk, c, hc, hc'⟩⟩
      · rw [List.getElem?_set_ne (Ne.symm hj)] at e2
        obtain ⟨u', r', q⟩ := hl j y v' e1 e2 e3
        refine ⟨u', r', ?_⟩
        rcases q with q | ⟨k, c', e, z'⟩
        · exact .inl q
        · refine .inr ⟨k, c', e, z'.sameBut hs ?_⟩
          rintro rfl
          exact hj (nodup_ix hN e1 (I.ok.inj _ _ _ e hc ▸ hi))
    · by_cases hcc : c' = c
      · subst hcc; exact ⟨_, hc'⟩
      · obtain ⟨w2, z2⟩ := I.cell y c' e
        exact ⟨w2, z2.sameBut hs hcc⟩
    · obtain ⟨e, n, ne, nf, d⟩ := I.pin p hp
      refine ⟨(hs.2 p.1 ?_).trans e, n, ne, nf, d⟩
      intro q
      rw [q, hoc] at e
      have q' : oc = p.2 := Option.some.inj e
      exact d w' (by rw [← q']; exact hocd)
theorem store_ok {M : Model} {A : Around} {E : Value → Shared → Prop} {i : Nat} {x : Str} {v : V} {u : Value} {Q : Unit → Shared → Prop} (I : Inv X pins σ H s) (hN : X.N.Nodup) (hi : X.N[i]? = some x) (hx : Loc X.env.scope x) (r : RelV v u)
  (h : ∀ s', Inv X pins (σ.set i (some v)) H s' → Q () s') (hf : X.fn x = true ∨ X.env.scope.names.lookup x = some .local := by first | exact .inl rfl | exact .inr rfl | assumption) : wpAny M A (storeName X.env x u) Q E s :=
 store_ok2 I hN hi hx r (fun s' I' _ => h s' I') hf
theorem Inv.call' {s' : Shared} {ch : List Addr} (I : Inv X pins σ H s) (ho : s'.os = s.os) (u : Un (frs X.stack) ch H H' s.heap s'.heap) (hok : HOk X.prog X.w H' s'.heap) (hg : AllBare s'.gens)
  (hch : ∀ b ∈ ch, (b ∈ X.ex ∨ X.s₀.heap.objs.size ≤ b) ∧ b ≠ X.env.locals ∧ (∀ x c, X.env.cells.lookup x = some c → c ≠ b) ∧ ∀ p ∈ X.pn ++ pins, p.1 ≠ b) : Inv X pins σ H' s' := by
 obtain ⟨h', g', d', t', o'⟩ := s'
 have e : o' = s.os := ho
 subst e
 exact I.call (g' := g') (t' := t') (d' := d') u hok hg hch
end
abbrev XK := Value → Option Addr → Hp → Prop
abbrev St := List (Option V)
abbrev VK := V → Hp → Prop
abbrev TE := St → Hp → VK → Prop
abbrev TT := St → Hp → (Bool → Hp → Prop) → Prop
abbrev TA := St → Hp → (List V → Hp → Prop) → Prop
structure Ends where
 nx : St → Hp → Prop
 rt : VK
 bk : St → Hp → Prop := fun _ _ => False
 ct : St → Hp → Prop := fun _ _ => False
abbrev TS := Ends → St → Hp → Prop
def EP (X : Cx) (pins : List (Addr × Obj)) (σ : St) (Q : VK) (u : Value) (s' : Shared) : Prop := ∃ v H', Inv X pins σ H' s' ∧ RelV v u ∧ Q v H'
def TP (X : Cx) (pins : List (Addr × Obj)) (σ : St) (Q : Bool → Hp → Prop) (b : Bool) (s' : Shared) : Prop := ∃ H', Inv X pins σ H' s' ∧ Q b H'
def AP (X : Cx) (pins : List (Addr × Obj)) (σ : St) (Q : List V → Hp → Prop) (us : List Value) (s' : Shared) : Prop := ∃ vs H', Inv X pins σ H' s' ∧ Vals vs us ∧ Q vs H'
def SP (X : Cx) (pins : List (Addr × Obj)) (D : Ends) (f : Flow) (s' : Shared) : Prop :=
 match f with
 | .next => ∃ σ' H', Inv X pins σ' H' s' ∧ D.nx σ' H'
 | .brk => ∃ σ' H', Inv X pins σ' H' s' ∧ D.bk σ' H'
 | .cont => ∃ σ' H', Inv X pins σ' H' s' ∧ D.ct σ' H'
 | .ret u => ∃ v σ' H', Inv X pins σ' H' s' ∧ RelV v u ∧ D.rt v H'
def PE (X : Cx) (e : Expr) (t : TE) : Prop :=
 ∀ (pins : List (Addr × Obj)) (s : Shared) (σ : St) (H : Hp) (Q : VK), Inv X pins σ H s → t σ H Q → wpAny (model X.prog X.w) X.A (eval e X.env) (EP X pins σ Q) X.xe s
def PT (X : Cx) (e : Expr) (t : TT) : Prop :=
 ∀ (pins : List (Addr × Obj)) (s : Shared) (σ : St) (H : Hp) (Q : Bool → Hp → Prop), Inv X pins σ H s → t σ H Q → wpAny (model X.prog X.w) X.A (isTrue e X.env (eval e X.env)) (TP X pins σ Q) X.xe s
def PW (X : Cx) (e : Expr) (t : TT) : Prop :=
 ∀ (whole : Sem Value) (pins : List (Addr × Obj)) (s : Shared) (σ : St) (H : Hp) (Q : Bool → Hp → Prop), Inv X pins σ H s → t σ H Q → wpAny (model X.prog X.w) X.A (isTrue e X.env whole) (TP X pins σ Q) X.xe s
theorem PW.pt {X : Cx} {e : Expr} {t : TT} (h : PW X e t) : PT X e t := h _
def PA (X : Cx) (es : List Expr) (t : TA) : Prop :=
 ∀ (pos : Pos) (pins : List (Addr × Obj)) (s : Shared) (σ : St) (H : Hp) (Q : List V → Hp → Prop), Inv X pins σ H s → t σ H Q → wpAny (model X.prog X.w) X.A (spliced (backTo pos (starEach es X.env))) (AP X pins σ Q) X.xe s
def PS (X : Cx) (st : Stmt) (t : TS) : Prop :=
 ∀ (pins : List (Addr × Obj)) (s : Shared) (σ : St) (H : Hp) (D : Ends), Inv X pins σ H s → t D σ H → wpAny (model X.prog X.w) X.A (exec st X.env) (SP X pins D) X.xe s
def PSs (X : Cx) (st : List Stmt) (t : TS) : Prop :=
 ∀ (pins : List (Addr × Obj)) (s : Shared) (σ : St) (H : Hp) (D : Ends), Inv X pins σ H s → t D σ H → wpAny (model X.prog X.w) X.A (execs st X.env) (SP X pins D) X.xe s
theorem thn {α : Type} {t : Sem α} {Q Q' : α → Shared → Prop} {M : Model} {A : Around} {E : Value → Shared → Prop} {s : Shared} (h : wpAny M A t Q E s) (hQ : ∀ a s, Q a s → Q' a s) : wpAny M A t Q' E s := wpAny_mono h hQ fun _ _ x => x
end L2
namespace L2
open PySem PySem.Spec PyProof.Rows
section
variable {X : Cx}
def tVar (i : Nat) : TE := fun σ H Q => ∃ v, σ[i]? = some (some v) ∧ Q v H
def tC (v : V) : TE := fun _ H Q => Q v H
theorem pe_var {i : Nat} {x : Str} {pos : Pos} (hN : X.N[i]? = some x) (hv : Vis X.env.scope x) (hd : (x == ("__debug__" : Str)) = false := by decide) (hcd : (x == ("__classdict__" : Str)) = false := by decide) : PE X (.Name x pos) (tVar i) := by
 intro pins s σ H Q I h
 obtain ⟨v, e, h⟩ := h
 obtain ⟨m, hn, hl⟩ := I.loc
 obtain ⟨u, r, l⟩ := hl i x v hN e hv
 have fin : EP X pins σ Q u s := ⟨v, H, I, r, h⟩
 rcases l with ⟨hk, hm⟩ | ⟨hk, c, hc, hcell⟩
 ·exact wpAny_Name (wpAny_loadName_local I.ok.kind hk hn hm fin) hd
 ·rcases hk with hk | hk
  ·exact wpAny_Name (wpAny_loadName_cell I.ok.kind hk hc hcell fin) hd
  ·exact wpAny_Name (wpAny_loadName_free I.ok.kind hk hc hcell fin hcd) hd
theorem pe_int {i j pos} : PE X (.Constant (.int i) j pos) (tC (.int i)) := fun _ _ _ H _ I h => wpAny_Constant_int ⟨.int i, H, I.tok _, ⟨_, rfl⟩, h⟩
theorem pe_bl {b j pos} : PE X (.Constant (.bool b) j pos) (tC (.bl b)) := fun _ _ _ H _ I h => Constant_bool ⟨.bl b, H, I, rfl, h⟩
theorem pe_str {x j pos} : PE X (.Constant (.str x) j pos) (tC (.str x)) := fun _ _ _ H _ I h => Calls.Constant_str ⟨.str x, H, I.tok _, ⟨_, rfl⟩, h⟩
def Gl (X : Cx) (x : Str) : Prop := X.env.kindOf x = some .globalImplicit
theorem ld_glob {E : Value → Shared → Prop} {pins : List (Addr × Obj)} {s : Shared} {σ : St} {H : Hp} {x : Str} {u : Value} {pos : Pos} {Q : Value → Shared → Prop} (I : Inv X pins σ H s) (hg : Gl X x) (hm : X.mg x = some u) (h : Q u s)
  (hd : (x == ("__debug__" : Str)) = false := by decide) : wpAny (model X.prog X.w) X.A (eval (.Name x pos) X.env) Q E s :=
 Calls.Name_function_global I.ok.kind hg (Calls.loadGlobal_global (by rw [I.ok.glob]; exact I.mod.glob.keeps I.bk) hm h) hd
theorem ld_blt {E : Value → Shared → Prop} {pins : List (Addr × Obj)} {s : Shared} {σ : St} {H : Hp} {x : Str} {u : Value} {pos : Pos} {Q : Value → Shared → Prop} (I : Inv X pins σ H s) (hg : Gl X x) (hm : X.mg x = none) (hv : bootBuiltins x = some u) (h : Q u s)
  (hn : x ≠ "__name__" := by decide) (hd : (x == ("__debug__" : Str)) = false := by decide) : wpAny (model X.prog X.w) X.A (eval (.Name x pos) X.env) Q E s := by
 obtain ⟨mb, h1, h2⟩ := I.mod.blt
 exact Calls.Name_function_global I.ok.kind hg (Calls.loadGlobal_builtin (by rw [I.ok.glob]; exact I.mod.glob.keeps I.bk) hm (by rw [I.ok.blt]; exact h1.keeps I.bk) ((h2 x hn).trans hv) h) hd
theorem pe_glob {x : Str} {v : V} {u : Value} {pos : Pos} (hg : Gl X x) (hm : X.mg x = some u) (r : RelV v u) (hd : (x == ("__debug__" : Str)) = false := by decide) : PE X (.Name x pos) (tC v) :=
 fun _ _ _ H _ I h => ld_glob I hg hm ⟨v, H, I, r, h⟩ hd
theorem pe_bltn {x : Str} {v : V} {u : Value} {pos : Pos} (hg : Gl X x) (hm : X.mg x = none) (hv : bootBuiltins x = some u) (r : RelV v u) (hn : x ≠ "__name__" := by decide) (hd : (x == ("__debug__" : Str)) = false := by decide) : PE X (.Name x pos) (tC v) :=
 fun _ _ _ H _ I h => ld_blt I hg hm hv ⟨v, H, I, r, h⟩ hn hd
variable {a b : Expr} {ta tb : TE} {pos : Pos}
def tB (t : TE) : TT := fun σ H Q => t σ H fun x H1 => ∃ c, x = .bl c ∧ Q c H1
theorem pt_val {e : Expr} {t : TE} (h : PE X e t) (he : ∀ whole, isTrue e X.env whole = (do let v ← whole; standAt e.pos; holding [v] (truthy v)) := by intro _; rfl) : PT X e (tB t) := by
 intro pins s σ H Q I hw
 refine isTrue_plain (thn (h pins s σ H _ I hw) fun v s1 ⟨x, H1, I1, r1, q1⟩ => ?_) (he _)
 obtain ⟨d, rfl, q⟩ := q1
 cases r1
 exact wpAny_truthy_bool ⟨H1, I1, q⟩
variable {tA tB' : TT} {rest : List Expr}
def tAnd (t u : TT) : TT := fun σ H Q => t σ H fun c H1 => if c = true then u σ H1 Q else Q false H1
def tOr (t u : TT) : TT := fun σ H Q => t σ H fun c H1 => if c = true then Q true H1 else u σ H1 Q
def tNot (t : TT) : TT := fun σ H Q => t σ H fun c H1 => Q (!c) H1
theorem pw_and1 (ha : PT X a tA) : PW X (.BoolOp .And [a] pos) tA := by
 intro wh pins s σ H Q I h
 refine isTrue_and (thn (ha pins s σ H Q I h) fun c s1 e => ?_)
 cases c with
 | true => exact isTrue_and_nil e
 | false => exact e
theorem pw_or1 (ha : PT X a tA) : PW X (.BoolOp .Or [a] pos) tA := by
 intro wh pins s σ H Q I h
 refine isTrue_or (thn (ha pins s σ H Q I h) fun c s1 e => ?_)
 cases c with
 | false => exact isTrue_or_nil e
 | true => exact e
theorem pw_and (ha : PT X a tA) (hb : PW X (.BoolOp .And (b :: rest) pos) tB') : PW X (.BoolOp .And (a :: b :: rest) pos) (tAnd tA tB') := by
 intro wh pins s σ H Q I h
 refine isTrue_and (thn (ha pins s σ H _ I h) fun c s1 ⟨H1, I1, q1⟩ => ?_)
 cases c with
 | true => exact hb wh pins s1 σ H1 Q I1 q1
 | false => exact ⟨H1, I1, q1⟩
theorem pw_or (ha : PT X a tA) (hb : PW X (.BoolOp .Or (b :: rest) pos) tB') : PW X (.BoolOp .Or (a :: b :: rest) pos) (tOr tA tB') := by
 intro wh pins s σ H Q I h
 refine isTrue_or (thn (ha pins s σ H _ I h) fun c s1 ⟨H1, I1, q1⟩ => ?_)
 cases c with
 | true => exact ⟨H1, I1, q1⟩
 | false => exact hb wh pins s1 σ H1 Q I1 q1
theorem pt_not (ha : PT X a tA) : PT X (.UnaryOp .Not a pos) (tNot tA) := by
 intro pins s σ H Q I h
 exact isTrue_not (ha pins s σ H (fun c H1 => Q (!c) H1) I h)
def tAndV (ta tb : TE) : TE := fun σ H Q => ta σ H fun x H1 => ∃ c, x = .bl c ∧ if c = true then tb σ H1 Q else Q (.bl false) H1
def tNotV (ta : TE) : TE := fun σ H Q => ta σ H fun x H1 => ∃ c, x = .bl c ∧ Q (.bl (!c)) H1
theorem pe_one {op} {t : TE} (h : PE X a t) : PE X (.BoolOp op [a] pos) t := fun pins s σ H Q I hw => BoolOp_one (h pins s σ H Q I hw)
theorem pe_and (ha : PE X a ta) (hb : PE X (.BoolOp .And (b :: rest) pos) tb) : PE X (.BoolOp .And (a :: b :: rest) pos) (tAndV ta tb) := by
 intro pins s σ H Q I h
 refine BoolOp_and (thn (ha pins s σ H _ I h) fun v s1 ⟨x, H1, I1, r1, q1⟩ => ?_)
 obtain ⟨c, rfl, q1⟩ := q1
 cases r1
 refine wpAny_truthy_bool ?_
 cases c with
 | true => exact hb pins s1 σ H1 Q I1 q1
 | false => exact ⟨.bl false, H1, I1, rfl, q1⟩
theorem pe_not (ha : PE X a ta) : PE X (.UnaryOp .Not a pos) (tNotV ta) := by
 intro pins s σ H Q I h
 refine UnaryOp_ (thn (ha pins s σ H _ I h) fun v s1 ⟨x, H1, I1, r1, q1⟩ => ?_)
 obtain ⟨c, rfl, q1⟩ := q1
 cases r1
 exact not_of (wpAny_truthy_bool ⟨.bl (!c), H1, I1, rfl, q1⟩)
end
end L2
namespace L2
open PySem PySem.Spec PyProof.Rows
def SqL (K : PySem.W.Frag) (H : Hp) (a : Addr) (xs : List V) : Prop :=
 Rd H a (.lst xs) ∨
  ∃ (o : Obj) (its : Array Value) (n : Nat), K.lookup a = some o ∧ o.cls = .type "list" ∧ o.dict = none ∧ o.data = .seq its n ∧ its.size ≤ sizeLine ∧ Vals xs its.toList
def SqT (K : PySem.W.Frag) (H : Hp) (a : Addr) (xs : List V) : Prop :=
 Rd H a (.tup xs) ∨
  ∃ (o : Obj) (its : Array Value) (n : Nat), K.lookup a = some o ∧ o.cls = .type "tuple" ∧ o.data = .seq its n ∧ its.size ≤ sizeLine ∧ Vals xs its.toList
def absV : Value → Option V
 | .none => some .non
 | .bool b => some (.bl b)
 | .int i _ => some (.int i)
 | .str x _ => some (.str x)
 | .bytes b _ => some (.byt b)
 | .float b _ => some (.flt b)
 | .ref a => some (.ref a)
 | .type n => some (.ty n)
 | _ => none
theorem RelV.abs {x : V} {u : Value} (r : RelV x u) : absV u = some x := by
 cases x with
 | non => cases r; rfl
 | bl _ => cases r; rfl
 | int _ => obtain ⟨t, rfl⟩ := r; rfl
 | str _ => obtain ⟨t, rfl⟩ := r; rfl
 | byt _ => obtain ⟨t, rfl⟩ := r; rfl
 | flt _ => obtain ⟨t, rfl⟩ := r; rfl
 | ref _ => cases r; rfl
 | ty _ => cases r; rfl
theorem RelV.inj {x y : V} {u : Value} (r : RelV x u) (q : RelV y u) : x = y := Option.some.inj (r.abs.symm.trans q.abs)
theorem Vals.inj : ∀ {xs ys : List V} {us : List Value}, Vals xs us → Vals ys us → xs = ys
 | _, _, _, .nil, .nil => rfl
 | _, _, _, .cons r t, .cons r' t' => by rw [r.inj r', Vals.inj t t']
section
variable {X : Cx} {pins : List (Addr × Obj)} {σ : St} {H : Hp} {s : Shared} {a : Addr} {xs ys : List V}
theorem SqL.of {K : PySem.W.Frag} (h : H a = some (.lst xs)) : SqL K H a xs := .inl (.inl h)
theorem SqT.of {K : PySem.W.Frag} (h : H a = some (.tup xs)) : SqT K H a xs := .inl (.inl h)
theorem Inv.list (I : Inv X pins σ H s) (h : SqL X.K H a xs) : ∃ its : List Value, Vals xs its ∧ PlainL s.heap a its.toArray ∧ xs.length ≤ sizeLine := by
 rcases h with h | ⟨o, its, n, hk, hc, hd, hs, hz, r⟩
 ·obtain ⟨z, its, n, r, e⟩ := h.ok I.hok
  exact ⟨its, r, ⟨_, n, e, rfl, rfl, rfl⟩, z⟩
 ·refine ⟨its.toList, r, ⟨o, n, I.kIn a o hk, hc, hd, by simpa using hs⟩, ?_⟩
  have e := r.length
  simp only [Array.length_toList] at e
  omega
theorem Inv.tuple (I : Inv X pins σ H s) (h : SqT X.K H a xs) : ∃ its : List Value, Vals xs its ∧ IsTup s.heap a its.toArray ∧ xs.length ≤ sizeLine := by
 rcases h with h | ⟨o, its, n, hk, hc, hs, hz, r⟩
 ·obtain ⟨z, its, r, p⟩ := h.ok I.hok
  exact ⟨its, r, p, z⟩
 ·refine ⟨its.toList, r, ⟨o, I.kIn a o hk, hc, n, by simpa using hs⟩, ?_⟩
  have e := r.length
  simp only [Array.length_toList] at e
  omega
theorem Inv.list_inj (I : Inv X pins σ H s) (h : SqL X.K H a xs) (h' : SqL X.K H a ys) : xs = ys := by
 obtain ⟨its, r, ⟨o, n, e, _, _, d⟩, _⟩ := I.list h
 obtain ⟨its', r', ⟨o', n', e', _, _, d'⟩, _⟩ := I.list h'
 rw [e] at e'; cases e'
 rw [d] at d'
 injection d' with d1 _
 have : its = its' := by simpa using congrArg Array.toList d1
 subst this
 exact r.inj r'
theorem Inv.tuple_inj (I : Inv X pins σ H s) (h : SqT X.K H a xs) (h' : SqT X.K H a ys) : xs = ys := by
 obtain ⟨its, r, ⟨o, e, _, n, d⟩, _⟩ := I.tuple h
 obtain ⟨its', r', ⟨o', e', _, n', d'⟩, _⟩ := I.tuple h'
 rw [e] at e'; cases e'
 rw [d] at d'
 injection d' with d1 _
 have : its = its' := by simpa using congrArg Array.toList d1
 subst this
 exact r.inj r'
end
abbrev Cx.wish (X : Cx) (E : Value → Shared → Prop) : Cx := { X with xe := E }
abbrev Cx.nox (X : Cx) : Cx := X.wish fun _ _ => False
theorem Cx.Ok.wish {X : Cx} (ok : X.Ok) (E : Value → Shared → Prop) : (X.wish E).Ok :=
 ⟨ok.mod, ok.kind, ok.glob, ok.blt, ok.above, ok.inj, ok.has, ok.cab, ok.hd, ok.frames, ok.stk, ok.exf, ok.bs, ok.bsz, ok.noex, ok.exfs, ok.funs, ok.frf⟩
theorem Cx.Ok.unwish {X : Cx} {E : Value → Shared → Prop} (ok : (X.wish E).Ok) : X.Ok :=
 ⟨ok.mod, ok.kind, ok.glob, ok.blt, ok.above, ok.inj, ok.has, ok.cab, ok.hd, ok.frames, ok.stk, ok.exf, ok.bs, ok.bsz, ok.noex, ok.exfs, ok.funs, ok.frf⟩
section
variable {X : Cx} {pins : List (Addr × Obj)} {σ : St} {H : Hp} {s : Shared} {E : Value → Shared → Prop}
theorem Inv.wish (I : Inv X pins σ H s) (E : Value → Shared → Prop) : Inv (X.wish E) pins σ H s := ⟨I.ok.wish E, I.os, I.bare, I.base, I.loc, I.cell, I.free, I.freeC, I.pin, I.hok, I.len⟩
theorem Inv.unwish (I : Inv (X.wish E) pins σ H s) : Inv X pins σ H s := ⟨I.ok.unwish, I.os, I.bare, I.base, I.loc, I.cell, I.free, I.freeC, I.pin, I.hok, I.len⟩
theorem SP.unwish {D : Ends} {f : Flow} {s' : Shared} (h : SP (X.wish E) pins D f s') : SP X pins D f s' := by
 cases f with
 | next => obtain ⟨σ', H', I, q⟩ := h; exact ⟨σ', H', I.unwish, q⟩
 | brk => obtain ⟨σ', H', I, q⟩ := h; exact ⟨σ', H', I.unwish, q⟩
 | cont => obtain ⟨σ', H', I, q⟩ := h; exact ⟨σ', H', I.unwish, q⟩
 | ret u => obtain ⟨v, σ', H', I, r, q⟩ := h; exact ⟨v, σ', H', I.unwish, r, q⟩
theorem PSs.nox {st : List Stmt} {t : TS} (h : PSs X.nox st t) : PSs X st t := fun pins s σ H D I hw =>
 wpAny_mono (h pins s σ H D (I.wish _) hw) (fun _ _ q => q.unwish) fun _ _ z => False.elim z
end
section
variable {X : Cx} {st : Stmt} {rest : List Stmt} {t u : TS} {e : Expr} {te : TE} {pos : Pos}
def tNext : TS := fun D σ H => D.nx σ H
def tSeq (t u : TS) : TS := fun D σ H => t { D with nx := u D } σ H
theorem pss_nil : PSs X [] tNext := fun _ _ σ H _ I h => wpAny_execs_nil ⟨σ, H, I, h⟩
theorem pss_cons (h1 : PS X st t) (h2 : PSs X rest u) : PSs X (st :: rest) (tSeq t u) := by
 intro pins s σ H D I h
 refine wpAny_execs_cons (thn (h1 pins s σ H { D with nx := u D } I h) fun f s1 q => ?_)
 cases f with
 | next =>
  obtain ⟨σ', H', I', q⟩ := q
  exact h2 pins s1 σ' H' D I' q
 | ret v => exact q
 | brk => exact q
 | cont => exact q
theorem pss_one (h1 : PS X st t) : PSs X [st] t := by
 intro pins s σ H D I h
 refine wpAny_execs_cons (thn (h1 pins s σ H D I h) fun f s1 q => ?_)
 cases f with
 | next => exact wpAny_execs_nil q
 | ret v => exact q
 | brk => exact q
 | cont => exact q
theorem Inv.quiet {pins : List (Addr × Obj)} {σ : St} {H : Hp} {s : Shared} (I : Inv X pins σ H s) : interactive X.env = false := by simp [interactive, I.ok.kind]
def tDrop (te : TE) : TS := fun D σ H => te σ H fun _ H1 => D.nx σ H1
theorem ps_expr (he : PE X e te) (hs : swapsWith e none pos.line X.env = pure false := by rfl) : PS X (.Expr e pos) (tDrop te) := by
 intro pins s σ H D I h
 exact wpAny_Expr_any (thn (he pins s σ H _ I h) fun v s1 ⟨x, H1, I1, r1, q1⟩ => ⟨σ, H1, I1, q1⟩) I.quiet hs
def tRet (te : TE) : TS := fun D σ H => te σ H D.rt
theorem ps_ret (he : PE X e te) : PS X (.Return (some e) pos) (tRet te) := by
 intro pins s σ H D I h
 exact wpAny_Return_some (thn (he pins s σ H _ I h) fun v s1 ⟨x, H1, I1, r1, q1⟩ => ⟨x, σ, H1, I1, r1, q1⟩)
def tIfS (c : TT) (t u : TS) : TS := fun D σ H => c σ H fun b H1 => if b = true then t D σ H1 else u D σ H1
theorem ps_if {c : Expr} {a b : List Stmt} {tc : TT} (hc : PT X c tc) (ha : PSs X a t) (hb : PSs X b u) : PS X (.If c a b pos) (tIfS tc t u) := by
 intro pins s σ H D I h
 refine wpAny_If (thn (hc pins s σ H _ I h) fun d s1 ⟨H1, I1, q1⟩ => ?_)
 cases d with
 | true => exact ha pins s1 σ H1 D I1 q1
 | false => exact hb pins s1 σ H1 D I1 q1
end
abbrev TG := V → St → Hp → (St → Hp → Prop) → Prop
abbrev TGs := List V → St → Hp → (St → Hp → Prop) → Prop
def PG (X : Cx) (target : Expr) (t : TG) : Prop :=
 ∀ (pins : List (Addr × Obj)) (s : Shared) (σ : St) (H : Hp) (v : V) (u : Value) (Q : St → Hp → Prop), Inv X pins σ H s → RelV v u → t v σ H Q →
  wpAny (model X.prog X.w) X.A (assign target X.env u) (fun _ s' => ∃ σ' H', Inv X pins σ' H' s' ∧ Q σ' H') X.xe s
def PGs (X : Cx) (ts : List Expr) (t : TGs) : Prop :=
 ∀ (pins : List (Addr × Obj)) (s : Shared) (σ : St) (H : Hp) (vs : List V) (us : List Value) (Q : St → Hp → Prop), Inv X pins σ H s → Vals vs us → t vs σ H Q →
  wpAny (model X.prog X.w) X.A (assignInOrder ((assignEach ts X.env).map (·.2)) us) (fun _ s' => ∃ σ' H', Inv X pins σ' H' s' ∧ Q σ' H') X.xe s
abbrev TSet := V → V → V → Hp → (Hp → Prop) → Prop
def PSet (X : Cx) (t : TSet) : Prop :=
 ∀ (pins : List (Addr × Obj)) (s : Shared) (σ : St) (H : Hp) (o i v : V) (ov iv u : Value) (Q : Hp → Prop), Inv X pins σ H s → RelV o ov → RelV i iv → RelV v u → t o i v H Q →
  wpAny (model X.prog X.w) X.A (setItem ov iv u) (fun _ s' => ∃ H', Inv X pins σ H' s' ∧ Q H') X.xe s
section
variable {X : Cx} {pos : Pos}
def gName (i : Nat) : TG := fun v σ H Q => Q (σ.set i (some v)) H
theorem pg_name {i : Nat} {x : Str} (hN : X.N.Nodup) (hi : X.N[i]? = some x) (hx : Loc X.env.scope x) (hf : X.fn x = true ∨ X.env.scope.names.lookup x = some .local := by first | exact .inl rfl | exact .inr rfl | assumption) : PG X (.Name x pos) (gName i) := by
 intro pins s σ H v u Q I r h
 exact wpAny_assign_Name (store_ok I hN hi hx r (fun s' I' => ⟨_, H, I', h⟩) hf)
def gNil : TGs := fun vs σ H Q => vs = [] ∧ Q σ H
def gCons (t : TG) (u : TGs) : TGs := fun vs σ H Q => ∃ v r, vs = v :: r ∧ t v σ H fun σ' H' => u r σ' H' Q
theorem pgs_nil : PGs X [] gNil := by
 intro pins s σ H vs us Q I r h
 obtain ⟨e, h⟩ := h
 subst e
 cases r
 exact assignInOrder_nil ⟨σ, H, I, h⟩
theorem pgs_cons {e : Expr} {es : List Expr} {t : TG} {u : TGs} (h1 : PG X e t) (h2 : PGs X es u)
  (hs : (assignEach (e :: es) X.env).map (·.2) = assign e X.env :: (assignEach es X.env).map (·.2) := by rfl) : PGs X (e :: es) (gCons t u) := by
 intro pins s σ H vs us Q I r h
 obtain ⟨v, vr, e1, h⟩ := h
 subst e1
 cases r with
 | cons r rr =>
  rw [hs]
  refine assignInOrder_cons (thn (h1 pins s σ H _ _ _ I r h) fun _ s1 ⟨σ1, H1, I1, q1⟩ => ?_)
  exact h2 pins s1 σ1 H1 _ _ Q I1 rr q1
def gTup (K : PySem.W.Frag) (n : Nat) (t : TGs) : TG := fun v σ H Q => ∃ a xs, v = .ref a ∧ SqT K H a xs ∧ xs.length = n ∧ t xs σ H Q
theorem pg_tup {es : List Expr} {k : Nat} {t : TGs} {n : Nat} (hc : X.calm = true) (h : PGs X es t)
  (hn : (assignEach es X.env).length = n := by rfl) (hst : (assignEach es X.env).findIdx? (·.1) = none := by rfl) : PG X (.Tuple es k pos) (gTup X.K n t) := by
 intro pins s σ H v u Q I r hw
 obtain ⟨a, xs, e1, hq, hl, hw⟩ := hw
 subst e1
 cases r
 obtain ⟨its, rv, ht, hz⟩ := I.tuple hq
 refine assign_Tuple_tuple (I.ok.hd hc) ht (by simp [hn, ← hl, rv.length]) hst fun h' hx => ?_
 have I1 : Inv X pins σ H { s with heap := h' } := I.kept (t' := s.toks) fun b o e => hx b o (Nat.ne_of_lt (Heap.lt_size e)) e
 exact h pins _ σ H xs _ Q I1 (by simpa using rv) hw
def gSub (to ti : TE) (t : TSet) : TG := fun v σ H Q => to σ H fun o H1 => ti σ H1 fun i H2 => t o i v H2 fun H3 => Q σ H3
theorem pg_sub {o i : Expr} {to ti : TE} {t : TSet} (ho : PE X o to) (hi : PE X i ti) (hs : PSet X t)
  (ha : ∀ v, assign (.Subscript o i pos) X.env v = (do
   let ov ← holding [v] (eval o X.env)
   let iv ← holding [v, ov] (eval i X.env)
   standAt pos
   holding [v, ov, iv] (setItem ov iv v)
   release [v, ov, iv] []) := by intro _; rfl) : PG X (.Subscript o i pos) (gSub to ti t) := by
 intro pins s σ H v u Q I r h
 rw [ha]
 refine wpAny_bind (wpAny_holding (thn (ho pins s σ H _ I h) fun ov s1 ⟨x, H1, I1, r1, q1⟩ => ?_))
 refine wpAny_bind (wpAny_holding (thn (hi pins s1 σ H1 _ I1 q1) fun iv s2 ⟨y, H2, I2, r2, q2⟩ => ?_))
 refine wpAny_bind (wpAny_standAt (wpAny_bind (wpAny_holding (thn (hs pins s2 σ H2 x y v ov iv u _ I2 r1 r2 r q2) fun _ s3 ⟨H3, I3, q3⟩ => ?_))))
 exact wpAny_release ⟨σ, H3, I3, q3⟩
def tAsg (te : TE) (g : TG) : TS := fun D σ H => te σ H fun x H1 => g x σ H1 D.nx
theorem ps_asg {tg e : Expr} {te : TE} {g : TG} (he : PE X e te) (hg : PG X tg g) (hs : swapsWithSole [tg] e pos.line X.env = pure false := by rfl) (hw : swappedStores [tg] e X.env = pure none := by rfl)
  (h1 : (assignEach [tg] X.env).map (·.2) = [assign tg X.env] := by rfl) : PS X (.Assign [tg] e pos) (tAsg te g) := by
 intro pins s σ H D I h
 refine wpAny_Assign_stores (thn (he pins s σ H _ I h) fun v s1 ⟨x, H1, I1, r1, q1⟩ => ?_) hs hw
 rw [h1]
 exact thn (hg pins s1 σ H1 x v _ I1 r1 q1) fun _ s2 q => q
theorem ps_set {i : Nat} {x : Str} {e : Expr} {te : TE} {pos' : Pos} (hN : X.N.Nodup) (hi : X.N[i]? = some x) (hx : Loc X.env.scope x) (he : PE X e te) (hs : swapsWith e (some (.Name x pos')) pos.line X.env = pure false := by rfl) (hf : X.fn x = true ∨ X.env.scope.names.lookup x = some .local := by first | exact .inl rfl | exact .inr rfl | assumption) :
  PS X (.Assign [.Name x pos'] e pos) (tAsg te (gName i)) := by
 intro pins s σ H D I h
 refine wpAny_Assign_Name (thn (he pins s σ H _ I h) fun v s1 ⟨y, H1, I1, r1, q1⟩ => ?_) hs
 exact store_ok I1 hN hi hx r1 (fun s2 I2 => ⟨_, H1, I2, q1⟩) hf
def tPar (i j : Nat) (ta : TA) : TS := fun D σ H => ta σ H fun vs H1 => ∃ v w, vs = [v, w] ∧ D.nx ((σ.set i (some v)).set j (some w)) H1
theorem ps_par {i j : Nat} {x y : Str} {a b : Expr} {ta : TA} {px py pt : Pos} {kt k2 pt2} (hc : X.calm = true) (hN : X.N.Nodup) (hi : X.N[i]? = some x) (hj : X.N[j]? = some y) (hij : i ≠ j)
  (hx : X.env.scope.names.lookup x = some .local) (hy : X.env.scope.names.lookup y = some .local) (ha : PA X [a, b] ta)
  (hw : swappedStores [.Tuple [.Name x px, .Name y py] kt pt] (.Tuple [a, b] k2 pt2) X.env = pure (some [x, y]))
  (hs : swapsWithSole [.Tuple [.Name x px, .Name y py] kt pt] (.Tuple [a, b] k2 pt2) pos.line X.env = pure false := by rfl) :
  PS X (.Assign [.Tuple [.Name x px, .Name y py] kt pt] (.Tuple [a, b] k2 pt2) pos) (tPar i j ta) := by
 intro pins s σ H D I h
 rw [exec_Assign_arm]
 refine wpAny_bind (wpAny_standAt ?_)
 rw [hs]
 refine wpAny_bind (wpAny_pure ?_)
 rw [if_neg (by decide)]
 refine wpAny_bind (Tuple_ (thn (ha _ pins s σ H _ I h) fun us s1 ⟨vs, H1, I1, r1, q1⟩ => ?_))
 obtain ⟨v, w, e1, q1⟩ := q1
 subst e1
 obtain ⟨u1, u2, rfl, rv, rw'⟩ : ∃ u1 u2, us = [u1, u2] ∧ RelV v u1 ∧ RelV w u2 := by
  cases r1 with
  | cons p q =>
   cases q with
   | cons p' q' =>
    cases q'
    exact ⟨_, _, rfl, p, p'⟩
 refine wpAny_newObj_type ?_ (by show 2 ≤ sizeLine; decide)
 have I2 : Inv X pins σ H1 { s1 with heap := s1.heap.push { cls := .type "tuple", data := .seq [u1, u2].toArray } } := I1.kept (t' := s1.toks) fun b o e => Heap.get?_push_of_some _ e
 rw [hw]
 refine wpAny_bind (wpAny_pure ?_)
 show wpAny (model X.prog X.w) X.A (do rule "assign.swapped-stores"; let items ← unpackItems (.ref s1.heap.objs.size) 2 none; assignInOrder [fun v => bindName X.env y v, fun v => bindName X.env x v] items.reverse; pure Flow.next) _ _ _
 refine wpAny_bind (wpAny_rule (wpAny_bind (unpackItems_tuple (items := #[u1, u2]) (I.ok.hd hc) (IsTup.new s1.heap _) fun h' hx' => ?_)))
 have I3 := I2.kept (h' := h') (t' := s1.toks) fun b o e => hx' b o (Nat.ne_of_lt (Heap.lt_size e)) e
 show wpAny _ _ (assignInOrder [fun v => bindName X.env y v, fun v => bindName X.env x v] [u2, u1] >>= fun _ => pure Flow.next) _ _ _
 refine wpAny_bind (assignInOrder_cons (wpAny_bindName (store_ok I3 hN hj (.inl hy) rw' (fun s2 I4 => ?_) (.inr hy))))
 refine assignInOrder_cons (wpAny_bindName (store_ok I4 hN hi (.inl hx) rv (fun s3 I5 => assignInOrder_nil (wpAny_pure ?_)) (.inr hx)))
 rw [List.set_comm _ _ (Ne.symm hij)] at I5
 exact ⟨_, H1, I5, q1⟩
end
section
variable {X : Cx} {pos : Pos}
def tWhile (c : TT) (tb : TS) : TS := fun D σ H => ∃ W : Nat → St → Hp → Prop, (∃ m, W m σ H) ∧ ∀ m σ H, W m σ H →
 c σ H fun b H1 => if b = true then ∃ N : St → Hp → Prop, (∀ σ' H', N σ' H' → ∃ m', m' < m ∧ W m' σ' H') ∧ tb { D with nx := N, ct := N, bk := D.nx } σ H1 else D.nx σ H1
theorem ps_while {c : Expr} {body : List Stmt} {tc : TT} {tb : TS} (hp : PassesOwn (model X.prog X.w) X.A X.env X.xe) (hc : PT X c tc) (hb : PSs X body tb) : PS X (.While c body [] pos) (tWhile tc tb) := by
 intro pins s σ H D I h
 obtain ⟨W, ⟨m0, w0⟩, turn⟩ := h
 refine wpAny_While (codeAny_whileLoop (fun n s' => ∃ σ' H', Inv X pins σ' H' s' ∧ W n σ' H') ?_ m0 ⟨σ, H, I, w0⟩)
 rintro n s1 ⟨σ1, H1, I1, w1⟩
 refine wpAny_passesOwn hp (thn (hc pins s1 σ1 H1 _ I1 (turn n σ1 H1 w1)) fun b s2 ⟨H2, I2, q2⟩ => ?_)
 cases b with
 | true =>
  obtain ⟨N, hN, q2⟩ := q2
  rw [if_pos rfl]
  refine wpAny_passesOwn hp (thn (hb pins s2 σ1 H2 _ I2 q2) fun f s3 q3 => ?_)
  cases f with
  | next =>
   obtain ⟨σ3, H3, I3, n3⟩ := q3
   obtain ⟨m', hm, w3⟩ := hN σ3 H3 n3
   exact ⟨m', hm, σ3, H3, I3, w3⟩
  | cont =>
   obtain ⟨σ3, H3, I3, n3⟩ := q3
   obtain ⟨m', hm, w3⟩ := hN σ3 H3 n3
   exact ⟨m', hm, σ3, H3, I3, w3⟩
  | brk => exact q3
  | ret v => exact q3
 | false =>
  rw [if_neg Bool.false_ne_true]
  exact wpAny_execs_nil ⟨σ1, H2, I2, q2⟩
end
structure It where
 go : Nat → Hp → Prop
 yld : Nat → Hp → V → Hp → Prop
 stop : Nat → Hp → Prop
def FpOk (X : Cx) (pins : List (Addr × Obj)) (H : Hp) (b : Addr) : Prop :=
 H b = none ∧ b ≠ X.env.locals ∧ b ∉ X.fs ∧ (b ∈ X.ex ∨ X.s₀.heap.objs.size ≤ b) ∧ (∀ x c, X.env.cells.lookup x = some c → c ≠ b) ∧ ∀ p ∈ X.pn ++ pins, p.1 ≠ b
theorem Inv.fpOk {X : Cx} {pins : List (Addr × Obj)} {σ : St} {H H' : Hp} {s : Shared} {b : Addr} (I : Inv X pins σ H s) (hb : s.heap.objs.size ≤ b) (hn : H' b = none) : FpOk X pins H' b := by
 refine ⟨hn, Nat.ne_of_gt (Nat.lt_of_lt_of_le I.lt hb), I.nofs hb, .inr (Nat.le_trans I.sz hb), fun x c e z => ?_, fun p hp z => ?_⟩
 ·obtain ⟨v, q⟩ := I.cell x c e
  exact absurd (Nat.lt_of_lt_of_le q.lt (by rw [z]; exact hb)) (Nat.lt_irrefl _)
 ·exact absurd (Nat.lt_of_lt_of_le (Heap.lt_size (I.pin p hp).1) (by rw [z]; exact hb)) (Nat.lt_irrefl _)
structure Turn (P : Program) (w : World) (K : PySem.W.Frag) (tg : Expr) (J : It) (fp : List Addr) (it : Addr) (tn : Nat → Heap → Prop) : Prop where
 mem : it ∈ fp
 obj : ∀ i h, tn i h → ∀ b ∈ fp, ∃ o, h.get? b = some o ∧ ∀ v, o.data ≠ .cell v
 keep : ∀ i h h', tn i h → (∀ b ∈ fp, ∀ o, h.get? b = some o → h'.get? b = some o) → tn i h'
 item : ∀ (X : Cx), X.prog = P → X.w = w → X.K = K → X.calm = true → ∀ (i : Nat) (pins : List (Addr × Obj)) (s : Shared) (σ : St) (H : Hp) (E : Value → Shared → Prop), Inv X pins σ H s → (∀ b ∈ fp, FpOk X pins H b) → tn i s.heap → J.go i H →
  wpAny (model P w) X.A (pyNext (.ref it)) (fun r s1 => ∃ u, r = some u ∧
   wpAny (model P w) X.A (letOwnedTupleGo tg (.ref it) u) (fun _ s2 => ∃ x H', Inv X pins σ H' s2 ∧ RelV x u ∧ J.yld i H x H' ∧ tn (i + 1) s2.heap ∧ ∀ b ∈ fp, H' b = none) E s1) E s
 done : ∀ (X : Cx), X.prog = P → X.w = w → X.K = K → X.calm = true → ∀ (i : Nat) (pins : List (Addr × Obj)) (s : Shared) (σ : St) (H : Hp) (E : Value → Shared → Prop), Inv X pins σ H s → (∀ b ∈ fp, FpOk X pins H b) → tn i s.heap → J.stop i H →
  wpAny (model P w) X.A (pyNext (.ref it)) (fun r s1 => r = none ∧ Inv X pins σ H s1) E s
 self : ∀ (A : Around) (i : Nat) (s : Shared) (Q : Value → Shared → Prop) (E : Value → Shared → Prop), tn i s.heap → Q (.ref it) s → wpAny (model P w) A (pyIter (.ref it)) Q E s
abbrev TI := St → Hp → (It → Hp → Prop) → Prop
def PIE (X : Cx) (pins : List (Addr × Obj)) (σ : St) (tg : Expr) (R : It → Hp → Prop) (itv : Value) (s2 : Shared) : Prop :=
 ∃ (it : Addr) (fp : List Addr) (tn : Nat → Heap → Prop) (J : It) (H' : Hp), itv = .ref it ∧ Inv X pins σ H' s2 ∧ Turn X.prog X.w X.K tg J fp it tn ∧ tn 0 s2.heap ∧ (∀ b ∈ fp, FpOk X pins H' b) ∧ R J H'
def PI (X : Cx) (tg iter : Expr) (wi : TI) : Prop :=
 ∀ (pins : List (Addr × Obj)) (s : Shared) (σ : St) (H : Hp) (R : It → Hp → Prop), Inv X pins σ H s → wi σ H R →
  wpAny (model X.prog X.w) X.A (eval iter X.env) (fun v s1 => wpAny (model X.prog X.w) X.A (pyIter v) (PIE X pins σ tg R) X.xe s1) X.xe s
theorem go_of {M : Model} {A : Around} {E : Value → Shared → Prop} {s : Shared} {tg : Expr} {it : Addr} {u : Value} {o : Obj} {n : String} {vs : Array Value} {Q : Unit → Shared → Prop} (ho : s.heap.get? it = some o) (hc : o.cls = .type n) (hd : o.data = .fields vs)
    (hn : ["enumerate", "zip", "dict_itemiterator", "dict_reverseitemiterator", "odict_iterator", "itertools.zip_longest", "itertools.pairwise"].contains n = false) (hQ : Q () s) : wpAny M A (letOwnedTupleGo tg (.ref it) u) Q E s := by
  unfold letOwnedTupleGo
  cases tg <;> first
    | exact wpAny_pure hQ
    | (cases u <;> first
        | exact wpAny_pure hQ
        | (refine wpAny_bind (wpAny_load ho ?_)
           rw [hc, hd]
           show wpAny M A (if (["enumerate", "zip", "dict_itemiterator", "dict_reverseitemiterator", "odict_iterator", "itertools.zip_longest", "itertools.pairwise"].contains n && vs[0]? == some (rawInt _)) = true then _ else _) Q E s
           rw [if_neg (by intro h; rw [hn, Bool.false_and] at h; cases h)]
           exact wpAny_pure hQ))
def Itl (K : PySem.W.Frag) (a : Addr) : It :=
 ⟨fun i H => ∃ xs x, SqL K H a xs ∧ xs[i]? = some x, fun i H x H' => H' = H ∧ ∀ xs, SqL K H a xs → xs[i]? = some x, fun i H => ∃ xs, SqL K H a xs ∧ xs.length ≤ i⟩
def Itr (lo : Int) (n : Nat) : It := ⟨fun i _ => i < n, fun i H x H' => H' = H ∧ x = .int (lo + i), fun i _ => n ≤ i⟩
theorem turn_list {P : Program} {w : World} {K : PySem.W.Frag} {tg : Expr} (a it : Addr) : Turn P w K tg (Itl K a) [it] it (fun i h => h.IsListIter it a i) where
 mem := by simp
 obj := fun i h st b hb => by
  have e : b = it := by simpa using hb
  subst e
  obtain ⟨o, e, c, d⟩ := st
  exact ⟨o, e, fun v z => by rw [d] at z; cases z⟩
 keep := fun i h h' st k => st.at fun o e => k it (by simp) o e
 item := by
  intro X hP hw hK hc i pins s σ H E I hf st hg
  subst hP hw hK
  obtain ⟨xs, x, hq, hx⟩ := hg
  obtain ⟨its, rv, p, hz⟩ := I.list hq
  obtain ⟨u, hu, ru⟩ := rv.get hx
  obtain ⟨f0, f1, f2, f3, f4, f5⟩ := hf it (by simp)
  refine wpAny_pyNext_list_item st p.isList (x := u) (by simpa using hu) fun h' st' sb => ?_
  have I1 : Inv X pins σ H { s with heap := h' } := I.turned (t' := s.toks) (fun b o hb e => (sb.2 b hb).trans e) f0 f1 f3 f4 f5
  obtain ⟨o, e, c, d⟩ := id st'
  exact ⟨u, rfl, go_of (s := { s with heap := h' }) e c d (by decide) ⟨x, H, I1, ru, ⟨rfl, fun ys hy => by rw [I.list_inj hy hq]; exact hx⟩, st', fun b hb => (hf b hb).1⟩⟩
 done := by
  intro X hP hw hK hc i pins s σ H E I hf st hg
  subst hP hw hK
  obtain ⟨xs, hq, hx⟩ := hg
  obtain ⟨its, rv, p, hz⟩ := I.list hq
  obtain ⟨f0, f1, f2, f3, f4, f5⟩ := hf it (by simp)
  have hl := rv.length
  exact wpAny_pyNext_list_end (I.ok.hd hc) st p.isList (by simp; omega) fun h' eb => ⟨rfl, I.turned (t' := s.toks) (fun b o hb e => eb b o hb e) f0 f1 f3 f4 f5⟩
 self := fun _ _ _ _ _ st h => wpAny_pyIter_listiter st h
theorem turn_range {P : Program} {w : World} {K : PySem.W.Frag} {tg : Expr} (it : Addr) (lo : Int) (n : Nat) : Turn P w K tg (Itr lo n) [it] it (fun i h => IsRangeIter h it (lo + (i : Nat) * 1) ((n : Int) - (i : Nat)) 1) where
 mem := by simp
 obj := fun i h st b hb => by
  have e : b = it := by simpa using hb
  subst e
  exact ⟨_, st, fun v z => by
   have z' : Data.fields _ = Data.cell v := z
   cases z'⟩
 keep := fun i h h' st k => k it (by simp) _ st
 item := by
  intro X hP hw hK hc i pins s σ H E I hf st hg
  subst hP hw hK
  obtain ⟨f0, f1, f2, f3, f4, f5⟩ := hf it (by simp)
  have W := Walks.range (prog := X.prog) (w := X.w) (I.ok.hd hc) it lo 1 n
  refine W.item i s _ _ hg st fun v h' tk hv st' kk => ?_
  obtain ⟨t, rfl⟩ := hv
  have I1 : Inv X pins σ H { s with heap := h', toks := tk } := I.turned (fun b o hb e => kk b o (by simpa using hb) e) f0 f1 f3 f4 f5
  refine ⟨_, rfl, go_of (s := { s with heap := h', toks := tk }) (n := "range_iterator") st' rfl rfl (by decide) ⟨.int (lo + i), H, I1, ⟨t, ?_⟩, ⟨rfl, rfl⟩, st', fun b hb => (hf b hb).1⟩⟩
  rw [Int.mul_one]
 done := by
  intro X hP hw hK hc i pins s σ H E I hf st hg
  subst hP hw hK
  obtain ⟨f0, f1, f2, f3, f4, f5⟩ := hf it (by simp)
  exact wpAny_pyNext_range_end (I.ok.hd hc) st (by have : n ≤ i := hg; omega) fun h' eb => ⟨rfl, I.turned (t' := s.toks) (fun b o hb e => eb b o hb e) f0 f1 f3 f4 f5⟩
 self := fun _ _ _ _ _ st h => wpAny_pyIter_rangeiter st h
end L2
namespace L2
open PySem PySem.Spec PyProof.Rows
section
variable {X : Cx} {tg : Expr}
def iList (K : PySem.W.Frag) (tl : TE) : TI := fun σ H R => tl σ H fun x H1 => ∃ a, x = .ref a ∧ (∃ xs, SqL K H1 a xs) ∧ R (Itl K a) H1
theorem pi_list {l : Expr} {tl : TE} (hl : PE X l tl) : PI X tg l (iList X.K tl) := by
 intro pins s σ H R I h
 refine thn (hl pins s σ H _ I h) fun v s1 ⟨x, H1, I1, r1, q1⟩ => ?_
 obtain ⟨a, e, ⟨xs, hq⟩, q⟩ := q1
 subst e
 cases r1
 obtain ⟨its, rv, p, hz⟩ := I1.list hq
 refine wpAny_pyIter_list p.isList ?_
 refine ⟨s1.heap.objs.size, [s1.heap.objs.size], _, _, H1, rfl, I1.kept (t' := s1.toks) fun b o e => Heap.get?_push_of_some _ e, turn_list a _, ⟨_, Heap.get?_push_size _ rfl, rfl, rfl⟩, fun b hb => ?_, q⟩
 have e : b = s1.heap.objs.size := by simpa using hb
 subst e
 exact I1.fpOk (Nat.le_refl _) (I1.hok.fresh (Nat.le_refl _))
theorem range_it {pins : List (Addr × Obj)} {σ : St} {H : Hp} {s : Shared} {R : It → Hp → Prop} {E : Value → Shared → Prop} {lo hi : Int} {t u v : Tok} {tk : Nat} (I : Inv X pins σ H s) (h1 : -(2 ^ 62) ≤ lo) (h2 : lo < 2 ^ 62) (h3 : -(2 ^ 62) ≤ hi) (h4 : hi < 2 ^ 62)
  (q : R (Itr lo (hi - lo).toNat) H) : wpAny (model X.prog X.w) X.A (pyIter (.ref s.heap.objs.size)) (PIE X pins σ tg R) E { s with heap := s.heap.push { cls := .type "range", data := .fields #[.int lo t, .int hi u, .int 1 v] }, toks := tk } := by
 refine wpAny_pyIter_range (IsRange.new ..) (small_one h1 h2 h3 h4) ?_
 have I1 : Inv X pins σ H { s with heap := s.heap.push { cls := .type "range", data := .fields #[.int lo t, .int hi u, .int 1 v] }, toks := tk } := I.kept fun b o e => Heap.get?_push_of_some _ e
 refine ⟨(s.heap.push { cls := .type "range", data := .fields #[.int lo t, .int hi u, .int 1 v] }).objs.size, [(s.heap.push { cls := .type "range", data := .fields #[.int lo t, .int hi u, .int 1 v] }).objs.size], _, _, H, rfl,
  I1.kept (t' := tk) fun b o e => Heap.get?_push_of_some _ e, turn_range _ lo (hi - lo).toNat, ?_, fun b hb => ?_, q⟩
 ·have e1 : lo + ((0 : Nat) : Int) * 1 = lo := by simp
  have e2 : (((hi - lo).toNat : Nat) : Int) - ((0 : Nat) : Int) = Builtin.Range.rangeSize lo hi 1 := by rw [rangeSize_one]; split <;> omega
  show IsRangeIter _ _ (lo + ((0 : Nat) : Int) * 1) ((((hi - lo).toNat : Nat) : Int) - ((0 : Nat) : Int)) 1
  rw [e1, e2]
  exact Heap.get?_push_size _ rfl
 ·have e : b = (s.heap.push { cls := .type "range", data := .fields #[.int lo t, .int hi u, .int 1 v] }).objs.size := by simpa using hb
  subst e
  exact I1.fpOk (Nat.le_refl _) (I1.hok.fresh (Nat.le_refl _))
def iRng1 (ta : TA) : TI := fun σ H R => ta σ H fun vs H1 => ∃ j : Int, vs = [.int j] ∧ -(2 ^ 62) ≤ j ∧ j < 2 ^ 62 ∧ R (Itr 0 j.toNat) H1
def iRng2 (ta : TA) : TI := fun σ H R => ta σ H fun vs H1 => ∃ i j : Int, vs = [.int i, .int j] ∧ (-(2 ^ 62) ≤ i ∧ i < 2 ^ 62 ∧ -(2 ^ 62) ≤ j ∧ j < 2 ^ 62) ∧ R (Itr i (j - i).toNat) H1
theorem pi_range1 {a : Expr} {ta : TA} {p pos : Pos} (hg : Gl X "range") (hm : X.mg "range" = none) (ha : PA X [a] ta) (hs : starEach [a] X.env = [(false, eval a X.env)] := by rfl) : PI X tg (.Call (.Name "range" p) [a] [] pos) (iRng1 ta) := by
 intro pins s σ H R I h
 refine Call_ (ld_blt I hg hm boot_range (PyProof.Rows.callWith_type1 (thn (ha pos pins s σ H _ I h) fun us s1 ⟨vs, H1, I1, r1, q1⟩ => ?_) hs rfl))
 obtain ⟨j, e, q1, q2, q⟩ := q1
 subst e
 cases r1 with
 | cons r rr =>
  cases rr
  obtain ⟨t, rfl⟩ := r
  exact call_range_1 (range_it I1 (by omega) (by omega) q1 q2 (by simpa using q))
theorem pi_range2 {a b : Expr} {ta : TA} {p pos : Pos} (hg : Gl X "range") (hm : X.mg "range" = none) (ha : PA X [a, b] ta) (hs : starEach [a, b] X.env = [(false, eval a X.env), (false, eval b X.env)] := by rfl) (hs2 : starEach [b] X.env = [(false, eval b X.env)] := by rfl) :
  PI X tg (.Call (.Name "range" p) [a, b] [] pos) (iRng2 ta) := by
 intro pins s σ H R I h
 refine Call_ (ld_blt I hg hm boot_range (PyProof.Rows.callWith_type1 (thn (ha pos pins s σ H _ I h) fun us s1 ⟨vs, H1, I1, r1, q1⟩ => ?_) (by rw [hs, hs2]) (by rw [hs2]; rfl)))
 obtain ⟨i, j, e, ⟨q1, q2, q3, q4⟩, q⟩ := q1
 subst e
 cases r1 with
 | cons r rr =>
  cases rr with
  | cons r' rr =>
   cases rr
   obtain ⟨t, rfl⟩ := r
   obtain ⟨t', rfl⟩ := r'
   exact call_range_2 (range_it I1 q1 q2 q3 q4 q)
def tFor (wi : TI) (g : TG) (tb : TS) : TS := fun D σ H => wi σ H fun J H1 => ∃ W : Nat → Nat → St → Hp → Prop, (∃ m, W 0 m σ H1) ∧ ∀ i m σ H, W i m σ H →
 (J.stop i H ∧ D.nx σ H) ∨ (J.go i H ∧ ∃ N : St → Hp → Prop, (∀ σ' H', N σ' H' → ∃ m', m' < m ∧ W (i + 1) m' σ' H') ∧ ∀ x H', J.yld i H x H' → g x σ H' fun σ2 H2 => tb { D with nx := N, ct := N, bk := D.nx } σ2 H2)
def pinsAt (fp : List Addr) (h : Heap) : List (Addr × Obj) := fp.filterMap fun b => (h.get? b).map fun o => (b, o)
theorem mem_pinsAt {fp : List Addr} {h : Heap} {b : Addr} {o : Obj} (hb : b ∈ fp) (e : h.get? b = some o) : (b, o) ∈ pinsAt fp h := List.mem_filterMap.mpr ⟨b, hb, by rw [e]; rfl⟩
theorem of_pinsAt {fp : List Addr} {h : Heap} {p : Addr × Obj} (hp : p ∈ pinsAt fp h) : p.1 ∈ fp ∧ h.get? p.1 = some p.2 := by
 obtain ⟨b, hb, e⟩ := List.mem_filterMap.mp hp
 cases q : h.get? b with
 | none => rw [q] at e; cases e
 | some o =>
  rw [q] at e
  have e' : (b, o) = p := Option.some.inj e
  subst e'
  exact ⟨hb, q⟩
theorem Inv.pinned {pins : List (Addr × Obj)} {σ : St} {H : Hp} {s : Shared} {fp : List Addr} (I : Inv X pins σ H s) (hf : ∀ b ∈ fp, FpOk X pins H b) (ho : ∀ b ∈ fp, ∃ o, s.heap.get? b = some o ∧ ∀ v, o.data ≠ .cell v) : Inv X (pins ++ pinsAt fp s.heap) σ H s :=
 I.pins_of fun p hp => (List.mem_append.mp hp).elim (fun z => I.pin p (List.mem_append_right _ z)) fun z => by
  obtain ⟨hb, e⟩ := of_pinsAt z
  obtain ⟨f0, f1, f2, _⟩ := hf p.1 hb
  obtain ⟨o, e', d⟩ := ho p.1 hb
  rw [e] at e'; cases e'
  exact ⟨e, f0, f1, f2, d⟩
theorem Inv.unpinned {pins pl : List (Addr × Obj)} {σ : St} {H : Hp} {s : Shared} (I : Inv X (pins ++ pl) σ H s) : Inv X pins σ H s := I.pins_of fun p hp => I.pin p (List.mem_append_right _ (List.mem_append_left _ hp))
theorem ps_for {iter : Expr} {body : List Stmt} {wi : TI} {g : TG} {tb : TS} {pos : Pos} (hp : PassesOwn (model X.prog X.w) X.A X.env X.xe) (hc : X.calm = true) (hi : PI X tg iter wi) (hg : PG X tg g) (hb : PSs X body tb)
  (hs : ∀ x, foldedSetIterable iter X.env x = pure x := by intro _; rfl) : PS X (.For tg iter body [] pos) (tFor wi g tb) := by
 intro pins s σ H D I h
 refine wpAny_For (thn (hi pins s σ H _ I h) fun v s1 h1 => thn h1 fun itv s2 h2 => ?_) hs
 obtain ⟨it, fp, tn, J, H2, e, I2, T, st2, f2, W, ⟨m0, w0⟩, turn⟩ := h2
 subst e
 -- what stays true of the iterator's objects through the loop
 have stat : ∀ {H' : Hp}, (∀ b ∈ fp, H' b = none) → ∀ b ∈ fp, FpOk X pins H' b := fun hn b hb => ⟨hn b hb, (f2 b hb).2⟩
 refine codeAny_forLoop_any (fun n s' => ∃ i σ' H', Inv X pins σ' H' s' ∧ tn i s'.heap ∧ (∀ b ∈ fp, H' b = none) ∧ W i n σ' H') ?_ m0 ⟨0, σ, H2, I2, st2, fun b hb => (f2 b hb).1, w0⟩
 rintro n s3 ⟨i, σ3, H3, I3, st3, fr3, w3⟩
 rcases turn i n σ3 H3 w3 with ⟨stop, qn⟩ | ⟨go, N, hN, step⟩
 ·refine wpAny_passesOwn hp (thn (T.done X rfl rfl rfl hc i pins s3 σ3 H3 X.xe I3 (stat fr3) st3 stop) fun r s4 ⟨hr, I4⟩ => ?_)
  subst hr
  exact wpAny_execs_nil ⟨σ3, H3, I4, qn⟩
 ·refine wpAny_passesOwn hp (thn (T.item X rfl rfl rfl hc i pins s3 σ3 H3 X.xe I3 (stat fr3) st3 go) fun r s4 ⟨u, hr, h4⟩ => ?_)
  subst hr
  refine wpAny_passesOwn hp (thn h4 fun _ s5 ⟨x, H5, I5, r5, y5, st5, fr5⟩ => ?_)
  have I5' := I5.pinned (stat fr5) (T.obj _ _ st5)
  refine wpAny_passesOwn hp (thn (hg _ s5 σ3 H5 x u _ I5' r5 (step x H5 y5)) fun _ s6 ⟨σ6, H6, I6, q6⟩ => ?_)
  refine wpAny_passesOwn hp (thn (hb _ s6 σ6 H6 _ I6 q6) fun f s7 q7 => ?_)
  have again : ∀ {σ7 : St} {H7 : Hp}, Inv X (pins ++ pinsAt fp s5.heap) σ7 H7 s7 → N σ7 H7 → ∃ m, m < n ∧ ∃ i σ' H', Inv X pins σ' H' s7 ∧ tn i s7.heap ∧ (∀ b ∈ fp, H' b = none) ∧ W i m σ' H' := fun {σ7 H7} I7 n7 => by
   obtain ⟨m', hm, w7⟩ := hN σ7 H7 n7
   refine ⟨m', hm, i + 1, σ7, H7, I7.unpinned, T.keep _ _ _ st5 fun b hb o e => (I7.pin (b, o) (List.mem_append_right _ (List.mem_append_right _ (mem_pinsAt hb e)))).1, fun b hb => ?_, w7⟩
   obtain ⟨o, e, d⟩ := T.obj _ _ st5 b hb
   exact (I7.pin (b, o) (List.mem_append_right _ (List.mem_append_right _ (mem_pinsAt hb e)))).2.1
  cases f with
  | next => obtain ⟨σ7, H7, I7, n7⟩ := q7; exact again I7 n7
  | cont => obtain ⟨σ7, H7, I7, n7⟩ := q7; exact again I7 n7
  | brk => obtain ⟨σ7, H7, I7, q7⟩ := q7; exact ⟨σ7, H7, I7.unpinned, q7⟩
  | ret v => obtain ⟨x7, σ7, H7, I7, r7, q7⟩ := q7; exact ⟨x7, σ7, H7, I7.unpinned, r7, q7⟩
end
theorem for_list {K : PySem.W.Frag} {a : Addr} {xs : List V} {g : TG} {tb : TS} {D : Ends} {σ : St} {H : Hp} (Pv : Nat → St → Hp → Prop) (h0 : Pv 0 σ H) (hl : ∀ i σ H, i ≤ xs.length → Pv i σ H → SqL K H a xs)
  (hs : ∀ i x σ H, xs[i]? = some x → Pv i σ H → g x σ H fun σ2 H2 => tb { D with nx := Pv (i + 1), ct := Pv (i + 1), bk := D.nx } σ2 H2) (hd : ∀ σ H, Pv xs.length σ H → D.nx σ H) :
  ∃ W : Nat → Nat → St → Hp → Prop, (∃ m, W 0 m σ H) ∧ ∀ i m σ H, W i m σ H →
   ((Itl K a).stop i H ∧ D.nx σ H) ∨ ((Itl K a).go i H ∧ ∃ N : St → Hp → Prop, (∀ σ' H', N σ' H' → ∃ m', m' < m ∧ W (i + 1) m' σ' H') ∧ ∀ x H', (Itl K a).yld i H x H' → g x σ H' fun σ2 H2 => tb { D with nx := N, ct := N, bk := D.nx } σ2 H2) := by
 refine ⟨fun i m σ H => m = xs.length - i ∧ i ≤ xs.length ∧ Pv i σ H, ⟨xs.length, by simp, Nat.zero_le _, h0⟩, ?_⟩
 rintro i m σ H ⟨rfl, hi, p⟩
 have q := hl i σ H hi p
 by_cases hlt : i < xs.length
 ·refine .inr ⟨⟨xs, xs[i], q, by simp [hlt]⟩, Pv (i + 1), fun σ' H' p' => ⟨xs.length - (i + 1), by omega, rfl, hlt, p'⟩, fun x H' y => ?_⟩
  obtain ⟨e, y⟩ := y
  subst e
  exact hs i x σ _ (y xs q) p
 ·have e : i = xs.length := by omega
  subst e
  exact .inl ⟨⟨xs, q, Nat.le_refl _⟩, hd σ H p⟩
theorem for_range {lo : Int} {n : Nat} {g : TG} {tb : TS} {D : Ends} {σ : St} {H : Hp} (Pv : Nat → St → Hp → Prop) (h0 : Pv 0 σ H)
  (hs : ∀ i σ H, i < n → Pv i σ H → g (.int (lo + i)) σ H fun σ2 H2 => tb { D with nx := Pv (i + 1), ct := Pv (i + 1), bk := D.nx } σ2 H2) (hd : ∀ σ H, Pv n σ H → D.nx σ H) :
  ∃ W : Nat → Nat → St → Hp → Prop, (∃ m, W 0 m σ H) ∧ ∀ i m σ H, W i m σ H →
   ((Itr lo n).stop i H ∧ D.nx σ H) ∨ ((Itr lo n).go i H ∧ ∃ N : St → Hp → Prop, (∀ σ' H', N σ' H' → ∃ m', m' < m ∧ W (i + 1) m' σ' H') ∧ ∀ x H', (Itr lo n).yld i H x H' → g x σ H' fun σ2 H2 => tb { D with nx := N, ct := N, bk := D.nx } σ2 H2) := by
 refine ⟨fun i m σ H => m = n - i ∧ i ≤ n ∧ Pv i σ H, ⟨n, by simp, Nat.zero_le _, h0⟩, ?_⟩
 rintro i m σ H ⟨rfl, hi, p⟩
 by_cases hlt : i < n
 ·refine .inr ⟨hlt, Pv (i + 1), fun σ' H' p' => ⟨n - (i + 1), by omega, rfl, hlt, p'⟩, fun x H' y => ?_⟩
  obtain ⟨e, y⟩ := y
  subst e y
  exact hs i σ _ hlt p
 ·have e : i = n := by omega
  subst e
  exact .inl ⟨Nat.le_refl _, hd σ H p⟩
end L2
namespace L2
open PySem PySem.Spec PyProof.Rows
abbrev R2 := V → V → Hp → VK → Prop
def OpR (X : Cx) (f : Value → Value → Sem Value) (r : R2) : Prop :=
 ∀ (pins : List (Addr × Obj)) (s : Shared) (σ : St) (H : Hp) (x y : V) (v u : Value) (Q : VK), Inv X pins σ H s → RelV x v → RelV y u → r x y H Q →
  wpAny (model X.prog X.w) X.A (f v u) (EP X pins σ Q) X.xe s
def UnR (X : Cx) (f : Value → Sem Value) (r : V → Hp → VK → Prop) : Prop :=
 ∀ (pins : List (Addr × Obj)) (s : Shared) (σ : St) (H : Hp) (x : V) (v : Value) (Q : VK), Inv X pins σ H s → RelV x v → r x H Q →
  wpAny (model X.prog X.w) X.A (f v) (EP X pins σ Q) X.xe s
def CallR (X : Cx) (f : Value) (r : List V → Hp → VK → Prop) : Prop :=
 ∀ (pins : List (Addr × Obj)) (s : Shared) (σ : St) (H : Hp) (xs : List V) (us : List Value) (Q : VK), Inv X pins σ H s → Vals xs us → r xs H Q →
  wpAny (model X.prog X.w) X.A (call f us) (EP X pins σ Q) X.xe s
def tOp (r : R2) (ta tb : TE) : TE := fun σ H Q => ta σ H fun x H1 => tb σ H1 fun y H2 => r x y H2 Q
def tUn (r : V → Hp → VK → Prop) (ta : TE) : TE := fun σ H Q => ta σ H fun x H1 => r x H1 Q
def rI (C : Int → Int → Prop) (g : Int → Int → V) : R2 := fun x y H Q => ∃ i j, x = .int i ∧ y = .int j ∧ C i j ∧ Q (g i j) H
def rI0 (g : Int → Int → V) : R2 := fun x y H Q => ∃ i j, x = .int i ∧ y = .int j ∧ Q (g i j) H
def rU (g : Int → V) : V → Hp → VK → Prop := fun x H Q => ∃ i, x = .int i ∧ Q (g i) H
section
variable {X : Cx} {a b c : Expr} {ta tb tc : TE} {pos : Pos}
theorem binT (ha : PE X a ta) (hb : PE X b tb) {pins : List (Addr × Obj)} {s : Shared} {σ : St} {H : Hp} {R : V → V → Hp → Prop} (I : Inv X pins σ H s)
  (h : ta σ H fun x H1 => tb σ H1 fun y H2 => R x y H2) {Q : Value → Shared → Prop} {f : Value → Value → Sem Value}
  (hf : ∀ v u s2 x y H2, Inv X pins σ H2 s2 → RelV x v → RelV y u → R x y H2 → wpAny (model X.prog X.w) X.A (f v u) Q X.xe s2) :
  wpAny (model X.prog X.w) X.A (eval a X.env) (fun v s₁ => wpAny (model X.prog X.w) X.A (eval b X.env) (fun u s₂ => wpAny (model X.prog X.w) X.A (f v u) Q X.xe s₂) X.xe s₁) X.xe s := by
 refine thn (ha pins s σ H _ I h) fun v s1 ⟨x, H1, I1, r1, q1⟩ => ?_
 refine thn (hb pins s1 σ H1 _ I1 q1) fun u s2 ⟨y, H2, I2, r2, q2⟩ => ?_
 exact hf v u s2 x y H2 I2 r1 r2 q2
theorem pe_op {op : Operator} {r : R2} (ho : OpR X (binaryOp op) r) (ha : PE X a ta) (hb : PE X b tb) : PE X (.BinOp a op b pos) (tOp r ta tb) := by
 intro pins s σ H Q I h
 exact wpAny_BinOp (binT ha hb I h fun v u s2 x y H2 I2 rx ry q => ho pins s2 σ H2 x y v u Q I2 rx ry q)
theorem pe_un {op : UnaryOp} {r : V → Hp → VK → Prop} (ho : UnR X (unaryOp op) r) (ha : PE X a ta) : PE X (.UnaryOp op a pos) (tUn r ta) := by
 intro pins s σ H Q I h
 exact UnaryOp_ (thn (ha pins s σ H _ I h) fun v s1 ⟨x, H1, I1, r1, q1⟩ => ho pins s1 σ H1 x v Q I1 r1 q1)
theorem opI {f : Value → Value → Sem Value} {C : Int → Int → Prop} {g : Int → Int → Int}
  (rule : ∀ (i j : Int) (t u : Tok) (s : Shared) (Q : Value → Shared → Prop) (E : Value → Shared → Prop), C i j → Q (.int (g i j) s.toks) { s with toks := s.toks + 1 } → wpAny (model X.prog X.w) X.A (f (.int i t) (.int j u)) Q E s) :
  OpR X f (rI C fun i j => .int (g i j)) := by
 intro pins s σ H x y v u Q I rx ry h
 obtain ⟨i, j, rfl, rfl, hc, q⟩ := h
 obtain ⟨t, rfl⟩ := rx
 obtain ⟨t', rfl⟩ := ry
 exact rule i j t t' s _ _ hc ⟨.int (g i j), H, I.tok _, ⟨_, rfl⟩, q⟩
theorem opI0 {f : Value → Value → Sem Value} {g : Int → Int → Int}
  (rule : ∀ (i j : Int) (t u : Tok) (s : Shared) (Q : Value → Shared → Prop) (E : Value → Shared → Prop), Q (.int (g i j) s.toks) { s with toks := s.toks + 1 } → wpAny (model X.prog X.w) X.A (f (.int i t) (.int j u)) Q E s) :
  OpR X f (rI0 fun i j => .int (g i j)) := by
 intro pins s σ H x y v u Q I rx ry h
 obtain ⟨i, j, rfl, rfl, q⟩ := h
 obtain ⟨t, rfl⟩ := rx
 obtain ⟨t', rfl⟩ := ry
 exact rule i j t t' s _ _ ⟨.int (g i j), H, I.tok _, ⟨_, rfl⟩, q⟩
theorem opB0 {f : Value → Value → Sem Value} {g : Int → Int → Bool}
  (rule : ∀ (i j : Int) (t u : Tok) (s : Shared) (Q : Value → Shared → Prop) (E : Value → Shared → Prop), Q (.bool (g i j)) s → wpAny (model X.prog X.w) X.A (f (.int i t) (.int j u)) Q E s) :
  OpR X f (rI0 fun i j => .bl (g i j)) := by
 intro pins s σ H x y v u Q I rx ry h
 obtain ⟨i, j, rfl, rfl, q⟩ := h
 obtain ⟨t, rfl⟩ := rx
 obtain ⟨t', rfl⟩ := ry
 exact rule i j t t' s _ _ ⟨.bl (g i j), H, I, rfl, q⟩
def CDiv (i j : Int) : Prop := 0 < j ∧ j < 1073741824
def CPow (i j : Int) : Prop := 0 ≤ j ∧ j ≤ 1000000 ∧ i.natAbs < 2 ^ 64
def CMul (i j : Int) : Prop := (-(2 ^ 64) < i ∧ i < 2 ^ 64) ∨ (-(2 ^ 64) < j ∧ j < 2 ^ 64)
theorem CMul.ok {i j : Int} (h : CMul i j) : IntMulOk i j := by
 rcases h with ⟨h1, h2⟩ | ⟨h1, h2⟩
 ·exact .of_left (intBits_le_64 h1 h2)
 ·exact .of_right (intBits_le_64 h1 h2)
theorem op_add : OpR X (binaryOp .Add) (rI0 fun i j => .int (i + j)) := opI0 fun _ _ _ _ _ _ _ q => add_int q
theorem op_sub : OpR X (binaryOp .Sub) (rI0 fun i j => .int (i - j)) := opI0 fun _ _ _ _ _ _ _ q => sub_int q
theorem op_mul : OpR X (binaryOp .Mult) (rI CMul fun i j => .int (i * j)) := opI fun _ _ _ _ _ _ _ hc q => mul_int q hc.ok
theorem op_fdiv : OpR X (binaryOp .FloorDiv) (rI CDiv fun i j => .int (i / j)) := opI fun i j _ _ _ _ _ hc q => by
 have h1 : (0 : Int) < j := hc.1
 have h2 : j < 1073741824 := hc.2
 exact floordiv_int (by omega) (by rw [Int.fdiv_eq_ediv_of_nonneg i (by omega)]; exact q) (.inl (PyProof.noPylong_small (by omega)))
theorem op_mod : OpR X (binaryOp .Mod) (rI (fun _ j => 0 < j) fun i j => .int (i % j)) := opI fun i j _ _ _ _ _ hc q => by
 have h1 : (0 : Int) < j := hc
 exact mod_int' (by omega) (by rw [Int.fmod_eq_emod_of_nonneg i (by omega)]; exact q)
theorem op_pow : OpR X (binaryOp .Pow) (rI CPow fun i j => .int (i ^ j.toNat)) := opI fun _ _ _ _ _ _ _ hc q => pow_int_small hc.1 hc.2.1 hc.2.2 q
theorem unI {f : Value → Sem Value} {g : Int → Int}
  (rule : ∀ (i : Int) (t : Tok) (s : Shared) (Q : Value → Shared → Prop) (E : Value → Shared → Prop), Q (.int (g i) s.toks) { s with toks := s.toks + 1 } → wpAny (model X.prog X.w) X.A (f (.int i t)) Q E s) :
  UnR X f (rU fun i => .int (g i)) := by
 intro pins s σ H x v Q I rx h
 obtain ⟨i, rfl, q⟩ := h
 obtain ⟨t, rfl⟩ := rx
 exact rule i t s _ _ ⟨.int (g i), H, I.tok _, ⟨_, rfl⟩, q⟩
theorem un_neg : UnR X (unaryOp .USub) (rU fun i => .int (-i)) := unI fun _ _ _ _ _ q => neg_int q
end
def scal : V → V → Bool
 | .non, .non => true | .non, .int _ => true | .int _, .non => true | .non, .bl _ => true | .bl _, .non => true | .non, .str _ => true | .str _, .non => true
 | .int _, .int _ => true | .bl _, .bl _ => true | .str _, .str _ => true | .byt _, .byt _ => true
 | .int _, .str _ => true | .str _, .int _ => true | .bl _, .str _ => true | .str _, .bl _ => true
 | _, _ => false
def rEq : R2 := fun x y H Q => scal x y = true ∧ Q (.bl (decide (x = y))) H
def rNe : R2 := fun x y H Q => scal x y = true ∧ Q (.bl (!decide (x = y))) H
theorem dec_int {i j : Int} : decide (V.int i = V.int j) = (i == j) := by
 rw [Bool.eq_iff_iff]
 simp
theorem dec_bl {i j : Bool} : decide (V.bl i = V.bl j) = (i == j) := by
 rw [Bool.eq_iff_iff]
 simp
theorem dec_str {i j : Str} : decide (V.str i = V.str j) = (i == j) := by
 rw [Bool.eq_iff_iff]
 simp
theorem dec_byt {i j : Array UInt8} : decide (V.byt i = V.byt j) = (i.toList == j.toList) := by
 rw [Bool.eq_iff_iff]
 cases i
 cases j
 simp
section
variable {X : Cx} {a b c : Expr} {ta tb tc : TE} {pos : Pos}
theorem fin_bl {pins : List (Addr × Obj)} {σ : St} {H : Hp} {s : Shared} {Q : VK} {k k' : Bool} (I : Inv X pins σ H s) (q : Q (.bl k) H) (e : k = k') : EP X pins σ Q (.bool k') s := by
 subst e
 exact ⟨.bl k, H, I, rfl, q⟩
theorem op_eq : OpR X (compareOp .Eq) rEq := by
 intro pins s σ H x y v u Q I rx ry h
 obtain ⟨hs, q⟩ := h
 cases x with
 | non =>
  cases rx
  cases y with
  | non => cases ry; exact PySem.EqNone.eq_none_none (fin_bl I q (by simp))
  | bl j => cases ry; exact PySem.EqNone.eq_none_bool (fin_bl I q (by simp))
  | int j => obtain ⟨t', rfl⟩ := ry; exact PySem.EqNone.eq_none_int (fin_bl I q (by simp))
  | str j => obtain ⟨t', rfl⟩ := ry; exact PySem.EqNone.eq_none_str (fin_bl I q (by simp))
  | _ => exact absurd (show false = true from hs) Bool.false_ne_true
 | bl i =>
  cases rx
  cases y with
  | non => cases ry; exact PySem.EqNone.eq_bool_none (fin_bl I q (by simp))
  | bl j => cases ry; exact eq_bool (fin_bl I q dec_bl)
  | str j => obtain ⟨t', rfl⟩ := ry; exact PySem.EqMixed.eq_bool_str (fin_bl I q (by simp))
  | _ => exact absurd (show false = true from hs) Bool.false_ne_true
 | int i =>
  obtain ⟨t, rfl⟩ := rx
  cases y with
  | non => cases ry; exact PySem.EqNone.eq_int_none (fin_bl I q (by simp))
  | int j => obtain ⟨t', rfl⟩ := ry; exact eq_int (fin_bl I q dec_int)
  | str j => obtain ⟨t', rfl⟩ := ry; exact PySem.EqMixed.eq_int_str (fin_bl I q (by simp))
  | _ => exact absurd (show false = true from hs) Bool.false_ne_true
 | str i =>
  obtain ⟨t, rfl⟩ := rx
  cases y with
  | non => cases ry; exact PySem.EqNone.eq_str_none (fin_bl I q (by simp))
  | bl j => cases ry; exact PySem.EqMixed.eq_str_bool (fin_bl I q (by simp))
  | int j => obtain ⟨t', rfl⟩ := ry; exact PySem.EqMixed.eq_str_int (fin_bl I q (by simp))
  | str j => obtain ⟨t', rfl⟩ := ry; exact eq_str (fin_bl I q dec_str)
  | _ => exact absurd (show false = true from hs) Bool.false_ne_true
 | byt i =>
  obtain ⟨t, rfl⟩ := rx
  cases y with
  | byt j => obtain ⟨t', rfl⟩ := ry; exact PySem.W.eq_bytes (fin_bl I q dec_byt)
  | _ => exact absurd (show false = true from hs) Bool.false_ne_true
 | _ => cases y <;> exact absurd (show false = true from hs) Bool.false_ne_true
theorem op_ne : OpR X (compareOp .NotEq) rNe := by
 intro pins s σ H x y v u Q I rx ry h
 obtain ⟨hs, q⟩ := h
 cases x with
 | non =>
  cases rx
  cases y with
  | non => cases ry; exact PySem.EqNone.ne_none_none (fin_bl I q (by simp))
  | bl j => cases ry; exact PySem.EqNone.ne_none_bool (fin_bl I q (by simp))
  | int j => obtain ⟨t', rfl⟩ := ry; exact PySem.EqNone.ne_none_int (fin_bl I q (by simp))
  | str j => obtain ⟨t', rfl⟩ := ry; exact PySem.EqNone.ne_none_str (fin_bl I q (by simp))
  | _ => exact absurd (show false = true from hs) Bool.false_ne_true
 | bl i =>
  cases rx
  cases y with
  | non => cases ry; exact PySem.EqNone.ne_bool_none (fin_bl I q (by simp))
  | bl j => cases ry; exact ne_bool (fin_bl I q (congrArg not dec_bl))
  | str j => obtain ⟨t', rfl⟩ := ry; exact PySem.EqMixed.ne_bool_str (fin_bl I q (by simp))
  | _ => exact absurd (show false = true from hs) Bool.false_ne_true
 | int i =>
  obtain ⟨t, rfl⟩ := rx
  cases y with
  | non => cases ry; exact PySem.EqNone.ne_int_none (fin_bl I q (by simp))
  | int j => obtain ⟨t', rfl⟩ := ry; exact ne_int (fin_bl I q (congrArg not dec_int))
  | str j => obtain ⟨t', rfl⟩ := ry; exact PySem.EqMixed.ne_int_str (fin_bl I q (by simp))
  | _ => exact absurd (show false = true from hs) Bool.false_ne_true
 | str i =>
  obtain ⟨t, rfl⟩ := rx
  cases y with
  | non => cases ry; exact PySem.EqNone.ne_str_none (fin_bl I q (by simp))
  | bl j => cases ry; exact PySem.EqMixed.ne_str_bool (fin_bl I q (by simp))
  | int j => obtain ⟨t', rfl⟩ := ry; exact PySem.EqMixed.ne_str_int (fin_bl I q (by simp))
  | str j => obtain ⟨t', rfl⟩ := ry; exact ne_str (fin_bl I q (congrArg not dec_str))
  | _ => exact absurd (show false = true from hs) Bool.false_ne_true
 | byt i =>
  obtain ⟨t, rfl⟩ := rx
  cases y with
  | byt j => obtain ⟨t', rfl⟩ := ry; exact PySem.W.ne_bytes (fin_bl I q (congrArg not dec_byt))
  | _ => exact absurd (show false = true from hs) Bool.false_ne_true
 | _ => cases y <;> exact absurd (show false = true from hs) Bool.false_ne_true
theorem op_lt : OpR X (compareOp .Lt) (rI0 fun i j => .bl (decide (i < j))) := opB0 fun _ _ _ _ _ _ _ q => lt_int q
theorem op_le : OpR X (compareOp .LtE) (rI0 fun i j => .bl (decide (i ≤ j))) := opB0 fun _ _ _ _ _ _ _ q => le_int q
theorem op_gt : OpR X (compareOp .Gt) (rI0 fun i j => .bl (decide (j < i))) := opB0 fun _ _ _ _ _ _ _ q => gt_int q
theorem nomark (b : Expr) {op : CmpOp} (h : op ≠ .In := by decide) (h2 : op ≠ .NotIn := by decide) : behindInMarks op b = false := by
 have e1 : (op == CmpOp.In) = false := by cases op <;> first | rfl | exact absurd rfl h
 have e2 : (op == CmpOp.NotIn) = false := by cases op <;> first | rfl | exact absurd rfl h2
 cases b <;> simp [behindInMarks, e1, e2]
theorem pe_cmpR {op : CmpOp} {r : R2} (ho : OpR X (compareOp op) r) (ha : PE X a ta) (hb : PE X b tb) (hm : behindInMarks op b = false) : PE X (.Compare a [op] [b] pos) (tOp r ta tb) := by
 intro pins s σ H Q I h
 exact wpAny_Compare1 (binT ha hb I h fun v u s2 x y H2 I2 rx ry q => ho pins s2 σ H2 x y v u Q I2 rx ry q) hm
def tTest (t : TE) : TT := fun σ H Q => t σ H fun x H' => ∃ k, x = .bl k ∧ Q k H'
theorem pt_cmpR {op : CmpOp} {r : R2} (ho : OpR X (compareOp op) r) (ha : PE X a ta) (hb : PE X b tb) (hm : behindInMarks op b = false) : PT X (.Compare a [op] [b] pos) (tTest (tOp r ta tb)) := by
 intro pins s σ H Q I h
 refine wpAny_isTrue_Compare1 (thn (ha pins s σ H _ I h) fun v s1 ⟨x, H1, I1, r1, q1⟩ => thn (hb pins s1 σ H1 _ I1 q1) fun u s2 ⟨y, H2, I2, r2, q2⟩ =>
  thn (ho pins s2 σ H2 x y v u _ I2 r1 r2 q2) fun c s3 ⟨z, H3, I3, r3, k, e, q3⟩ => ?_) hm
 subst e
 cases r3
 exact wpAny_truthy_bool ⟨H3, I3, q3⟩
def tChain (r r' : R2) (ta tb tc : TE) : TE := fun σ H Q => ta σ H fun x H1 => tb σ H1 fun y H2 => r x y H2 fun z H3 => ∃ k, z = .bl k ∧
 (if k = true then tc σ H3 fun w' H4 => r' y w' H4 Q else Q (.bl false) H3)
theorem pe_chain {op op' : CmpOp} {r r' : R2} (ho : OpR X (compareOp op) r) (ho' : OpR X (compareOp op') r') (ha : PE X a ta) (hb : PE X b tb) (hc : PE X c tc)
  (hm : lastMarks [op, op'] [b, c] = false := by with_unfolding_all rfl) : PE X (.Compare a [op, op'] [b, c] pos) (tChain r r' ta tb tc) := by
 intro pins s σ H Q I h
 refine Compare_chain (thn (ha pins s σ H _ I h) fun v s1 ⟨x, H1, I1, r1, q1⟩ => chain_link (thn (hb pins s1 σ H1 _ I1 q1) fun u s2 ⟨y, H2, I2, r2, q2⟩ =>
  thn (ho pins s2 σ H2 x y v u _ I2 r1 r2 q2) fun d s3 ⟨z, H3, I3, r3, k, e, q3⟩ => ?_)) hm
 subst e
 cases r3
 refine wpAny_truthy_bool ?_
 cases k with
 | false => exact ite_ff ⟨.bl false, H3, I3, rfl, q3⟩
 | true => exact ite_tt (chain_last (thn (hc pins s3 σ H3 _ I3 q3) fun w' s4 ⟨z', H4, I4, r4, q4⟩ => ho' pins s4 σ H4 y z' u w' Q I4 r2 r4 q4))
theorem line63 : (sizeLine : Nat) < 2 ^ 63 := by rw [sizeLine_eq]; decide
theorem vals1 {x : V} {us : List Value} (r : Vals [x] us) : ∃ u, us = [u] ∧ RelV x u := by
 cases r with
 | cons r1 r2 => cases r2; exact ⟨_, rfl, r1⟩
theorem call_abs : CallR X (.builtin "abs") (fun xs H Q => ∃ i, xs = [.int i] ∧ Q (.int (if i < 0 then -i else i)) H) := by
 intro pins s σ H xs us Q I r h
 obtain ⟨i, rfl, q⟩ := h
 obtain ⟨u, rfl, t, rfl⟩ := vals1 r
 exact call_abs_int fun u tk => ⟨.int (if i < 0 then -i else i), H, I.tok _, ⟨_, rfl⟩, q⟩
theorem call_int1 : CallR X (.type "int") (fun xs H Q => (∃ i, xs = [.int i] ∧ Q (.int i) H) ∨ ∃ k, xs = [.bl k] ∧ Q (.int (if k then 1 else 0)) H) := by
 intro pins s σ H xs us Q I r h
 rcases h with ⟨i, rfl, q⟩ | ⟨k, rfl, q⟩
 ·obtain ⟨u, rfl, t, rfl⟩ := vals1 r
  exact call_int_int ⟨.int i, H, I, ⟨_, rfl⟩, q⟩
 ·obtain ⟨u, rfl, r1⟩ := vals1 r
  cases r1
  exact call_int_bool ⟨.int (if k then 1 else 0), H, I.tok _, ⟨_, rfl⟩, q⟩
end
end L2
namespace L2
open PySem PySem.Spec PyProof.Rows
structure ObjM (h : Heap) (x dx C : Addr) (mA : Str → Option Value) : Prop where
 obj : h.get? x = some (PySem.W.instObj C dx)
 ns : h.Ns1 dx mA
 ne : dx ≠ x
theorem lookIn_ns {h : Heap} {dx : Addr} {mA : Str → Option Value} (n : h.Ns1 dx mA) : ∃ od, h.get? dx = some od ∧ ∀ name, PySem.W.lookIn name od = some (mA name) := by
 obtain ⟨o, es, ep, ho, hd, hk, _, hm⟩ := n
 refine ⟨o, ho, fun name => ?_⟩
 have e := hm name
 unfold nsFind findBy at e
 rw [← Array.find?_toList] at e
 unfold PySem.W.lookIn
 rw [hd]
 dsimp only
 split
 ·rename_i y q
  rw [q] at e
  exact congrArg some e
 ·rename_i q
  rw [q] at e
  have a : es.toList.any (·.refKey) = false := by
   rw [List.any_eq_false]
   intro y hy
   obtain ⟨z, t, hkey⟩ := hk y (Array.mem_toList_iff.mp hy)
   simp [DictEntry.refKey, hkey]
  have a' : ¬ es.toList.any (·.refKey) = true := by rw [a]; exact Bool.false_ne_true
  rw [if_neg a']
  exact congrArg some e
theorem ObjM.look {h : Heap} {x dx C : Addr} {mA : Str → Option Value} (I : ObjM h x dx C mA) : ∃ od, PySem.W.InstAt h x (PySem.W.instObj C dx) C (some od) ∧ ∀ name, PySem.W.lookIn name od = some (mA name) :=
 let ⟨od, ho, hl⟩ := lookIn_ns I.ns
 ⟨od, ⟨I.obj, rfl, rfl, ho⟩, hl⟩
section
variable {prog : Program} {w : World} {A : Around} {E : Value → Shared → Prop} {s : Shared} {K : PySem.W.Frag} {x dx C f : Addr} {mA : Str → Option Value} {name : Str} {v : Value}
theorem get_map {expr : Bool} {Q : Value → Shared → Prop} (X : K.In s.heap) (I : ObjM s.heap x dx C mA) (hg : PySem.W.plainGet K C name = true) (hh : PySem.W.hasDictIn K C = true)
  (ha : PySem.W.findIn K (.ref C) name = some none) (hv : mA name = some v) (hv' : PySem.W.handedIn v = true) (h : Q v { s with toks := s.toks + 1 }) :
  wpAny (model prog w) A (getAttr (.ref x) name expr) Q E s := by
 obtain ⟨od, J, hl⟩ := I.look
 exact PySem.W.get_value X J (PySem.W.plainGet_of hg).1 (PySem.W.findObj_own hh ha rfl (by rw [hl, hv])) hv' h
theorem get_meth {pl : Sem Bool} {Q : Value × List Value → Shared → Prop} (X : K.In s.heap) (I : ObjM s.heap x dx C mA) (hg : PySem.W.plainGet K C name = true)
  (hf : PySem.W.findIn K (.ref C) name = some (some (.ref f))) (ht : PySem.W.isFn K (.ref f) = true) (hv : mA name = none) (h : Q (.ref f, [.ref x]) s) :
  wpAny (model prog w) A (getMethod (.ref x) name pl) Q E s := by
 obtain ⟨od, J, hl⟩ := I.look
 exact PySem.W.method_fn X J (PySem.W.plainGet_of hg).1 (PySem.W.plainGet_of hg).2 hf (beq_iff_eq.mp ht) (by show (PySem.W.lookIn name od).map (·.isSome) = some false; rw [hl, hv]; rfl) h
theorem set_map {ns : List Str} {Q : Unit → Shared → Prop} (X : K.In s.heap) (I : ObjM s.heap x dx C mA)
  (hs : PySem.W.findIn K (.ref C) "__setattr__" = some (some (.builtin "object.__setattr__"))) (hp : PySem.W.plainOver K C = true) (ht : PySem.W.takerIn K C name = some none) (hh : PySem.W.hasDictIn K C = true)
  (hw : PySem.Within mA ns) (hsz : ns.length ≤ sizeLine)
  (h : ∀ h', ObjM h' x dx C (fun y => if y = name then some v else mA y) → Heap.SameBut dx s.heap h' → Q () { s with heap := h', toks := s.toks + 2 }) :
  wpAny (model prog w) A (setAttr (.ref x) name v) Q E s := by
 obtain ⟨od, J, hl⟩ := I.look
 refine PySem.W.set_plain X J hs (PySem.W.osa_open (s := { s with toks := s.toks + 1 }) (r := none) X J hp ht fun b => ?_)
 obtain ⟨cd, hc, hd'⟩ := PySem.W.any_some hh
 have hx : s.heap.get? x = some ⟨.ref C, some dx, .plain, #[]⟩ := I.obj
 refine wpAny_bind (wpAny_pure (wpAny_bind (wpAny_bind (wpAny_loadPart hx (wpAny_bind (PySem.W.Looks.here (s := { s with toks := s.toks + 1 }) (PySem.W.looks_clsIn X hc) ?_))))))
 rw [hd']
 refine wpAny_pure (a := some dx) (wpAny_bind (wpAny_pure (wpAny_bind ?_)))
 refine wpAny_nsSet1 (s := { s with toks := s.toks + 1 }) I.ns fun h' hn2 hs2 => ?_
 obtain ⟨oD, esD, epD, hoD, hdD, hcD⟩ := hn2.count (PySem.Within.cons name v hw)
 refine wpAny_bind (wpAny_lookBehind hoD (by rw [hdD]; exact pastItsLine_dict (Nat.le_trans hcD (by rw [List.length_cons]; omega))) ?_)
 exact wpAny_pure (h _ ⟨(hs2.2 _ (Ne.symm I.ne)).trans I.obj, hn2, I.ne⟩ hs2)
theorem make_map {R : Result → Shared → Prop} {vs : List Value} {kw : List (Str × Value)} (X : K.In s.heap) (hm : PySem.W.makesIn K C = true)
  (hi : PySem.W.findIn K (.ref C) "__init__" = some (some (.ref f))) (hf : PySem.W.typeIn K (.ref f) = some (.type "function"))
  (h : codeAny (model prog w) (A.under (.builtin "type.__call__" ⟨.ref C :: vs, kw⟩)) (.call (.ref f) ⟨.ref (s.heap.objs.size + 1) :: vs, kw⟩) (PySem.W.InitBack (s.heap.objs.size + 1) R)
   { s with heap := (s.heap.push PySem.W.emptyDict).push (PySem.W.instObj C s.heap.objs.size) }) :
  codeAny (model prog w) A (.call (.ref C) ⟨vs, kw⟩) R s := by
 obtain ⟨hh, g, d, t, os⟩ := s
 exact PySem.W.make_core (PySem.W.makes_of X hm) (PySem.W.looks_findIn X hi) (fun self => PySem.W.bind_fn X self hf) (.inl rfl) h
end
def putF (f : Str) (v : V) : List (Str × V) → List (Str × V)
 | [] => [(f, v)]
 | (g, x) :: r => if g = f then (g, v) :: r else (g, x) :: putF f v r
theorem lookup_putF (f g : Str) (v : V) : ∀ fs : List (Str × V), (putF f v fs).lookup g = if g = f then some v else fs.lookup g
 | [] => by
  show List.lookup g [(f, v)] = _
  by_cases h : g = f
  ·have hb : (g == f) = true := beq_iff_eq.mpr h
   simp only [List.lookup, hb, if_pos h]
  ·have hb : (g == f) = false := beq_eq_false_iff_ne.mpr h
   simp only [List.lookup, hb, if_neg h]
 | (k, x) :: r => by
  have ih := lookup_putF f g v r
  rw [show putF f v ((k, x) :: r) = (if k = f then (k, v) :: r else (k, x) :: putF f v r) from rfl]
  by_cases hk : k = f
  ·rw [if_pos hk]
   by_cases h : g = k
   ·have hb : (g == k) = true := beq_iff_eq.mpr h
    simp only [List.lookup, hb, if_pos (h.trans hk)]
   ·have hb : (g == k) = false := beq_eq_false_iff_ne.mpr h
    simp only [List.lookup, hb, if_neg (fun e : g = f => h (e.trans hk.symm))]
  ·rw [if_neg hk]
   by_cases h : g = k
   ·have hb : (g == k) = true := beq_iff_eq.mpr h
    simp only [List.lookup, hb, if_neg (fun e : g = f => hk (h.symm.trans e))]
   ·have hb : (g == k) = false := beq_eq_false_iff_ne.mpr h
    simp only [List.lookup, hb]
    exact ih
theorem keys_putF (f : Str) (v : V) : ∀ fs : List (Str × V), f ∈ (putF f v fs).map (·.1) ∧ ∀ g, g ∈ fs.map (·.1) → g ∈ (putF f v fs).map (·.1)
 | [] => ⟨by simp [putF], fun g h => by simp at h⟩
 | (k, x) :: r => by
  obtain ⟨i1, i2⟩ := keys_putF f v r
  rw [show putF f v ((k, x) :: r) = (if k = f then (k, v) :: r else (k, x) :: putF f v r) from rfl]
  by_cases hk : k = f
  ·rw [if_pos hk]
   subst hk
   exact ⟨by simp, fun g h => by simpa using h⟩
  ·rw [if_neg hk]
   refine ⟨?_, fun g h => ?_⟩
   ·rw [List.map_cons]
    exact List.mem_cons_of_mem _ i1
   ·rw [List.map_cons] at h ⊢
    rcases List.mem_cons.mp h with e | e
    ·exact List.mem_cons.mpr (.inl e)
    ·exact List.mem_cons_of_mem _ (i2 g e)
theorem length_putF (f : Str) (v : V) : ∀ fs : List (Str × V), (putF f v fs).length ≤ fs.length + 1
 | [] => by simp [putF]
 | (k, x) :: r => by
  have ih := length_putF f v r
  rw [show putF f v ((k, x) :: r) = (if k = f then (k, v) :: r else (k, x) :: putF f v r) from rfl]
  by_cases hk : k = f
  ·rw [if_pos hk, List.length_cons, List.length_cons]; omega
  ·rw [if_neg hk, List.length_cons, List.length_cons]; omega
theorem RelO.some_of {v : V} {o : Option Value} (r : RelO (some v) o) : ∃ u, o = some u ∧ RelV v u := by
 cases o with
 | none => exact (show False from r).elim
 | some u => exact ⟨u, rfl, r⟩
theorem RelO.none_of {o : Option Value} (r : RelO none o) : o = none := by
 cases o with
 | none => rfl
 | some u => exact (show False from r).elim
theorem handed_of {v : V} {u : Value} (r : RelV v u) : PySem.W.handedIn u = true := by
 cases v with
 | non => cases (show u = Value.none from r); rfl
 | bl b => cases (show u = Value.bool b from r); rfl
 | int i => obtain ⟨t, e⟩ := (show ∃ t, u = Value.int i t from r); cases e; rfl
 | str x => obtain ⟨t, e⟩ := (show ∃ t, u = Value.str x t from r); cases e; rfl
 | byt b => obtain ⟨t, e⟩ := (show ∃ t, u = Value.bytes b t from r); cases e; rfl
 | flt b => obtain ⟨t, e⟩ := (show ∃ t, u = Value.float b t from r); cases e; rfl
 | ref a => cases (show u = Value.ref a from r); rfl
 | ty n => cases (show u = Value.type n from r); rfl
section
variable {P : Program} {w : World} {H H' : Hp} {h h' : Heap} {a C dx : Addr} {fs fs' : List (Str × V)}
theorem ins_get (hok : HOk P w H h) (e : H a = some (.ins C dx fs)) : ∃ mA, ObjM h a dx C mA ∧ (∀ f, RelO (fs.lookup f) (mA f)) ∧ PySem.Within mA (fs.map (·.1)) ∧ fs.length ≤ 1000 ∧ H dx = some (.own a) := by
 obtain ⟨d, z, ne, ob, mA, n, r, q⟩ := (show ObjOk P w H h a (.ins C dx fs) from hok a _ e)
 exact ⟨mA, ⟨ob, n, ne⟩, r, q, z, d⟩
end
structure Cls (K : PySem.W.Frag) (C : Addr) : Prop where
 pg : PySem.W.plainGet K C Str.empty = true
 hd : PySem.W.hasDictIn K C = true
 po : PySem.W.plainOver K C = true
 sa : PySem.W.findIn K (.ref C) "__setattr__" = some (some (.builtin "object.__setattr__"))
theorem Cls.get {K : PySem.W.Frag} {C : Addr} (c : Cls K C) (f : Str) : PySem.W.plainGet K C f = true := c.pg
def NoAttr (K : PySem.W.Frag) (C : Addr) (f : Str) : Prop := PySem.W.findIn K (.ref C) f = some none
theorem NoAttr.taker {K : PySem.W.Frag} {C : Addr} {f : Str} (n : NoAttr K C f) : PySem.W.takerIn K C f = some none := by
 unfold PySem.W.takerIn
 rw [show PySem.W.findIn K (.ref C) f = some none from n]
 rfl
structure Con (K : PySem.W.Frag) (C : Addr) (f : Str) (v : V) (u : Value) : Prop where
 at_ : PySem.W.findIn K (.ref C) f = some (some u)
 rel : RelV v u
 get : PySem.W.specialIn K u "__get__" = some none
 cp : PySem.W.copiedNames.contains f = false
structure Meth (K : PySem.W.Frag) (C : Addr) (m : Str) (f : Addr) : Prop where
 at_ : PySem.W.findIn K (.ref C) m = some (some (.ref f))
 fn : PySem.W.isFn K (.ref f) = true
 kp : PySem.W.keepIn K (.ref f) = true
section
variable {X : Cx} {pins : List (Addr × Obj)} {σ : St} {H : Hp} {s : Shared} {a C dx : Addr} {fs : List (Str × V)} {f : Str} {v : V} {A : Around} {E : Value → Shared → Prop}
theorem getattr_ok {b : Bool} {Q : Value → Shared → Prop} (I : Inv X pins σ H s) (e : H a = some (.ins C dx fs)) (c : Cls X.K C) (n : NoAttr X.K C f) (l : fs.lookup f = some v)
  (h : ∀ u s', Inv X pins σ H s' → RelV v u → Q u s') : wpAny (model X.prog X.w) A (getAttr (.ref a) f b) Q E s := by
 obtain ⟨mA, O, r, _, _, _⟩ := ins_get I.hok e
 obtain ⟨u, hu, ru⟩ := RelO.some_of (v := v) (o := mA f) (by rw [← l]; exact r f)
 exact get_map I.kIn O (c.get f) c.hd n hu (handed_of ru) (h u _ (I.tok _) ru)
theorem getmeth_ok {m : Str} {g : Addr} {pl : Sem Bool} {Q : Value × List Value → Shared → Prop} (I : Inv X pins σ H s) (e : H a = some (.ins C dx fs)) (c : Cls X.K C) (k : Meth X.K C m g) (l : fs.lookup m = none)
  (h : Q (.ref g, [.ref a]) s) : wpAny (model X.prog X.w) A (getMethod (.ref a) m pl) Q E s := by
 obtain ⟨mA, O, r, _, _, _⟩ := ins_get I.hok e
 have hn : mA m = none := RelO.none_of (by rw [← l]; exact r m)
 exact get_meth I.kIn O (c.get m) k.at_ k.fn hn h
theorem setattr_ok {y : V} {u : Value} {Q : Unit → Shared → Prop} (I : Inv X pins σ H s) (e : H a = some (.ins C dx fs)) (c : Cls X.K C) (n : NoAttr X.K C f) (hl : fs.length < 1000) (ry : RelV y u)
  (h : ∀ s', Inv X pins σ (upd H a (.ins C dx (putF f y fs))) s' → Q () s') : wpAny (model X.prog X.w) A (setAttr (.ref a) f u) Q E s := by
 obtain ⟨mA, O, r, wi, _, ho⟩ := ins_get I.hok e
 have hz : (fs.map (·.1)).length ≤ sizeLine := by rw [List.length_map, sizeLine_eq]; omega
 refine set_map I.kIn O c.sa c.po n.taker c.hd wi hz fun h' O' sb => h _ ?_
 have hd : ∃ o, h'.get? dx = some o := let ⟨o, _, _, e', _⟩ := O'.ns; ⟨o, e'⟩
 refine I.write (x := a) (e := dx) (by rw [e]; exact True.intro) (.inr ho) (fun b q hb z => (sb.2 b hb).trans z) hd ?_
 refine ⟨by rw [upd_ne O.ne]; exact ho, ?_, O.ne, O'.obj, _, O'.ns, fun g => ?_, fun g hg => ?_⟩
 ·have := length_putF f y fs; omega
 ·show RelO ((putF f y fs).lookup g) (if g = f then some u else mA g)
  rw [lookup_putF]
  by_cases q : g = f
  ·rw [if_pos q, if_pos q]; exact ry
  ·rw [if_neg q, if_neg q]; exact r g
 ·by_cases q : g = f
  ·rw [q]; exact (keys_putF f y fs).1
  ·refine (keys_putF f y fs).2 g (wi g fun z => hg ?_)
   show (if g = f then some u else mA g) = none
   rw [if_neg q]; exact z
theorem Inv.made (I : Inv X pins σ H s) : Inv X pins σ (upd (upd H s.heap.objs.size (.own (s.heap.objs.size + 1))) (s.heap.objs.size + 1) (.ins C s.heap.objs.size []))
  { s with heap := (s.heap.push PySem.W.emptyDict).push (PySem.W.instObj C s.heap.objs.size) } := by
 have e1 : (s.heap.push PySem.W.emptyDict).get? s.heap.objs.size = some PySem.W.emptyDict := Heap.get?_push_size s.heap rfl
 have e2 : ((s.heap.push PySem.W.emptyDict).push (PySem.W.instObj C s.heap.objs.size)).get? (s.heap.objs.size + 1) = some (PySem.W.instObj C s.heap.objs.size) := by
  have := Heap.get?_push_size (s.heap.push PySem.W.emptyDict) (o := PySem.W.instObj C s.heap.objs.size) rfl
  rwa [Heap.size_push] at this
 have e3 : (s.heap.push PySem.W.emptyDict).Ns s.heap.objs.size (fun _ => none) := ⟨PySem.W.emptyDict, #[], _, e1, rfl, (fun e he => absurd he (by simp)), fun _ => rfl⟩
 have I1 := I.laid (a := s.heap.objs.size) (o := .own (s.heap.objs.size + 1)) (h' := s.heap.push PySem.W.emptyDict) (t' := s.toks) (fun b u q => Heap.get?_push_of_some _ q) (Nat.le_refl _) ⟨_, e1⟩
 refine I1.laid (a := s.heap.objs.size + 1) (o := .ins C s.heap.objs.size []) (t' := s.toks) (fun b u q => Heap.get?_push_of_some _ q) (Nat.le_of_eq (Heap.size_push _ _)) ?_
 have ne : s.heap.objs.size ≠ s.heap.objs.size + 1 := Nat.ne_of_lt (Nat.lt_succ_self _)
 refine ⟨by rw [upd_ne ne, upd_same], Nat.zero_le _, ne, e2, fun _ => none, (Heap.Ns1.of_empty e3).at fun o q => Heap.get?_push_of_some _ q, fun _ => True.intro, fun y hy => absurd rfl hy⟩
theorem attr_of {prog : Program} {w : World} {env : Env} {e : Expr} {f : Str} {pos : Pos} {s : Shared} {Q : Value → Shared → Prop} (hb : attributeBase e f env (eval e env) = eval e env)
  (h : wpAny (model prog w) A (eval e env) (fun o s₁ => wpAny (model prog w) A (getAttr o f true) Q E s₁) E s) : wpAny (model prog w) A (eval (.Attribute e f pos) env) Q E s :=
 Attribute_any_ h (by rw [arm_eval_Attribute, hb])
end
def tFld (K : PySem.W.Frag) (ta : TE) (f : Str) : TE := fun σ H Q => ta σ H fun x H1 => ∃ a C dx fs v, x = .ref a ∧ H1 a = some (.ins C dx fs) ∧ Cls K C ∧ NoAttr K C f ∧ fs.lookup f = some v ∧ Q v H1
def sFld (K : PySem.W.Frag) (ta tv : TE) (f : Str) : TS := fun D σ H => tv σ H fun y H1 => ta σ H1 fun x H2 => ∃ a C dx fs, x = .ref a ∧ H2 a = some (.ins C dx fs) ∧ Cls K C ∧ NoAttr K C f ∧ fs.length < 1000 ∧
 D.nx σ (upd H2 a (.ins C dx (putF f y fs)))
section
variable {X : Cx} {o e value : Expr} {f : Str} {pos pos' tpos : Pos} {ta tv : TE}
theorem pe_fld (he : PE X e ta) (hb : attributeBase e f X.env (eval e X.env) = eval e X.env) : PE X (.Attribute e f pos) (tFld X.K ta f) := by
 intro pins s σ H Q I h
 refine attr_of hb (thn (he pins s σ H _ I h) fun u s1 ⟨x, H1, I1, rx, a, C, dx, fs, v, ex, ea, c, n, l, q⟩ => ?_)
 subst ex
 obtain rfl : u = Value.ref a := rx
 exact getattr_ok I1 ea c n l fun u' s2 I2 ru => ⟨v, H1, I2, ru, q⟩
theorem ps_fld (ha : PE X o ta) (hv : PE X value tv) (hs : swapsWith value (some (.Attribute o f pos')) pos.line X.env = pure false) : PS X (.Assign [.Attribute o f pos'] value pos) (sFld X.K ta tv f) := by
 intro pins s σ H D I h
 refine plainObj_wpAny_Assign_Attribute (thn (hv pins s σ H _ I h) fun u s1 ⟨y, H1, I1, ry, q⟩ => thn (ha pins s1 σ H1 _ I1 q) fun ov s2 ⟨x, H2, I2, rx, a, C, dx, fs, ex, ea, c, n, l, q2⟩ => ?_) hs
 subst ex
 obtain rfl : ov = Value.ref a := rx
 exact setattr_ok I2 ea c n l ry fun s3 I3 => ⟨σ, _, I3, q2⟩
end
section
variable {X : Cx} {pins : List (Addr × Obj)} {σ : St} {H : Hp} {s : Shared} {A : Around} {E : Value → Shared → Prop} {Q : Value → Shared → Prop} {c : Value} {b : Bool}
inductive TyOf (K : PySem.W.Frag) (H : Hp) : V → Value → Prop where
  | non : TyOf K H .non (.type "NoneType")
  | bl (x : Bool) : TyOf K H (.bl x) (.type "bool")
  | int (i : Int) : TyOf K H (.int i) (.type "int")
  | str (x : Str) : TyOf K H (.str x) (.type "str")
  | flt (x : UInt64) : TyOf K H (.flt x) (.type "float")
  | lst {a : Addr} {xs : List V} (e : H a = some (.lst xs)) : TyOf K H (.ref a) (.type "list")
  | frz {a : Addr} {o : Obj} {xs : List V} (e : H a = some (.frz o (.lst xs))) : TyOf K H (.ref a) (.type "list")
  | tup {a : Addr} {xs : List V} (e : H a = some (.tup xs)) : TyOf K H (.ref a) (.type "tuple")
  | dK {a : Addr} {kvs : List (Key × V)} (e : H a = some (.dK kvs)) : TyOf K H (.ref a) (.type "dict")
  | dT {a : Addr} {kvs : List (List Key × V)} (e : H a = some (.dT kvs)) : TyOf K H (.ref a) (.type "dict")
  | ins {a C dx : Addr} {fs : List (Str × V)} (e : H a = some (.ins C dx fs)) (cl : Cls K C) (ha : PySem.W.findIn K (.ref C) "__class__" = some (some (.builtin "object.__class__")))
      (hn : PySem.W.specialIn K (.builtin "object.__class__") "__get__" = some (some (.builtin "getset_descriptor.__get__"))) (htk : PySem.W.takesIn K (.builtin "object.__class__") = some true)
      (hm : PySem.W.mroIn K C (.type "object") = some true) : TyOf K H (.ref a) (.ref C)
theorem isinst_ok {x : V} {u t : Value} (I : Inv X pins σ H s) (rx : RelV x u) (ty : TyOf X.K H x t) (e : PySem.W.kitOne X.K t c = some b) (h : ∀ tk, Q (.bool b) { s with toks := tk }) :
  wpAny (model X.prog X.w) A (call (.builtin "isinstance") [u, c]) Q E s := by
 cases ty with
 | non => cases (show u = Value.none from rx); exact PySem.W.kia_one PySem.W.kitx_none I.kIn True.intro e (fun z => nomatch z) h
 | bl y => cases (show u = Value.bool y from rx); exact PySem.W.kia_one PySem.W.kitx_bool I.kIn True.intro e (fun z => nomatch z) h
 | int i => obtain ⟨t, q⟩ := (show ∃ t, u = Value.int i t from rx); cases q; exact PySem.W.kia_one PySem.W.kitx_int I.kIn True.intro e (fun z => nomatch z) h
 | str y => obtain ⟨t, q⟩ := (show ∃ t, u = Value.str y t from rx); cases q; exact PySem.W.kia_one PySem.W.kitx_str I.kIn True.intro e (fun z => nomatch z) h
 | flt y => obtain ⟨t, q⟩ := (show ∃ t, u = Value.float y t from rx); cases q; exact PySem.W.kia_one PySem.W.kitx_float I.kIn True.intro e (fun z => nomatch z) h
 | @lst a xs ea =>
  cases (show u = Value.ref a from rx)
  obtain ⟨_, _, n, _, h1⟩ := (show ObjOk X.prog X.w H s.heap a (.lst xs) from I.hok a _ ea)
  exact PySem.W.kia_one PySem.W.kitx_list I.kIn ⟨_, h1, rfl⟩ e (fun z => nomatch z) h
 | @frz a ob xs ea =>
  cases (show u = Value.ref a from rx)
  obtain ⟨_, _, _, n, _, h1⟩ := (show ObjOk X.prog X.w H s.heap a (.frz ob (.lst xs)) from I.hok a _ ea)
  exact PySem.W.kia_one PySem.W.kitx_list I.kIn ⟨_, h1, rfl⟩ e (fun z => nomatch z) h
 | @tup a xs ea =>
  cases (show u = Value.ref a from rx)
  obtain ⟨_, _, _, p⟩ := (show ObjOk X.prog X.w H s.heap a (.tup xs) from I.hok a _ ea)
  obtain ⟨o, h1, h2, _⟩ := p
  exact PySem.W.kia_one PySem.W.kitx_tuple I.kIn ⟨o, h1, h2⟩ e (fun z => nomatch z) h
 | @dK a kvs ea =>
  cases (show u = Value.ref a from rx)
  obtain ⟨_, _, vs, _, p⟩ := (show ObjOk X.prog X.w H s.heap a (.dK kvs) from I.hok a _ ea)
  obtain ⟨o, es, ep, h1, h2, _⟩ := p
  exact PySem.W.kia_one PySem.W.kitx_dict I.kIn ⟨o, h1, h2.1⟩ e (fun z => nomatch z) h
 | @dT a kvs ea =>
  cases (show u = Value.ref a from rx)
  obtain ⟨_, _, xs, _, o, es, ep, h1, h2, _⟩ := (show ObjOk X.prog X.w H s.heap a (.dT kvs) from I.hok a _ ea)
  exact PySem.W.kia_one PySem.W.kitx_dict I.kIn ⟨o, h1, h2.1⟩ e (fun z => nomatch z) h
 | @ins a C dx fs ea cl ha hn htk hm =>
  cases (show u = Value.ref a from rx)
  obtain ⟨mA, O, _⟩ := ins_get I.hok ea
  obtain ⟨od, J, _⟩ := O.look
  exact PySem.W.kia_one (PySem.W.kitx_own (cl.get _) cl.hd ha hn htk hm) I.kIn J e (fun z => nomatch z) h
end
end L2
namespace L2
open PySem PySem.Spec PyProof.Rows
structure Room (k : Nat) (A : Around) : Prop where
 hd : A.handled = none
 dp : A.depth + 3 * k + 5 < recursionLimit
 un : A.units + 16 * k + 200 < cLine
theorem Room.mono {j k : Nat} {A : Around} (r : Room k A) (h : j ≤ k) : Room j A := ⟨r.hd, by have := r.dp; omega, by have := r.un; omega⟩
theorem Room.deeper {k : Nat} {A : Around} (r : Room (k + 1) A) (env : Env) : Room k (A.deeper env) :=
 ⟨r.hd, by have := r.dp; show A.depth + 1 + 3 * k + 5 < _; omega, by have := r.un; show A.units + 3 + 16 * k + 200 < _; omega⟩
theorem make_depth {A : Around} {C : Addr} {us : List Value} {kw : List (Str × Value)} : (A.under (.builtin "type.__call__" ⟨.ref C :: us, kw⟩)).depth = A.depth + 1 := by
 first | rfl | simp [Around.under, Code.weight, Code.isCreation, Code.isGuard, Code.isCaller, Code.frames, Code.isFrame, guardIds]
theorem make_units {A : Around} {C : Addr} {us : List Value} {kw : List (Str × Value)} : (A.under (.builtin "type.__call__" ⟨.ref C :: us, kw⟩)).units = A.units + 1 := by
 first | rfl | simp [Around.under, Code.cUnits, Code.frames, Code.isFrame]
theorem Room.make {k : Nat} {A : Around} (r : Room (k + 1) A) (C : Addr) (us : List Value) (kw : List (Str × Value)) : Room k (A.under (.builtin "type.__call__" ⟨.ref C :: us, kw⟩)) :=
 ⟨r.hd, by have := r.dp; rw [make_depth]; omega, by have := r.un; rw [make_units]; omega⟩
theorem Room.depth {k : Nat} {A : Around} (r : Room k A) : A.depth < recursionLimit := by have := r.dp; omega
theorem Room.units {k : Nat} {A : Around} (r : Room k A) : A.units + 64 < cLine := by have := r.un; omega
def tNil : TA := fun _ H Q => Q [] H
def tCons (ta : TE) (tr : TA) : TA := fun σ H Q => ta σ H fun x H1 => tr σ H1 fun xs H2 => Q (x :: xs) H2
section
variable {X : Cx} {e : Expr} {es : List Expr} {te : TE} {t : TA} {pos : Pos}
theorem pa_nil : PA X [] tNil := fun _ _ _ _ H Q I h => Calls.spliced_nil ⟨[], H, I, .nil, h⟩
theorem pa_cons (ha : PE X e te) (hr : PA X es t) (hs : starEach (e :: es) X.env = (false, eval e X.env) :: starEach es X.env := by rfl) : PA X (e :: es) (tCons te t) := by
 intro pos pins s σ H Q I h
 rw [hs]
 show wpAny _ _ (spliced ((false, eval e X.env) :: backTo pos (starEach es X.env))) _ _ s
 refine Calls.spliced_cons (thn (ha pins s σ H _ I h) fun u s1 ⟨x, H1, I1, r1, q1⟩ => ?_)
 exact thn (hr pos pins s1 σ H1 _ I1 q1) fun us s2 ⟨xs, H2, I2, r2, q2⟩ => ⟨x :: xs, H2, I2, .cons r1 r2, q2⟩
def tTup (t : TA) : TE := fun σ H Q => t σ H fun xs H1 => xs.length ≤ sizeLine ∧ ∀ p, H1 p = none → Q (.ref p) (upd H1 p (.tup xs))
def tLst (t : TA) : TE := fun σ H Q => t σ H fun xs H1 => xs.length ≤ sizeLine ∧ ∀ p, H1 p = none → Q (.ref p) (upd H1 p (.lst xs))
theorem pe_tup {x1} (h : PA X es t) : PE X (.Tuple es x1 pos) (tTup t) := by
 intro pins s σ H Q I hq
 refine wpAny_Tuple_spliced (thn (h pos pins s σ H _ I hq) fun us s1 ⟨xs, H1, I1, r, z, q⟩ => ⟨by rw [← r.length]; exact z, ?_⟩)
 have hf : H1 s1.heap.objs.size = none := I1.hok.fresh (Nat.le_refl _)
 refine ⟨.ref s1.heap.objs.size, upd H1 s1.heap.objs.size (.tup xs), I1.laid (t' := s1.toks) (fun b u e => Heap.get?_push_of_some _ e) (Nat.le_refl _) ?_, rfl, q _ hf⟩
 exact ⟨z, us, r, ⟨_, Heap.get?_push_size _ rfl, rfl, _, rfl⟩⟩
theorem pe_lst (h : PA X es t) : PE X (.List es pos) (tLst t) := by
 intro pins s σ H Q I hq
 refine wpAny_List_spliced (thn (h pos pins s σ H _ I hq) fun us s1 ⟨xs, H1, I1, r, z, q⟩ => ⟨by rw [← r.length]; exact z, ?_⟩)
 have hf : H1 s1.heap.objs.size = none := I1.hok.fresh (Nat.le_refl _)
 refine ⟨.ref s1.heap.objs.size, upd H1 s1.heap.objs.size (.lst xs), I1.laid (t' := s1.toks) (fun b u e => Heap.get?_push_of_some _ e) (Nat.le_refl _) ?_, rfl, q _ hf⟩
 exact ⟨z, us, 0, r, Heap.get?_push_size _ rfl⟩
end
abbrev Sp := List V → Hp → VK → XK → Prop
abbrev CXT := List Env → Hp → Shared → XK → Value → Shared → Prop
structure Env0 (P : Program) (w : World) (K : PySem.W.Frag) (mg : Str → Option Value) (base : Heap) (A : Around) (outer : List Env) (s : Shared) (H : Hp) : Prop where
 frames : A.frames = some outer
 mod : Mod K mg base
 bs : ∀ b o, base.get? b = some o → s.heap.get? b = some o ∧ H b = none
 bsz : base.objs.size ≤ s.heap.objs.size
 funs : s.heap.FunFrames base outer
 frf : ∀ b ∈ frs outer, H b = none
 hok : HOk P w H s.heap
 bare : AllBare s.gens
def CE (outer : List Env) (P : Program) (w : World) (H : Hp) (s : Shared) (Q : VK) (u : Value) (s' : Shared) : Prop :=
 ∃ v H', s'.os = s.os ∧ AllBare s'.gens ∧ Un (frs outer) [] H H' s.heap s'.heap ∧ HOk P w H' s'.heap ∧ RelV v u ∧ Q v H'
def CR (CX : CXT) (outer : List Env) (P : Program) (w : World) (H : Hp) (s : Shared) (Q : VK) (E : XK) (r : Result) (s' : Shared) : Prop :=
 match r with
 | .ok (.ret u) => CE outer P w H s Q u s'
 | .ok _ => False
 | .error e => CX outer H s E e s'
structure FnOk (P : Program) (w : World) (K : PySem.W.Frag) (mg : Str → Option Value) (base : Heap) (CX : CXT) (k : Nat) (f : Addr) (fd : FuncData) (ps : List Str) (sp : Sp) : Prop where
 len : ∀ vs H Q E, sp vs H Q E → vs.length = ps.length
 run : ∀ (A : Around) (outer : List Env) (s : Shared) (H : Hp) (args : Args) (us : List Value) (vs : List V) (Q : VK) (E : XK), Room k A → Env0 P w K mg base A outer s H → BindsTo s fd args (ps.zip us) → Vals vs us → sp vs H Q E →
  codeAny (model P w) A (.call (.ref f) args) (CR CX outer P w H s Q E) s
theorem Env0.make {P : Program} {w : World} {K : PySem.W.Frag} {mg : Str → Option Value} {base : Heap} {A : Around} {outer : List Env} {s : Shared} {H : Hp} (e : Env0 P w K mg base A outer s H) (C : Addr) (us : List Value) (kw : List (Str × Value)) :
  Env0 P w K mg base (A.under (.builtin "type.__call__" ⟨.ref C :: us, kw⟩)) outer s H := ⟨by first | exact e.frames | (simpa [Around.under, Code.envs, Code.isFrame, pushEnvs] using e.frames), e.mod, e.bs, e.bsz, e.funs, e.frf, e.hok, e.bare⟩
section
variable {X : Cx} {pins : List (Addr × Obj)} {σ : St} {H : Hp} {s s' : Shared}
theorem Inv.env0 (I : Inv X pins σ H s) : Env0 X.prog X.w X.K X.mg X.base X.A X.stack s H :=
 ⟨I.ok.frames, I.ok.mod, I.bs, Nat.le_trans I.ok.bsz I.sz, I.stack, I.stkFree, I.hok, I.bare⟩
theorem Inv.after {Q : VK} {u : Value} (I : Inv X pins σ H s) (h : CE X.stack X.prog X.w H s Q u s') : EP X pins σ Q u s' := by
 obtain ⟨v, H', os, bare, un, hok, r, q⟩ := h
 obtain ⟨hh, g, d, t, os'⟩ := s'
 obtain rfl : os' = s.os := os
 exact ⟨v, H', I.call (h' := hh) (g' := g) (d' := d) (t' := t) (ch := []) un hok bare (fun b z => absurd z (by simp)), r, q⟩
end
def tCall (sp : Sp) (dvs : List V) (E : XK) (t : TA) : TE := fun σ H Q => t σ H fun vs H1 => sp (vs ++ dvs) H1 Q E
def tMeth (C : Addr) (m : Str) (sp : Sp) (dvs : List V) (E : XK) (ta : TE) (t : TA) : TE := fun σ H Q => ta σ H fun x H1 => ∃ a dx fs, x = .ref a ∧ H1 a = some (.ins C dx fs) ∧ fs.lookup m = none ∧
 t σ H1 fun vs H2 => sp (x :: (vs ++ dvs)) H2 Q E
def tMake (C : Addr) (sp : Sp) (dvs : List V) (E : XK) (t : TA) : TE := fun σ H Q => t σ H fun vs H1 => ∀ x dx, H1 x = none → H1 dx = none → dx ≠ x →
 sp (.ref x :: (vs ++ dvs)) (upd (upd H1 dx (.own x)) x (.ins C dx [])) (fun v H2 => v = .non ∧ Q (.ref x) H2) E
def Binds (K : PySem.W.Frag) (fd : FuncData) (ps : List Str) (ds : List Value) : Prop :=
 ∀ (s : Shared) (us : List Value), K.In s.heap → (us ++ ds).length = ps.length → BindsTo s fd ⟨us, []⟩ (ps.zip (us ++ ds))
theorem Binds.all {K : PySem.W.Frag} {fd : FuncData} {ps : List Str} (h : ∀ us : List Value, us.length = ps.length → bindArgs fd ⟨us, []⟩ = pure (ps.zip us)) : Binds K fd ps [] := fun s us _ hl => by
 rw [List.append_nil] at hl ⊢
 exact .of_eq (h us hl)
def Passes (CX : CXT) (X : Cx) (E : XK) : Prop := ∀ (pins : List (Addr × Obj)) (σ : St) (H : Hp) (s : Shared) (e : Value) (s' : Shared), Inv X pins σ H s → CX X.stack H s E e s' → X.xe e s'
section
variable {X : Cx} {CX : CXT} {k : Nat} {f C : Addr} {fd : FuncData} {ps : List Str} {sp : Sp} {dvs : List V} {ds : List Value} {E : XK} {x m : Str} {p pos apos : Pos} {e o : Expr} {es : List Expr} {ta : TE} {t : TA}
theorem run_fn {pins : List (Addr × Obj)} {σ : St} {H : Hp} {s : Shared} {Q : VK} {us : List Value} {vs : List V} (F : FnOk X.prog X.w X.K X.mg X.base CX k f fd ps sp) (hr : Room k X.A) (hb : Binds X.K fd ps ds) (hd : Vals dvs ds) (hx : Passes CX X E)
  (I : Inv X pins σ H s) (r : Vals vs us) (h : sp (vs ++ dvs) H Q E) : wpAny (model X.prog X.w) X.A (call (.ref f) us) (EP X pins σ Q) X.xe s := by
 have r2 : Vals (vs ++ dvs) (us ++ ds) := r.append hd
 have hl : (us ++ ds).length = ps.length := by rw [← r2.length]; exact F.len _ _ _ _ h
 refine wpAny_call (codeAny_mono (F.run X.A X.stack s H ⟨us, []⟩ (us ++ ds) (vs ++ dvs) Q E hr I.env0 (hb s us I.kIn hl) r2 h) fun r s' hq => ?_)
 cases r with
 | error e => exact hx pins σ H s e s' I hq
 | ok fl =>
  cases fl with
  | ret u => exact I.after hq
  | next => exact False.elim hq
  | brk => exact False.elim hq
  | cont => exact False.elim hq
theorem pe_call (F : FnOk X.prog X.w X.K X.mg X.base CX k f fd ps sp) (hr : Room k X.A) (hg : Gl X x) (hm : X.mg x = some (.ref f)) (hk : PySem.W.keepIn X.K (.ref f) = true) (hb : Binds X.K fd ps ds) (hd : Vals dvs ds) (hx : Passes CX X E)
  (ha : PA X (e :: es) t) (hdb : (x == ("__debug__" : Str)) = false := by decide) (he : starEach (e :: es) X.env = (false, eval e X.env) :: starEach es X.env := by rfl) (hpl : (backTo pos (starEach es X.env)).any (·.1) = false := by rfl) :
  PE X (.Call (.Name x p) (e :: es) [] pos) (tCall sp dvs E t) := by
 intro pins s σ H Q I h
 refine wpAny_Call_Name_kw (ld_glob I hg hm ?_ hdb)
 refine PySem.W.callWith_K (h₀ := X.base) I.ok.mod.kin hk (thn (ha pos pins s σ H _ I h) fun us s1 ⟨vs, H1, I1, r, q⟩ => ⟨I1.kIn, ?_⟩) he hpl
 exact run_fn F hr hb hd hx I1 r q
theorem pe_meth {pl : Sem Bool} (he : PE X o ta) (c : Cls X.K C) (hm : Meth X.K C m f) (F : FnOk X.prog X.w X.K X.mg X.base CX k f fd ps sp) (hr : Room k X.A) (hb : Binds X.K fd ps ds) (hd : Vals dvs ds) (hx : Passes CX X E) (ha : PA X (e :: es) t)
  (hst : starEach (e :: es) X.env = (false, eval e X.env) :: starEach es X.env := by rfl) (hpl : (backTo pos (starEach es X.env)).any (·.1) = false := by rfl)
  (ht : eval (.Call (.Attribute o m apos) (e :: es) [] pos) X.env = (do
   let ov ← eval o X.env
   standAt apos.atName
   let (f, first) ← holding [ov] (getMethod ov m pl)
   callWith pos f first (backTo pos (starEach (e :: es) X.env)) (backToKw pos (keywordEach [] X.env))) := by rfl) :
  PE X (.Call (.Attribute o m apos) (e :: es) [] pos) (tMeth C m sp dvs E ta t) := by
 intro pins s σ H Q I h
 refine PySem.W.methodCall_KW (pl := pl) (thn (he pins s σ H _ I h) fun u s1 ⟨x, H1, I1, rx, a, dx, fs, ex, ea, l, q⟩ => ?_) ht
 subst ex
 obtain rfl : u = Value.ref a := rx
 refine getmeth_ok I1 ea c hm l ?_
 refine PySem.W.callWith_K (first := [.ref a]) (h₀ := X.base) I.ok.mod.kin hm.kp (thn (ha pos pins s1 σ H1 _ I1 q) fun us s2 ⟨vs, H2, I2, r, q2⟩ => ⟨I2.kIn, ?_⟩) hst hpl
 exact run_fn (us := .ref a :: us) (vs := .ref a :: vs) F hr hb hd hx I2 (.cons rfl r) q2
theorem pe_meth0 {pl : Sem Bool} (he : PE X o ta) (c : Cls X.K C) (hm : Meth X.K C m f) (F : FnOk X.prog X.w X.K X.mg X.base CX k f fd ps sp) (hr : Room k X.A) (hb : Binds X.K fd ps ds) (hd : Vals dvs ds) (hx : Passes CX X E)
  (ht : eval (.Call (.Attribute o m apos) [] [] pos) X.env = (do
   let ov ← eval o X.env
   standAt apos.atName
   let (f, first) ← holding [ov] (getMethod ov m pl)
   callWith pos f first (backTo pos (starEach [] X.env)) (backToKw pos (keywordEach [] X.env))) := by rfl) :
  PE X (.Call (.Attribute o m apos) [] [] pos) (tMeth C m sp dvs E ta tNil) := by
 intro pins s σ H Q I h
 refine PySem.W.methodCall_KW (pl := pl) (thn (he pins s σ H _ I h) fun u s1 ⟨x, H1, I1, rx, a, dx, fs, ex, ea, l, q⟩ => ?_) ht
 subst ex
 obtain rfl : u = Value.ref a := rx
 refine getmeth_ok I1 ea c hm l ?_
 exact PySem.W.callWith_K0 (first := [.ref a]) I1.kIn hm.kp (run_fn (us := [.ref a]) (vs := [.ref a]) F hr hb hd hx I1 (.cons rfl .nil) q)
structure Mk (K : PySem.W.Frag) (C f : Addr) : Prop where
 makes : PySem.W.makesIn K C = true
 init : PySem.W.findIn K (.ref C) "__init__" = some (some (.ref f))
 fn : PySem.W.isFn K (.ref f) = true
 kp : PySem.W.keepIn K (.ref C) = true
theorem run_make {pins : List (Addr × Obj)} {σ : St} {H : Hp} {s : Shared} {Q : VK} {us : List Value} {vs : List V} (M : Mk X.K C f) (F : FnOk X.prog X.w X.K X.mg X.base CX k f fd ps sp) (hr : Room (k + 1) X.A) (hb : Binds X.K fd ps ds) (hd : Vals dvs ds)
  (hx : Passes CX X E) (I : Inv X pins σ H s) (r : Vals vs us)
  (h : ∀ x dx, H x = none → H dx = none → dx ≠ x → sp (.ref x :: (vs ++ dvs)) (upd (upd H dx (.own x)) x (.ins C dx [])) (fun v H2 => v = .non ∧ Q (.ref x) H2) E) :
  wpAny (model X.prog X.w) X.A (call (.ref C) us) (EP X pins σ Q) X.xe s := by
 have hq := h (s.heap.objs.size + 1) s.heap.objs.size (I.hok.fresh (Nat.le_succ _)) (I.hok.fresh (Nat.le_refl _)) (Nat.ne_of_lt (Nat.lt_succ_self _))
 have I2 := Inv.made (C := C) I
 have r2 : Vals (V.ref (s.heap.objs.size + 1) :: (vs ++ dvs)) (Value.ref (s.heap.objs.size + 1) :: (us ++ ds)) := .cons rfl (r.append hd)
 have hl : (Value.ref (s.heap.objs.size + 1) :: us ++ ds).length = ps.length := by
  have e := r2.length
  rw [F.len _ _ _ _ hq] at e
  exact e.symm
 refine wpAny_call (make_map (f := f) I.kIn M.makes M.init (beq_iff_eq.mp M.fn) (codeAny_mono (F.run _ X.stack _ _ ⟨Value.ref (s.heap.objs.size + 1) :: us, []⟩ (Value.ref (s.heap.objs.size + 1) :: (us ++ ds)) _ _ E (hr.make C us [])
  (I2.env0.make C us []) (hb _ (Value.ref (s.heap.objs.size + 1) :: us) I2.kIn hl) r2 hq) fun r s' hq' => ?_))
 cases r with
 | error e => exact hx pins σ _ _ e s' I2 hq'
 | ok fl =>
  cases fl with
  | ret u =>
   obtain ⟨v, H', I3, rv, ev, q3⟩ := I2.after hq'
   subst ev
   exact ⟨rv, ⟨V.ref (s.heap.objs.size + 1), H', I3, rfl, q3⟩⟩
  | next => exact False.elim hq'
  | brk => exact False.elim hq'
  | cont => exact False.elim hq'
theorem pe_make (M : Mk X.K C f) (F : FnOk X.prog X.w X.K X.mg X.base CX k f fd ps sp) (hr : Room (k + 1) X.A) (hg : Gl X x) (hm : X.mg x = some (.ref C)) (hb : Binds X.K fd ps ds) (hd : Vals dvs ds) (hx : Passes CX X E)
  (ha : PA X (e :: es) t) (hdb : (x == ("__debug__" : Str)) = false := by decide) (he : starEach (e :: es) X.env = (false, eval e X.env) :: starEach es X.env := by rfl) (hpl : (backTo pos (starEach es X.env)).any (·.1) = false := by rfl) :
  PE X (.Call (.Name x p) (e :: es) [] pos) (tMake C sp dvs E t) := by
 intro pins s σ H Q I h
 refine wpAny_Call_Name_kw (ld_glob I hg hm ?_ hdb)
 refine PySem.W.callWith_K (h₀ := X.base) I.ok.mod.kin M.kp (thn (ha pos pins s σ H _ I h) fun us s1 ⟨vs, H1, I1, r, q⟩ => ⟨I1.kIn, ?_⟩) he hpl
 exact run_make M F hr hb hd hx I1 r q
end
section
variable {X : Cx} {CX : CXT} {k : Nat} {f C : Addr} {fd : FuncData} {ps ks : List Str} {sp : Sp} {E : XK} {x m : Str} {p pos apos kpos : Pos} {e o : Expr} {es : List Expr} {kws : List Keyword} {te ta : TE} {t tk : TA} {nm : Option Str}
variable {g : List Value → List Value → List Value} {gV : List V → List V → List V}
end
structure FnScope (N P : List Str) (sc : Scope) : Prop where
 kind : sc.kind = .function
 co : sc.isCoroutine = false
 gen : sc.isGenerator = false
 nd : N.Nodup
 pre : N.take P.length = P
 par : ∀ x ∈ P, sc.names.lookup x = some .local ∨ sc.names.lookup x = some .cell
 nofree : ∀ y ∈ sc.names, y.2 ≠ .free
theorem bindL_out {kindOf : Str → Option NameKind} {x : Str} : ∀ {binds : List (Str × Value)} {m : Str → Option Value}, (∀ v, (x, v) ∉ binds) → bindL kindOf binds m x = m x
 | [], _, _ => rfl
 | (n, v) :: r, m, h => by
  unfold bindL
  rw [bindL_out fun w hw => h w (List.mem_cons_of_mem _ hw)]
  split
  ·have : x ≠ n := by rintro rfl; exact h v List.mem_cons_self
   simp [this]
  ·rfl
theorem bindC_out {kindOf : Str → Option NameKind} {x : Str} : ∀ {binds : List (Str × Value)} {m : Str → Option Value}, (∀ v, (x, v) ∉ binds) → bindC kindOf binds m x = m x
 | [], _, _ => rfl
 | (n, v) :: r, m, h => by
  unfold bindC
  rw [bindC_out fun w hw => h w (List.mem_cons_of_mem _ hw)]
  split
  ·rfl
  ·have : x ≠ n := by rintro rfl; exact h v List.mem_cons_self
   simp [this]
theorem bindL_get {kindOf : Str → Option NameKind} {x : Str} {v : Value} : ∀ {P : List Str} {vs : List Value} {i : Nat} {m : Str → Option Value}, P.Nodup → P[i]? = some x → vs[i]? = some v → kindOf x = some .local →
  bindL kindOf (P.zip vs) m x = some v
 | [], _, _, _, _, h, _, _ => by simp at h
 | _ :: _, [], _, _, _, _, h, _ => by simp at h
 | p :: P, w :: vs, 0, m, nd, h1, h2, hk => by
  simp at h1 h2; subst h1; subst h2
  show bindL kindOf ((p, w) :: P.zip vs) m p = _
  unfold bindL
  rw [bindL_out fun v hv => (List.nodup_cons.mp nd).1 (List.of_mem_zip hv).1, if_pos hk]
  simp
 | p :: P, w :: vs, i + 1, m, nd, h1, h2, hk => by
  show bindL kindOf ((p, w) :: P.zip vs) m x = _
  unfold bindL
  exact bindL_get (i := i) (List.nodup_cons.mp nd).2 (by simpa using h1) (by simpa using h2) hk
theorem bindC_get {kindOf : Str → Option NameKind} {x : Str} {v : Value} : ∀ {P : List Str} {vs : List Value} {i : Nat} {m : Str → Option Value}, P.Nodup → P[i]? = some x → vs[i]? = some v → kindOf x ≠ some .local →
  bindC kindOf (P.zip vs) m x = some v
 | [], _, _, _, _, h, _, _ => by simp at h
 | _ :: _, [], _, _, _, _, h, _ => by simp at h
 | p :: P, w :: vs, 0, m, nd, h1, h2, hk => by
  simp at h1 h2; subst h1; subst h2
  show bindC kindOf ((p, w) :: P.zip vs) m p = _
  unfold bindC
  rw [bindC_out fun v hv => (List.nodup_cons.mp nd).1 (List.of_mem_zip hv).1, if_neg hk]
  simp
 | p :: P, w :: vs, i + 1, m, nd, h1, h2, hk => by
  show bindC kindOf ((p, w) :: P.zip vs) m x = _
  unfold bindC
  exact bindC_get (i := i) (List.nodup_cons.mp nd).2 (by simpa using h1) (by simpa using h2) hk
def start (N : List Str) (vs : List V) : St := vs.map some ++ List.replicate (N.length - vs.length) none
def cxOf (CX : CXT) (P : Program) (w : World) (K : PySem.W.Frag) (mg : Str → Option Value) (base : Heap) (N : List Str) (qual : Str) (scope : Scope) (f : Addr) (cd : Value) (A : Around) (outer : List Env) (s : Shared) (H : Hp) (E : XK) : Cx where
 prog := P
 w := w
 K := K
 mg := mg
 base := base
 A := A.deeper (envOfC qual scope s.heap.objs.size f cd)
 N := N
 s₀ := s
 H₀ := H
 env := envOfC qual scope s.heap.objs.size f cd
 outer := outer
 stack := envOfC qual scope s.heap.objs.size f cd :: outer
 ex := []
 calm := true
 fn := fun _ => true
 pn := []
 xe := fun e s' => wpAny (model P w) (A.deeper (envOfC qual scope s.heap.objs.size f cd)) (leaving (envOfC qual scope s.heap.objs.size f cd) e) (fun _ s'' => CX outer H s E e s'') (fun e' s'' => CX outer H s E e' s'') s'
theorem cell_has {sc : Scope} {n : Nat} {x : Str} (h : sc.names.lookup x = some .cell) : ∃ c, (cellsFrom n sc.names []).lookup x = some c := by
 have q := PySem.W.cellsFrom_some sc.names n [] (.inl h)
 exact Option.isSome_iff_exists.mp q
theorem inv_start {CX : CXT} {P : Program} {w : World} {K : PySem.W.Frag} {mg : Str → Option Value} {base : Heap} {N ps : List Str} {qual : Str} {scope : Scope} {f : Addr} {cd : Value} {A : Around} {outer : List Env} {s s1 : Shared} {H : Hp} {E : XK} {us : List Value} {vs : List V}
    (S : FnScope N ps scope) (hd : A.handled = none) (e0 : Env0 P w K mg base A outer s H) (hl : vs.length = ps.length) (r : Vals vs us)
    (x : InCallC s s.heap.objs.size (bindL (envOfC qual scope s.heap.objs.size f cd).kindOf (ps.zip us) fun _ => none) (cellsFrom (s.heap.objs.size + 1) scope.names []) (bindC (envOfC qual scope s.heap.objs.size f cd).kindOf (ps.zip us) fun _ => none) s1) :
    Inv (cxOf CX P w K mg base N qual scope f cd A outer s H E) [] (start N vs) H s1 := by
  have hpl : ps.length ≤ N.length := by have := congrArg List.length S.pre; rw [List.length_take] at this; omega
  obtain ⟨h1, tk, rfl, hk⟩ := x.done
  have noA : ∀ b : Addr, b ∉ (cxOf CX P w K mg base N qual scope f cd A outer s H E).ex := fun b z => absurd (show b ∈ ([] : List Addr) from z) (by simp)
  refine ⟨⟨e0.mod, S.kind, rfl, rfl, Nat.le_refl _, fun y z c h1 h2 => ?_, fun y hy => ?_, fun y c _ h => ?_, fun _ => hd, Around.frames_deeper e0.frames, .inr ⟨rfl, rfl⟩, fun b z => absurd z (noA b), e0.bs, e0.bsz, fun b _ _ => noA b, fun b z => absurd z (noA b), e0.funs, e0.frf⟩,
    rfl, e0.bare, Un.kept hk, ⟨_, x.toInCall.ns, fun i y v h1 h2 h3 => ?_⟩, fun y c h => ⟨_, x.cell y c h⟩, e0.hok.fresh (Nat.le_refl _), fun y c h => ?_, fun p hp => absurd (show p ∈ ([] : List (Addr × Obj)) from hp) (by simp), e0.hok.kept hk, ?_⟩
  · exact name_of_addr x.apart (PySem.mem_of_lookup h1) (PySem.mem_of_lookup h2)
  · have hy : scope.names.lookup y = some .cell ∨ scope.names.lookup y = some .free := hy
    rcases hy with hy | hy
    · exact cell_has hy
    · exact absurd rfl (S.nofree _ (PySem.mem_of_lookup hy))
  · exact Nat.le_of_lt (x.above y c (PySem.mem_of_lookup h))
  · have hi : i < vs.length := by
      unfold start at h2
      by_cases hi : i < vs.length
      · exact hi
      · rw [List.getElem?_append_right (by simpa using hi)] at h2
        rw [List.getElem?_replicate] at h2
        split at h2 <;> cases h2
    have ha : vs[i]? = some v := by
      unfold start at h2
      rw [List.getElem?_append_left (by simpa using hi), List.getElem?_map] at h2
      cases e : vs[i]? with
      | none => rw [e] at h2; cases h2
      | some a => rw [e] at h2; cases h2; rfl
    obtain ⟨u, hu, rv⟩ := r.get ha
    have hp : ps[i]? = some y := by
      rw [← S.pre, List.getElem?_take_of_lt (by omega)]; exact h1
    have ndP : ps.Nodup := by rw [← S.pre]; exact S.nd.sublist (List.take_sublist _ _)
    refine ⟨u, rv, ?_⟩
    rcases S.par y (List.mem_of_getElem? hp) with k | k
    · exact .inl ⟨k, bindL_get ndP hp hu k⟩
    · obtain ⟨c, e⟩ := cell_has (n := s.heap.objs.size + 1) k
      refine .inr ⟨.inl k, c, e, ?_⟩
      have q := x.cell y c e
      rw [bindC_get ndP hp hu (by show scope.names.lookup y ≠ _; rw [k]; decide)] at q
      exact q
  · exact e0.hok.fresh (Nat.le_of_lt (x.above y c (PySem.mem_of_lookup h)))
  · unfold start
    show _ = N.length
    rw [List.length_append, List.length_map, List.length_replicate]
    omega
theorem fn_of {CX : CXT} {P : Program} {w : World} {K : PySem.W.Frag} {mg : Str → Option Value} {base : Heap} {k : Nat} {f : Addr} {name qual : Str} {params : Arguments} {body : List Stmt} {scope : Scope} {dV kV doc pm cdv ct oc : Value} {an od : Option Addr}
  {osl : Array (Option Value)} {N ps : List Str} {sp : Sp} (lk : K.lookup f = some ⟨oc, od, .func (PySem.W.fnOf name qual params body scope dV kV doc pm an cdv ct), osl⟩) (hcd : PySem.W.codeIn K cdv qual = true) (S : FnScope N ps scope)
  (len : ∀ vs H Q E, sp vs H Q E → vs.length = ps.length)
  (hbody : ∀ (A : Around) (outer : List Env) (s : Shared) (H : Hp) (vs : List V) (Q : VK) (E : XK), Room k (A.deeper (envOfC qual scope s.heap.objs.size f cdv)) → sp vs H Q E →
   ∃ t, PSs (cxOf CX P w K mg base N qual scope f cdv A outer s H E) body t ∧ t { nx := fun _ H' => Q .non H', rt := Q } (start N vs) H) :
  FnOk P w K mg base CX (k + 1) f (PySem.W.fnOf name qual params body scope dV kV doc pm an cdv ct) ps sp := by
 refine ⟨len, fun A outer s H args us vs Q E hr e0 hb r hsp => ?_⟩
 have hl := len _ _ _ _ hsp
 have KX : K.In s.heap := e0.mod.kin.keeps fun b o e => (e0.bs b o e).1
 have lim : s.heap.NoLimit := e0.mod.nolimit.keeps fun b o e => (e0.bs b o e).1
 have hkind : ∀ y ∈ ps.zip us, scope.names.lookup y.1 = some .local ∨ (scope.names.lookup y.1 = some .cell ∧ ((cellsFrom (s.heap.objs.size + 1) scope.names []).lookup y.1).isSome = true) := fun ⟨n, v⟩ hy => by
  rcases S.par n (List.of_mem_zip hy).1 with q | q
  ·exact .inl q
  ·exact .inr ⟨q, PySem.W.cellsFrom_some _ _ _ (.inl q)⟩
 refine codeAny_call_function hr.depth (KX _ _ lk) rfl S.co S.gen rfl (PySem.W.codeRec_of KX hcd) (hb _ _ _ _ ?_)
 refine wpAny_newFunctionEnv_cells S.kind hkind fun env he s1 x => ?_
 subst he
 refine ⟨lim.keeps x.toInCall.keep, codeAny_func ?_⟩
 obtain ⟨t, ht, hq⟩ := hbody A outer s H vs Q E (hr.deeper _) hsp
 have I : Inv (cxOf CX P w K mg base N qual scope f cdv A outer s H E) [] (start N vs) H s1 := inv_start S hr.hd e0 hl r x
 refine wpAny_mono (ht [] s1 (start N vs) H _ I hq) (fun fl s' hs => ?_) fun e s' hs => hs
 have fin : ∀ {σ' : St} {H' : Hp} {v : V} {u : Value}, Inv (cxOf CX P w K mg base N qual scope f cdv A outer s H E) [] σ' H' s' → RelV v u → Q v H' → CE outer P w H s Q u s' :=
  fun {σ' H' v u} J rv q => ⟨v, H', J.os, J.bare, J.base, J.hok, rv, q⟩
 cases fl with
 | ret u =>
  obtain ⟨v, σ', H', J, rv, q⟩ := hs
  exact fin J rv q
 | next =>
  obtain ⟨σ', H', J, q⟩ := hs
  exact fin (v := V.non) (u := Value.none) J rfl q
 | brk =>
  obtain ⟨_, _, _, q⟩ := hs
  exact False.elim q
 | cont =>
  obtain ⟨_, _, _, q⟩ := hs
  exact False.elim q
end L2
namespace L2
open PySem PySem.Spec PyProof.Rows
section
variable {X : Cx} {x : Str} {p pos : Pos} {e : Expr} {es : List Expr} {t : TA} {id T : String} {r : List V → Hp → VK → Prop}
def tCB (r : List V → Hp → VK → Prop) (t : TA) : TE := fun σ H Q => t σ H fun vs H1 => r vs H1 Q
theorem pe_callB (hc : CallR X (.builtin id) r) (hg : Gl X x) (hm : X.mg x = none) (hv : bootBuiltins x = some (.builtin id)) (ha : PA X (e :: es) t) (hn : x ≠ "__name__" := by decide) (hdb : (x == ("__debug__" : Str)) = false := by decide)
  (he : starEach (e :: es) X.env = (false, eval e X.env) :: starEach es X.env := by rfl) (hpl : (backTo pos (starEach es X.env)).any (·.1) = false := by rfl) : PE X (.Call (.Name x p) (e :: es) [] pos) (tCB r t) := by
 intro pins s σ H Q I h
 refine wpAny_Call_Name_kw (ld_blt I hg hm hv ?_ hn hdb)
 exact PyProof.Rows.callWith_builtin1 (thn (ha pos pins s σ H _ I h) fun us s1 ⟨vs, H1, I1, r1, q1⟩ => hc pins s1 σ H1 vs us Q I1 r1 q1) he hpl
theorem pe_callTy (hc : CallR X (.type T) r) (hg : Gl X x) (hm : X.mg x = none) (hv : bootBuiltins x = some (.type T)) (ha : PA X (e :: es) t) (hn : x ≠ "__name__" := by decide) (hdb : (x == ("__debug__" : Str)) = false := by decide)
  (he : starEach (e :: es) X.env = (false, eval e X.env) :: starEach es X.env := by rfl) (hpl : (backTo pos (starEach es X.env)).any (·.1) = false := by rfl) : PE X (.Call (.Name x p) (e :: es) [] pos) (tCB r t) := by
 intro pins s σ H Q I h
 refine wpAny_Call_Name_kw (ld_blt I hg hm hv ?_ hn hdb)
 exact PyProof.Rows.callWith_type1 (thn (ha pos pins s σ H _ I h) fun us s1 ⟨vs, H1, I1, r1, q1⟩ => hc pins s1 σ H1 vs us Q I1 r1 q1) he hpl
end
end L2
namespace HT
open PySem PyProof.Rows
section
open PySem.SeqAt
open PySem.AutoSeq1 (wpAny_loadPart')
open PySem.MeetsSeq PySem.MeetsSeq2 PySem.MeetsSeq3
end
section
variable {prog : Program} {w : World} {A : Around} {E : Value → Shared → Prop} {s : Shared}
def sIx (n d : Nat) : Option Int → Nat
 | none => d
 | some v => if v < 0 then (v + (n : Int)).toNat else min v.toNat n
theorem sIx_none (n d : Nat) : sIx n d none = d := rfl
theorem sIx_nat (n d k : Nat) : sIx n d (some (k : Int)) = min k n := by
 show (if (k : Int) < 0 then ((k : Int) + (n : Int)).toNat else min (k : Int).toNat n) = min k n
 rw [if_neg (by omega), Int.toNat_natCast]
theorem sIx_le (n d : Nat) (hd : d ≤ n) (o : Option Int) : sIx n d o ≤ n := by
 cases o with
 | none => exact hd
 | some v =>
  show (if v < 0 then (v + (n : Int)).toNat else min v.toNat n) ≤ n
  by_cases hv : v < 0
  ·rw [if_pos hv]; omega
  ·rw [if_neg hv]; exact Nat.min_le_right _ _
theorem clip_eq (v : Int) (n d : Nat) : (if v < 0 then max (v + (n : Int)) 0 else min v (n : Int)) = ((sIx n d (some v) : Nat) : Int) := by
 show (if v < 0 then max (v + (n : Int)) 0 else min v (n : Int)) = (((if v < 0 then (v + (n : Int)).toNat else min v.toNat n) : Nat) : Int)
 by_cases hv : v < 0
 ·simp only [if_pos hv]; omega
 ·simp only [if_neg hv]; omega
theorem adjust_gen (lo hi : Option Int) (n : Nat) : Builtin.Slice.sliceAdjust lo hi 1 (n : Int) = (((sIx n 0 lo : Nat) : Int), ((sIx n n hi : Nat) : Int)) := by
 have h1 : ¬ ((1 : Int) < 0) := by omega
 unfold Builtin.Slice.sliceAdjust
 simp only [h1, if_false]
 refine Prod.ext ?_ ?_
 ·cases lo with
  | none => rfl
  | some v => exact clip_eq v n 0
 ·cases hi with
  | none => rfl
  | some v => exact clip_eq v n n
theorem places_gen (i j : Nat) : Builtin.Slice.slicePlaces (i : Int) (j : Int) 1 = j - i := by
 unfold Builtin.Slice.slicePlaces
 have h1 : (1 : Int) > 0 := by omega
 simp only [h1, if_true, Int.ediv_one]
 split <;> omega
theorem slicePart_ {v : Value} {o : Option Int} {Q : Option Int → Shared → Prop} (p : IsPart v o) (h : Q o s) : wpAny (model prog w) A (Builtin.Slice.slicePartIndex v) Q E s := by
 cases p with
 | none => exact slicePart_none h
 | int i t => exact slicePart_int h
theorem sliceApplied_gen {sl : Addr} {vl vu : Value} {lo hi : Option Int} {n : Nat} {Q : Int × Int × Nat → Shared → Prop} (hs : s.heap.IsSliceOf sl vl vu .none) (pl : IsPart vl lo) (pu : IsPart vu hi)
  (h : Q (((sIx n 0 lo : Nat) : Int), 1, sIx n n hi - sIx n 0 lo) s) : wpAny (model prog w) A (Builtin.Slice.sliceApplied (.ref sl) (pure (n : Int))) Q E s := by
 obtain ⟨os, hos, hcs, hds⟩ := id hs
 unfold Builtin.Slice.sliceApplied Builtin.Slice.sliceFields
 refine wpAny_bind (wpAny_bind (wpAny_field hos hds (x := vl) rfl (wpAny_bind (wpAny_field hos hds (x := vu) rfl (wpAny_bind (wpAny_field hos hds (x := .none) rfl (wpAny_pure ?_)))))))
 refine wpAny_bind (slicePart_none ?_)
 show wpAny _ _ (if ((1 : Int) == 0) = true then _ else _) _ _ s
 rw [if_neg (by decide)]
 refine wpAny_bind (slicePart_ pl (wpAny_bind (slicePart_ pu (wpAny_bind (wpAny_pure ?_)))))
 show wpAny _ _ (match Builtin.Slice.sliceAdjust lo hi 1 (n : Int) with | (lo, hi) => pure (lo, (1 : Int), Builtin.Slice.slicePlaces lo hi 1)) _ _ s
 rw [adjust_gen lo hi n]
 show wpAny _ _ (pure (((sIx n 0 lo : Nat) : Int), (1 : Int), Builtin.Slice.slicePlaces ((sIx n 0 lo : Nat) : Int) ((sIx n n hi : Nat) : Int) 1)) _ _ s
 rw [places_gen]
 exact wpAny_pure h
theorem pick_gen (xs : Array Value) (i k : Nat) : ((List.range k).filterMap fun (m : Nat) => xs[((i : Int) + (m : Int) * 1).toNat]?).toArray = ((xs.toList.drop i).take k).toArray := by
 have e : (fun (m : Nat) => xs[((i : Int) + (m : Int) * 1).toNat]?) = fun m => xs[i + m]? := by
  funext m
  have : ((i : Int) + (m : Int) * 1).toNat = i + m := by omega
  rw [this]
 rw [e]
 have := pick_run xs i k
 rw [List.filterMap_map] at this
 have e2 : ((fun x => xs[x]?) ∘ fun x => i + x) = fun m => xs[i + m]? := rfl
 rw [e2] at this
 rw [this]
theorem getItem_tuple_cut {t sl : Addr} {items : Array Value} {vl vu : Value} {lo hi : Option Int} {Q : Value → Shared → Prop} (ht : IsTup s.heap t items) (hs : s.heap.IsSliceOf sl vl vu .none) (pl : IsPart vl lo) (pu : IsPart vu hi)
  (hw : ¬ (sIx items.size 0 lo = 0 ∧ sIx items.size items.size hi = items.size))
  (h : Q (.ref s.heap.objs.size) { s with heap := s.heap.push { cls := .type "tuple", data := .seq ((items.toList.drop (sIx items.size 0 lo)).take (sIx items.size items.size hi - sIx items.size 0 lo)).toArray } })
  (hsz : items.size ≤ sizeLine) : wpAny (model prog w) A (getItem (.ref t) (.ref sl)) Q E s := by
 have htake : sizeOk (.seq ((items.toList.drop (sIx items.size 0 lo)).take (sIx items.size items.size hi - sIx items.size 0 lo)).toArray) := by
  show ((items.toList.drop (sIx items.size 0 lo)).take (sIx items.size items.size hi - sIx items.size 0 lo)).toArray.size ≤ sizeLine
  rw [List.size_toArray, List.length_take, List.length_drop, Array.length_toList]
  omega
 have hj : sIx items.size items.size hi ≤ items.size := sIx_le _ _ (Nat.le_refl _) hi
 obtain ⟨os, hos, hcs, hds⟩ := id hs
 have hTs : s.TypeIs (.ref sl) "slice" := ⟨os, hos, hcs⟩
 unfold getItem
 try with_reducible refine wpAny_holding ?_
 first | refine wpAny_bind (wpAny_pure ?_) | skip
 refine wpAny_bind (wpAny_sequenceKey ht.typeIs (by decide) ?_)
 refine wpAny_bind (wpAny_callSpecial?_slot (name := Str.ofString "__getitem__") ht.typeIs PyProof.Rows.slot_tuple_getitem
  (wpAny_call_entry PyProof.Rows.slot_tuple_getitem ht.typeIs entry_tuple_getitem ?_ (args_tuple_getitem _ _)))
 show wpAny _ _ (Builtin.Tuple.tupleItemsOf (.ref t) >>= _) _ _ s
 refine wpAny_bind (tupleItemsOf_ ht ?_)
 refine wpAny_bind (wpAny_typeOf hTs ?_)
 rw [if_pos (by decide)]
 refine wpAny_bind (sliceApplied_gen hs pl pu ?_)
 have hno : ¬ ((((sIx items.size 0 lo : Nat) : Int) == 0 && (1 : Int) == 1 && (sIx items.size items.size hi - sIx items.size 0 lo) == items.size) = true) := by
  intro q
  rw [Bool.and_eq_true, Bool.and_eq_true] at q
  have q1 : ((sIx items.size 0 lo : Nat) : Int) = 0 := eq_of_beq q.1.1
  have q2 : sIx items.size items.size hi - sIx items.size 0 lo = items.size := eq_of_beq q.2
  exact hw ⟨by omega, by omega⟩
 show wpAny _ _ (if (((sIx items.size 0 lo : Nat) : Int) == 0 && (1 : Int) == 1 && (sIx items.size items.size hi - sIx items.size 0 lo) == items.size) = true then _ else _) _ _ s
 rw [if_neg hno, pick_gen]
 first
  | exact wpAny_bind (m := Builtin.Tuple.tupleExact _) (wpAny_newObj_type (wpAny_pure ⟨_, rfl, wpAny_pure h⟩) htake)
  | exact wpAny_bind (m := Builtin.Tuple.tupleExact _) (wpAny_newObj_type (wpAny_bind (wpAny_pure (wpAny_pure ⟨_, rfl, wpAny_pure h⟩))) htake)
  | exact wpAny_bind (wpAny_bind (m := Builtin.Tuple.tupleExact _) (wpAny_newObj_type (wpAny_pure (wpAny_pure ⟨_, rfl, wpAny_pure h⟩)) htake))
  | exact wpAny_bind (wpAny_bind (m := Builtin.Tuple.tupleExact _) (wpAny_newObj_type (wpAny_pure ⟨_, rfl, wpAny_pure h⟩) htake))
end
end HT
namespace L2
open PySem PySem.Spec PyProof.Rows
abbrev TO := St → Hp → (Option Int → Hp → Prop) → Prop
def PO (X : Cx) (e : Option Expr) (t : TO) : Prop :=
 ∀ (pins : List (Addr × Obj)) (s : Shared) (σ : St) (H : Hp) (Q : Option Int → Hp → Prop), Inv X pins σ H s → t σ H Q →
  wpAny (model X.prog X.w) X.A (evalPart e X.env) (fun u s' => ∃ o H', Inv X pins σ H' s' ∧ IsPart u o ∧ Q o H') X.xe s
def tNoPart : TO := fun _ H Q => Q none H
def tPart (t : TE) : TO := fun σ H Q => t σ H fun x H1 => ∃ i, x = .int i ∧ Q (some i) H1
theorem intsAre_of {ns : List Int} : ∀ {us : List Value}, Vals (ns.map V.int) us → IntsAre us ns := by
 induction ns with
 | nil => intro us r; rw [List.map_nil] at r; cases r; exact .nil
 | cons n ns ih =>
  intro us r
  rw [List.map_cons] at r
  cases r with
  | cons r1 r2 =>
   obtain ⟨t, e⟩ := r1
   subst e
   exact .cons n t (ih r2)
section
variable {X : Cx} {e : Expr} {te : TE} {lo hi : Option Expr} {tl th : TO} {pos p2 : Pos}
theorem po_none : PO X none tNoPart := by
 intro pins s σ H Q I h
 rw [evalPart_none]
 exact wpAny_pure ⟨none, H, I, .none, h⟩
theorem po_some (h : PE X e te) : PO X (some e) (tPart te) := by
 intro pins s σ H Q I hw
 rw [evalPart_some]
 refine thn (h pins s σ H _ I hw) fun u s1 ⟨x, H1, I1, r1, q1⟩ => ?_
 obtain ⟨i, rfl, q⟩ := q1
 obtain ⟨t, rfl⟩ := r1
 exact ⟨some i, H1, I1, .int i t, q⟩
def SlR (X : Cx) (r : V → Option Int → Option Int → Hp → VK → Prop) : Prop :=
 ∀ (pins : List (Addr × Obj)) (s : Shared) (σ : St) (H : Hp) (x : V) (v vl vu : Value) (lo hi : Option Int) (sl : Addr) (Q : VK), Inv X pins σ H s → RelV x v → s.heap.IsSliceOf sl vl vu .none → IsPart vl lo → IsPart vu hi → r x lo hi H Q →
  ∃ T id, typeLookup (.type T) "__getitem__" = pure (some (.builtin id)) ∧ s.TypeIs v T ∧ wpAny (model X.prog X.w) X.A (getItem v (.ref sl)) (EP X pins σ Q) X.xe s
def tSl (r : V → Option Int → Option Int → Hp → VK → Prop) (te : TE) (tl th : TO) : TE := fun σ H Q => te σ H fun x H1 => tl σ H1 fun l H2 => th σ H2 fun u H3 => r x l u H3 Q
theorem pe_slice {r : V → Option Int → Option Int → Hp → VK → Prop} (hr : SlR X r) (he : PE X e te) (hl : PO X lo tl) (hu : PO X hi th) : PE X (.Subscript e (.Slice lo hi none p2) pos) (tSl r te tl th) := by
 intro pins s σ H Q I h
 refine Subscript_ (thn (he pins s σ H _ I h) fun v s1 ⟨x, H1, I1, r1, q1⟩ => ?_)
 refine wpAny_Slice (thn (hl pins s1 σ H1 _ I1 q1) fun vl s2 ⟨l, H2, I2, pl, q2⟩ => thn (hu pins s2 σ H2 _ I2 q2) fun vu s3 ⟨u, H3, I3, pu, q3⟩ => ?_)
 rw [evalPart_none]
 refine wpAny_pure ?_
 have I4 : Inv X pins σ H3 { s3 with heap := s3.heap.push { cls := .type "slice", data := .fields #[vl, vu, .none] } } := I3.kept (t' := s3.toks) fun b ob q => Heap.get?_push_of_some _ q
 obtain ⟨T, id, hT, ht, hg⟩ := hr pins { s3 with heap := s3.heap.push { cls := .type "slice", data := .fields #[vl, vu, .none] } } σ H3 x v vl vu l u s3.heap.objs.size Q I4 r1 (Heap.IsSliceOf.new ..) pl pu q3
 show wpAny (model X.prog X.w) X.A (subscriptTail e (.Slice lo hi none p2) v (.ref s3.heap.objs.size)) (EP X pins σ Q) X.xe { s3 with heap := s3.heap.push { cls := .type "slice", data := .fields #[vl, vu, .none] } }
 exact tail_any (ops := [.ref s3.heap.objs.size, v]) ht hT hg (by with_unfolding_all rfl)
def cutV (xs : List V) (lo hi : Option Int) : List V := (xs.drop (HT.sIx xs.length 0 lo)).take (HT.sIx xs.length xs.length hi - HT.sIx xs.length 0 lo)
theorem cutV_length (xs : List V) (lo hi : Option Int) : (cutV xs lo hi).length ≤ xs.length := by
 unfold cutV
 rw [List.length_take, List.length_drop]
 omega
def rSlT (K : PySem.W.Frag) : V → Option Int → Option Int → Hp → VK → Prop := fun x lo hi H Q => ∃ a xs, x = .ref a ∧ SqT K H a xs ∧
 ¬ (HT.sIx xs.length 0 lo = 0 ∧ HT.sIx xs.length xs.length hi = xs.length) ∧ ∀ p, H p = none → Q (.ref p) (upd H p (.tup (cutV xs lo hi)))
theorem sl_tup : SlR X (rSlT X.K) := by
 intro pins s σ H x v vl vu lo hi sl Q I rx hs pl pu h
 obtain ⟨a, xs, rfl, hx, hw, q⟩ := h
 cases rx
 obtain ⟨its, r, ht, hz⟩ := I.tuple hx
 have hlen : its.toArray.size = xs.length := by rw [List.size_toArray]; exact r.length.symm
 refine ⟨"tuple", _, PyProof.Rows.slot_tuple_getitem.lookup, ht.typeIs, ?_⟩
 refine HT.getItem_tuple_cut ht hs pl pu (by rw [hlen]; exact hw) ?_ (by rw [hlen]; exact hz)
 rw [hlen]
 refine ⟨.ref s.heap.objs.size, _, I.laid (t' := s.toks) (o := .tup (cutV xs lo hi)) (fun b ob q => Heap.get?_push_of_some _ q) (Nat.le_refl _) ?_, rfl, q _ (I.hok.fresh (Nat.le_refl _))⟩
 exact ⟨Nat.le_trans (cutV_length xs lo hi) hz, _, (r.drop (HT.sIx xs.length 0 lo)).take (HT.sIx xs.length xs.length hi - HT.sIx xs.length 0 lo), IsTup.new _ _⟩
end
end L2
namespace L2
open PySem PySem.Spec PyProof.Rows
def ixN (n : Nat) (i : Int) : Option Nat := if 0 ≤ i then (if i < n then some i.toNat else none) else if -(n : Int) ≤ i then some (i + n).toNat else none
def atI {α : Type} (xs : List α) (i : Int) : Option α := (ixN xs.length i).bind fun j => xs[j]?
theorem ixN_seq {n : Nat} {i : Int} {j : Nat} (h : ixN n i = some j) : seqIndex? i n = some j ∧ j < n ∧ -(n : Int) ≤ i ∧ i < n := by
 unfold ixN at h
 by_cases h0 : 0 ≤ i
 ·rw [if_pos h0] at h
  by_cases h1 : i < n
  ·rw [if_pos h1] at h
   have e : i.toNat = j := Option.some.inj h
   exact ⟨by rw [seqIndex_of h0 h1, e], by omega, by omega, h1⟩
  ·rw [if_neg h1] at h; cases h
 ·rw [if_neg h0] at h
  by_cases h1 : -(n : Int) ≤ i
  ·rw [if_pos h1] at h
   have e : (i + n).toNat = j := Option.some.inj h
   exact ⟨by rw [seqIndex_neg (by omega) h1, e], by omega, h1, by omega⟩
  ·rw [if_neg h1] at h; cases h
theorem atI_get {α : Type} {xs : List α} {i : Int} {v : α} (h : atI xs i = some v) : ∃ j, seqIndex? i xs.length = some j ∧ xs[j]? = some v ∧ j < xs.length ∧ -(xs.length : Int) ≤ i ∧ i < xs.length := by
 unfold atI at h
 cases e : ixN xs.length i with
 | none => rw [e] at h; cases h
 | some j =>
  rw [e] at h
  obtain ⟨h1, h2, h3, h4⟩ := ixN_seq e
  exact ⟨j, h1, h, h2, h3, h4⟩
theorem atI_nat {α : Type} {xs : List α} {j : Nat} {v : α} (h : xs[j]? = some v) : atI xs (j : Int) = some v := by
 have hj : j < xs.length := (List.getElem?_eq_some_iff.mp h).1
 have e : ixN xs.length (j : Int) = some j := by
  unfold ixN
  rw [if_pos (by omega), if_pos (by omega)]; simp
 unfold atI; rw [e]; exact h
theorem atI_last {α : Type} (xs : List α) (v : α) : atI (xs ++ [v]) (-1) = some v := by
 have hl : (xs ++ [v]).length = xs.length + 1 := by simp
 have e : ixN (xs ++ [v]).length (-1) = some xs.length := by
  unfold ixN
  rw [hl, if_neg (by decide), if_pos (by omega)]
  congr 1
  omega
 unfold atI
 rw [e]
 show (xs ++ [v])[xs.length]? = some v
 simp
def PlainIx (b : Expr) : Prop := ∀ o i, subscripted b false o i = operate [o, i] (getItem o i)
def IxR (X : Cx) (r : R2) : Prop :=
 ∀ (value slice : Expr) (pins : List (Addr × Obj)) (s : Shared) (σ : St) (H : Hp) (x y : V) (v u : Value) (Q : VK), Inv X pins σ H s → RelV x v → RelV y u → r x y H Q →
  subscripted slice false v u = operate [v, u] (getItem v u) → wpAny (model X.prog X.w) X.A (subscriptTail value slice v u) (EP X pins σ Q) X.xe s
def MtR (X : Cx) (id : String) (r : V → List V → Hp → VK → Prop) : Prop :=
 ∀ (pins : List (Addr × Obj)) (s : Shared) (σ : St) (H : Hp) (x : V) (xs : List V) (v : Value) (us : List Value) (Q : VK), Inv X pins σ H s → RelV x v → Vals xs us → r x xs H Q →
  wpAny (model X.prog X.w) X.A (call (.builtin id) (v :: us)) (EP X pins σ Q) X.xe s
section
variable {X : Cx} {a b : Expr} {ta tb : TE} {pos : Pos}
theorem pe_ix {r : R2} (hr : IxR X r) (ha : PE X a ta) (hb : PE X b tb) (hs : PlainIx b) : PE X (.Subscript a b pos) (tOp r ta tb) := by
 intro pins s σ H Q I h
 exact Subscript_ (binT ha hb I h fun v u s2 x y H2 I2 rx ry q => hr a b pins s2 σ H2 x y v u Q I2 rx ry q (hs _ _))
def rIxL (K : PySem.W.Frag) : R2 := fun x y H Q => ∃ p xs i v, x = .ref p ∧ y = .int i ∧ SqL K H p xs ∧ atI xs i = some v ∧ Q v H
def rIxT (K : PySem.W.Frag) : R2 := fun x y H Q => ∃ p xs i v, x = .ref p ∧ y = .int i ∧ SqT K H p xs ∧ atI xs i = some v ∧ Q v H
theorem ix_list : IxR X (rIxL X.K) := by
  intro value slice pins s σ H x y v u Q I rx ry h hs
  obtain ⟨p, xs, i, z, rfl, rfl, hq, he, q⟩ := h
  cases rx
  obtain ⟨t, rfl⟩ := ry
  obtain ⟨its, r, pl, hz⟩ := I.list hq
  obtain ⟨j, h1, h2, h3, h4, h5⟩ := atI_get he
  obtain ⟨w, ew, rw'⟩ := r.get h2
  have hl := r.length
  have hn := line63
  have fin : EP X pins σ Q w s := ⟨z, H, I, rw', q⟩
  by_cases h0 : 0 ≤ i
  · have hj : i.toNat = j := by
      rw [seqIndex_of h0 h5] at h1
      exact Option.some.inj h1
    exact item_listR pl.isList h0 (by omega) (by rw [hj]; simpa using ew) fin hs
  · have hj : (i + (its.toArray.size : Int)).toNat = j := by
      rw [seqIndex_neg (by omega) h4] at h1
      rw [List.size_toArray, ← hl]
      exact Option.some.inj h1
    exact subscriptTail_builtinR (x := w) pl.isList.typeIs slot_list_getitem.lookup
      (wpAny_getItem_list_neg (Q := fun r s' => r = w ∧ EP X pins σ Q r s') pl.isList (by omega) (by rw [List.size_toArray] <;> omega) (by omega) (by rw [hj]; simpa using ew) ⟨rfl, fin⟩) hs
theorem ix_tup : IxR X (rIxT X.K) := by
 intro value slice pins s σ H x y v u Q I rx ry h hs
 obtain ⟨p, xs, i, z, rfl, rfl, hq, he, q⟩ := h
 cases rx
 obtain ⟨t, rfl⟩ := ry
 obtain ⟨its, r, pl, hz⟩ := I.tuple hq
 obtain ⟨j, h1, h2, h3, h4, h5⟩ := atI_get he
 obtain ⟨w, ew, rw'⟩ := r.get h2
 have hl := r.length
 have hn := line63
 have fin : EP X pins σ Q w s := ⟨z, H, I, rw', q⟩
 exact subscriptTail_builtinR (x := w) pl.typeIs slot_tuple_getitem.lookup
  (getItem_tuple (j := j) (Q := fun r s' => r = w ∧ EP X pins σ Q r s') pl (by omega) (by omega) (by rw [List.size_toArray, ← hl]; exact h1) (by simpa using ew) ⟨rfl, fin⟩) hs
theorem mapSeq_set (its : List Value) (n j : Nat) (u : Value) : Obj.mapSeq (·.setIfInBounds j u) { cls := .type "list", data := .seq its.toArray n } = { cls := .type "list", data := .seq (its.set j u).toArray n } := by
 simp [Obj.mapSeq]
theorem Inv.lst {pins : List (Addr × Obj)} {σ : St} {H : Hp} {s : Shared} {p : Addr} {xs : List V} (I : Inv X pins σ H s) (h : H p = some (.lst xs)) :
  ∃ (its : List Value) (n : Nat), Vals xs its ∧ s.heap.get? p = some { cls := .type "list", data := .seq its.toArray n } ∧ xs.length ≤ sizeLine := by
 obtain ⟨z, its, n, r, e⟩ := I.hok p _ h
 exact ⟨its, n, r, e, z⟩
theorem Inv.lstUpd {pins : List (Addr × Obj)} {σ : St} {H : Hp} {s : Shared} {p : Addr} {xs ys : List V} {its its' : List Value} {n n' : Nat} {f : Obj → Obj} (I : Inv X pins σ H s) (h : H p = some (.lst xs))
  (ho : s.heap.get? p = some { cls := .type "list", data := .seq its.toArray n }) (hf : f { cls := .type "list", data := .seq its.toArray n } = { cls := .type "list", data := .seq its'.toArray n' }) (r : Vals ys its') (hz : ys.length ≤ sizeLine) (t : Nat) :
  Inv X pins σ (upd H p (.lst ys)) { s with heap := s.heap.update p f, toks := t } := by
 have e : (s.heap.update p f).get? p = some { cls := .type "list", data := .seq its'.toArray n' } := by
  rw [Heap.get?_update_self f ho (by rw [hf] <;> rfl), hf]
 refine I.write (x := p) (e := p) (by rw [h]; trivial) (.inl rfl) (fun b u hb q => (Heap.get?_update_other _ _ (Ne.symm hb)).trans q) ⟨_, e⟩ ?_
 exact ⟨hz, its', n', r, e⟩
def rSetL : V → V → V → Hp → (Hp → Prop) → Prop := fun o i v H Q => ∃ p xs k j, o = .ref p ∧ i = .int k ∧ H p = some (.lst xs) ∧ ixN xs.length k = some j ∧ Q (upd H p (.lst (xs.set j v)))
theorem set_list : PSet X rSetL := by
  intro pins s σ H o i v ov iv u Q I ro ri rv h
  obtain ⟨p, xs, k, j, rfl, rfl, hp, hj, q⟩ := h
  cases ro
  obtain ⟨t, rfl⟩ := ri
  obtain ⟨its, n, r, ho, hz⟩ := I.lst hp
  obtain ⟨h1, h2, h3, h4⟩ := ixN_seq hj
  have hl := r.length
  have hn := line63
  have I' : Inv X pins σ (upd H p (.lst (xs.set j v))) { s with heap := s.heap.update p (Obj.mapSeq (·.setIfInBounds j u)) } :=
    I.lstUpd hp ho (mapSeq_set its n j u) (r.set rv j) (by rw [List.length_set]; exact hz) s.toks
  by_cases h0 : 0 ≤ k
  · have hk : k.toNat = j := by
      rw [seqIndex_of h0 h4] at h1
      exact Option.some.inj h1
    exact PySem.W.ki_setAt ho h0 (by omega) (by rw [List.size_toArray, ← hl]; exact h4) (by rw [hk]; exact ⟨_, I', q⟩)
  · have hk : (k + (its.toArray.size : Int)).toNat = j := by
      rw [seqIndex_neg (by omega) h3] at h1
      rw [List.size_toArray, ← hl]
      exact Option.some.inj h1
    exact PySem.W.ki_setBack ho (by omega) (by rw [List.size_toArray, ← hl]; exact h3) (by omega) (by rw [hk]; exact ⟨_, I', q⟩)
theorem slice_bounds (lo hi : Option Int) (n : Nat) : (sliceBounds lo hi none n).1 = ((HT.sIx n 0 lo : Nat) : Int) ∧ (sliceBounds lo hi none n).2.1 = ((HT.sIx n n hi : Nat) : Int) ∧ (sliceBounds lo hi none n).2.2 = 1 := by
 refine ⟨?_, ?_, rfl⟩
 ·cases lo with
  | none => simp [sliceBounds, HT.sIx]
  | some i =>
   simp only [sliceBounds, HT.sIx, Option.getD_none, show (1 : Int) > 0 by decide, if_true]
   by_cases h : i < 0
   ·simp only [h, if_true] <;> omega
   ·simp only [h, if_false] <;> omega
 ·cases hi with
  | none => simp [sliceBounds, HT.sIx]
  | some i =>
   simp only [sliceBounds, HT.sIx, Option.getD_none, show (1 : Int) > 0 by decide, if_true]
   by_cases h : i < 0
   ·simp only [h, if_true] <;> omega
   ·simp only [h, if_false] <;> omega
theorem slicePick_cut (its : List Value) (lo hi : Option Int) : slicePick its.toArray lo hi none = ((its.drop (HT.sIx its.length 0 lo)).take (HT.sIx its.length its.length hi - HT.sIx its.length 0 lo)).toArray := by
 obtain ⟨h1, h2, h3⟩ := slice_bounds lo hi its.toArray.size
 unfold slicePick
 rw [h1, h2, h3]
 simp only [sliceRange_one, pick_run, List.size_toArray] <;> rfl
def rSlL (K : PySem.W.Frag) : V → Option Int → Option Int → Hp → VK → Prop := fun x lo hi H Q => ∃ a xs, x = .ref a ∧ SqL K H a xs ∧ ∀ p, H p = none → Q (.ref p) (upd H p (.lst (cutV xs lo hi)))
theorem sl_list : SlR X (rSlL X.K) := by
 intro pins s σ H x v vl vu lo hi sl Q I rx hs pl pu h
 obtain ⟨a, xs, rfl, hx, q⟩ := h
 cases rx
 obtain ⟨its, r, ht, hz⟩ := I.list hx
 have hlen := r.length
 refine ⟨"list", _, slot_list_getitem.lookup, ht.isList.typeIs, ?_⟩
 refine wpAny_getItem_list_slice ht.isList hs pl pu .none (by simp) ?_ (by rw [List.size_toArray] <;> omega)
 rw [slicePick_cut, ← hlen]
 refine ⟨.ref s.heap.objs.size, _, I.laid (t' := s.toks) (o := .lst (cutV xs lo hi)) (fun b ob q => Heap.get?_push_of_some _ q) (Nat.le_refl _) ?_, rfl, q _ (I.hok.fresh (Nat.le_refl _))⟩
 exact ⟨Nat.le_trans (cutV_length xs lo hi) hz, _, 0, (r.drop (HT.sIx xs.length 0 lo)).take (HT.sIx xs.length xs.length hi - HT.sIx xs.length 0 lo), Heap.get?_push_size _ rfl⟩
def flatV : V → Bool
 | .non => true
 | .bl _ => true
 | .int _ => true
 | .str _ => true
 | _ => false
def eqV : V → V → Bool
 | .non, .non => true
 | .bl a, .bl b => a == b
 | .bl a, .int b => (if a then 1 else 0) == b
 | .int a, .bl b => a == (if b then 1 else 0)
 | .int a, .int b => a == b
 | .str a, .str b => a == b
 | _, _ => false
theorem eqAt_V {A : Around} {s : Shared} {y x : V} {u v : Value} (ry : RelV y u) (rx : RelV x v) (fy : flatV y = true) (fx : flatV x = true) : SeqAt.EqAt A s u v (eqV y x) := by
 cases y with
 | non =>
  cases ry
  cases x with
  | non => cases rx; exact SeqAt.EqAt.same _
  | bl b => cases rx; exact SeqAt.EqAt.none_bool b
  | int b => obtain ⟨t, rfl⟩ := rx; exact SeqAt.EqAt.none_int b t
  | str b => obtain ⟨t, rfl⟩ := rx; exact SeqAt.EqAt.none_str b t
  | _ => exact absurd (show false = true from fx) Bool.false_ne_true
 | bl a =>
  cases ry
  cases x with
  | non => cases rx; exact SeqAt.EqAt.bool_none a
  | bl b => cases rx; exact SeqAt.EqAt.bool_bool a b
  | int b => obtain ⟨t, rfl⟩ := rx; exact SeqAt.EqAt.bool_int a b t
  | str b => obtain ⟨t, rfl⟩ := rx; exact SeqAt.EqAt.bool_str a b t
  | _ => exact absurd (show false = true from fx) Bool.false_ne_true
 | int a =>
  obtain ⟨t', rfl⟩ := ry
  cases x with
  | non => cases rx; exact SeqAt.EqAt.int_none a t'
  | bl b => cases rx; exact SeqAt.EqAt.int_bool a t' b
  | int b => obtain ⟨t, rfl⟩ := rx; exact SeqAt.EqAt.int_int a t' b t
  | str b => obtain ⟨t, rfl⟩ := rx; exact SeqAt.EqAt.int_str a t' b t
  | _ => exact absurd (show false = true from fx) Bool.false_ne_true
 | str a =>
  obtain ⟨t', rfl⟩ := ry
  cases x with
  | non => cases rx; exact SeqAt.EqAt.str_none a t'
  | bl b => cases rx; exact SeqAt.EqAt.str_bool a t' b
  | int b => obtain ⟨t, rfl⟩ := rx; exact SeqAt.EqAt.str_int a t' b t
  | str b => obtain ⟨t, rfl⟩ := rx; exact SeqAt.EqAt.str_str a t' b t
  | _ => exact absurd (show false = true from fx) Bool.false_ne_true
 | _ => exact absurd (show false = true from fy) Bool.false_ne_true
def eqU (x : V) (u : Value) : Bool := match u with
 | .none => eqV .non x
 | .bool b => eqV (.bl b) x
 | .int i _ => eqV (.int i) x
 | .str z _ => eqV (.str z) x
 | _ => false
theorem eqU_of {x y : V} {u : Value} (r : RelV y u) (f : flatV y = true) : eqU x u = eqV y x := by
 cases y with
 | non => cases r; rfl
 | bl b => cases r; rfl
 | int i => obtain ⟨t, rfl⟩ := r; rfl
 | str z => obtain ⟨t, rfl⟩ := r; rfl
 | _ => exact absurd (show false = true from f) Bool.false_ne_true
theorem any_eqU {x : V} : ∀ {xs : List V} {us : List Value}, Vals xs us → xs.all flatV = true → us.any (eqU x) = xs.any fun y => eqV y x
 | _, _, .nil, _ => rfl
 | y :: xs, u :: us, .cons r t, f => by
  rw [List.all_cons, Bool.and_eq_true] at f
  rw [List.any_cons, List.any_cons, eqU_of r f.1, any_eqU t f.2]
theorem mem_eqAt {A : Around} {s : Shared} {x : V} {v : Value} (rx : RelV x v) (fx : flatV x = true) : ∀ {xs : List V} {us : List Value}, Vals xs us → xs.all flatV = true → ∀ u ∈ us, SeqAt.EqAt A s u v (eqU x u)
 | _, _, .nil, _ => fun u hu => by cases hu
 | y :: xs, u :: us, .cons r t, f => fun u' hu => by
  rw [List.all_cons, Bool.and_eq_true] at f
  rcases List.mem_cons.mp hu with rfl | hu
  ·rw [eqU_of r f.1]; exact eqAt_V r rx f.1 fx
  ·exact mem_eqAt rx fx t f.2 u' hu
def inV (x : V) (xs : List V) : Bool := xs.any fun y => eqV y x
def rIn (K : PySem.W.Frag) (neg : Bool) : R2 := fun x y H Q => ∃ p xs, y = .ref p ∧ (SqL K H p xs ∨ SqT K H p xs) ∧ flatV x = true ∧ xs.all flatV = true ∧ Q (.bl (if neg then !inV x xs else inV x xs)) H
theorem op_in_seq : OpR X (compareOp .In) (rIn X.K false) := by
 intro pins s σ H x y v u Q I rx ry h
 obtain ⟨p, xs, rfl, hq, fx, fs, q⟩ := h
 cases ry
 rcases hq with hq | hq
 ·obtain ⟨its, r, pl, hz⟩ := I.list hq
  refine SeqAt.in_listAt (eqU x) pl.isList (fun w hw => mem_eqAt rx fx r fs w (by simpa using hw)) ⟨.bl _, H, I, rfl, ?_⟩
  rw [show its.toArray.any (eqU x) = its.any (eqU x) by simp, any_eqU r fs]
  exact q
 ·obtain ⟨its, r, pl, hz⟩ := I.tuple hq
  refine SeqAt.in_tupleAt (eqU x) pl (fun w hw => mem_eqAt rx fx r fs w (by simpa using hw)) ⟨.bl _, H, I, rfl, ?_⟩
  rw [show its.toArray.any (eqU x) = its.any (eqU x) by simp, any_eqU r fs]
  exact q
theorem call_len_seq : CallR X (.builtin "len") (fun xs H Q => ∃ p ys, xs = [.ref p] ∧ (SqL X.K H p ys ∨ SqT X.K H p ys) ∧ Q (.int ys.length) H) := by
 intro pins s σ H xs us Q I r h
 obtain ⟨p, ys, rfl, hq, q⟩ := h
 obtain ⟨u, rfl, rx⟩ := vals1 r
 cases rx
 have hn := line63
 rcases hq with hq | hq
 ·obtain ⟨its, r', pl, hz⟩ := I.list hq
  have hlen := r'.length
  exact Calls.call_len_list pl.isList (by simp only [List.size_toArray] <;> omega) ⟨.int ys.length, H, I.tok _, ⟨s.toks + 1, by rw [List.size_toArray, hlen]⟩, q⟩
 ·obtain ⟨its, r', pl, hz⟩ := I.tuple hq
  have hlen := r'.length
  exact len_tuple pl (by simp only [List.size_toArray] <;> omega) ⟨.int ys.length, H, I.tok _, ⟨s.toks + 1, by rw [List.size_toArray, hlen]⟩, q⟩
theorem call_list_of : CallR X (.type "list") (fun xs H Q => ∃ p ys, xs = [.ref p] ∧ (SqL X.K H p ys ∨ SqT X.K H p ys) ∧ ∀ l, H l = none → Q (.ref l) (upd H l (.lst ys))) := by
  intro pins s σ H xs us Q I r h
  obtain ⟨p, ys, rfl, hq, q⟩ := h
  obtain ⟨u, rfl, rx⟩ := vals1 r
  cases rx
  have fin : ∀ (its : List Value), Vals ys its → ys.length ≤ sizeLine → ∀ (h' : Heap) (c' : Nat), (∀ b o', s.heap.get? b = some o' → h'.get? b = some o') →
      h'.get? s.heap.objs.size = some { cls := .type "list", dict := none, data := .seq its.toArray c', slots := #[] } → EP X pins σ Q (.ref s.heap.objs.size) { s with heap := h' } := fun its r' hz h' c' kp e =>
    ⟨.ref s.heap.objs.size, _, I.laid (t' := s.toks) kp (Nat.le_refl _) (show ObjOk X.prog X.w _ h' _ (.lst ys) from ⟨hz, its, c', r', e⟩), rfl, q _ (I.hok.fresh (Nat.le_refl _))⟩
  rcases hq with hq | hq
  · obtain ⟨its, r', pl, hz⟩ := I.list hq
    have hlen := r'.length
    obtain ⟨o, ho, hc, n, hd⟩ := pl.isList
    exact call_list_seq p (.inl rfl) ho hc hd (fun h' c' kp e => fin its r' hz h' c' kp e) (by simp only [List.size_toArray] <;> omega)
  · obtain ⟨its, r', pl, hz⟩ := I.tuple hq
    have hlen := r'.length
    obtain ⟨o, ho, hc, n, hd⟩ := pl
    exact call_list_seq p (.inr rfl) ho hc hd (fun h' c' kp e => fin its r' hz h' c' kp e) (by simp only [List.size_toArray] <;> omega)
theorem call_tuple_of : CallR X (.type "tuple") (fun xs H Q => ∃ p ys, xs = [.ref p] ∧ ((SqL X.K H p ys ∧ ∀ l, H l = none → Q (.ref l) (upd H l (.tup ys))) ∨ (SqT X.K H p ys ∧ Q (.ref p) H))) := by
 intro pins s σ H xs us Q I r h
 obtain ⟨p, ys, rfl, h⟩ := h
 obtain ⟨u, rfl, rx⟩ := vals1 r
 cases rx
 rcases h with ⟨hq, q⟩ | ⟨hq, q⟩
 ·obtain ⟨its, r', pl, hz⟩ := I.list hq
  have hlen := r'.length
  refine call_tuple_list pl.isList (fun h' kp => ?_) (by simp only [List.size_toArray] <;> omega)
  have I1 : Inv X pins σ H { s with heap := h' } := I.kept (t' := s.toks) kp
  have I2 : Inv X pins σ (upd H h'.objs.size (.tup ys)) { s with heap := h'.push { cls := .type "tuple", data := .seq its.toArray } } :=
   I1.laid (t' := s.toks) (fun b o e => Heap.get?_push_of_some _ e) (Nat.le_refl _) (show ObjOk X.prog X.w _ _ _ (.tup ys) from ⟨hz, its, r', IsTup.new _ _⟩)
  exact ⟨.ref h'.objs.size, _, I2, rfl, q _ (I1.hok.fresh (Nat.le_refl _))⟩
 ·obtain ⟨its, r', pl, hz⟩ := I.tuple hq
  exact call_tuple_same pl ⟨.ref p, H, I, rfl, q⟩
def tyV (K : PySem.W.Frag) (T : String) (x : V) (H : Hp) : Prop := match x with
  | .str _ => T = "str"
  | .int _ => T = "int"
  | .ref p => (T = "list" ∧ ∃ xs, SqL K H p xs) ∨ (T = "tuple" ∧ ∃ o, K.lookup p = some o ∧ o.cls = .type "tuple" ∧ o.dict = none) ∨
      (T = "dict" ∧ ((∃ kvs, H p = some (.dK kvs)) ∨ ∃ kvs, H p = some (.dT kvs))) ∨ (T = "set" ∧ ∃ S n, H p = some (.set S n))
  | _ => False
theorem tyV_is {pins : List (Addr × Obj)} {σ : St} {H : Hp} {s : Shared} {T : String} {x : V} {v : Value} (I : Inv X pins σ H s) (r : RelV x v) (ty : tyV X.K T x H) :
    s.TypeIs v T ∧ ∀ a, v = .ref a → ∃ ob, s.heap.get? a = some ob ∧ ob.dict = none := by
  cases x with
  | str z =>
    obtain ⟨t, rfl⟩ := r
    cases (show T = "str" from ty)
    exact ⟨typeIs_str s z t, fun _ e => nomatch e⟩
  | int i =>
    obtain ⟨t, rfl⟩ := r
    cases (show T = "int" from ty)
    exact ⟨typeIs_int s i t, fun _ e => nomatch e⟩
  | ref p =>
    cases r
    rcases ty with ⟨rfl, xs, hq⟩ | ⟨rfl, o, hk, hc, hd⟩ | ⟨rfl, hk⟩ | ⟨rfl, S, n, hk⟩
    · obtain ⟨its, _, pl, _⟩ := I.list hq
      refine ⟨pl.isList.typeIs, fun a e => ?_⟩
      cases e
      obtain ⟨o, n, e, c, hd, _⟩ := pl
      exact ⟨o, e, hd⟩
    · refine ⟨⟨o, I.kIn p o hk, hc⟩, fun a e => ?_⟩
      cases e
      exact ⟨o, I.kIn _ o hk, hd⟩
    · have z : ∃ o, s.heap.get? p = some o ∧ o.ExactDict := by
        rcases hk with ⟨kvs, hk⟩ | ⟨kvs, hk⟩
        · obtain ⟨_, _, _, _, o, _, _, e, ex, _⟩ := I.hok p _ hk
          exact ⟨o, e, ex⟩
        · obtain ⟨_, _, _, _, o, _, _, e, ex, _⟩ := I.hok p _ hk
          exact ⟨o, e, ex⟩
      obtain ⟨o, e, ex⟩ := z
      refine ⟨⟨o, e, ex.1⟩, fun a e2 => ?_⟩
      cases e2
      exact ⟨o, e, ex.2.1⟩
    · obtain ⟨o, _, _, _, e, ex, _⟩ := I.hok p _ hk
      refine ⟨⟨o, e, ex.1⟩, fun a e2 => ?_⟩
      cases e2
      exact ⟨o, e, ex.2.1⟩
  | _ => exact False.elim ty
def tBM (K : PySem.W.Frag) (T : String) (r : V → List V → Hp → VK → Prop) (to : TE) (t : TA) : TE := fun σ H Q => to σ H fun x H1 => tyV K T x H1 ∧ t σ H1 fun xs H2 => r x xs H2 Q
variable {o e : Expr} {es : List Expr} {to : TE} {t : TA} {name : Str} {apos cpos : Pos} {T id : String} {r : V → List V → Hp → VK → Prop}
theorem pe_bm (pa : PlainAttrs T) (slot : Slot T name id) (hty : typeOf (.builtin id) = pure (.type "method_descriptor")) (hm : MtR X id r) (ho : PE X o to) (ha : PA X (e :: es) t)
  (hbase : attributeBase o name X.env (eval o X.env) = eval o X.env := by rfl)
  (hfew : ((backTo cpos (starEach (e :: es) X.env)).all (fun x => !x.1) && (backToKw cpos (keywordEach [] X.env)).all (fun x => x.1.isSome)
   && decide ((e :: es).length + ([] : List Keyword).length + (if ([] : List Keyword).isEmpty then 0 else 1) < 30)) = true := by rfl)
  (hline : (apos.endLine == cpos.line) = true := by rfl) (hs : starEach (e :: es) X.env = (false, eval e X.env) :: starEach es X.env := by rfl) (hplain : (backTo cpos (starEach es X.env)).any (·.1) = false := by rfl) :
  PE X (.Call (.Attribute o name apos) (e :: es) [] cpos) (tBM X.K T r to t) := by
 intro pins s σ H Q I h
 refine wpAny_Call_method_late hbase hfew hline rfl (thn (ho pins s σ H _ I h) fun v s1 ⟨x, H1, I1, r1, ty, q1⟩ => ?_)
 obtain ⟨h1, h2⟩ := tyV_is I1 r1 ty
 refine ⟨T, id, pa, slot, hty, h1, h2, ?_⟩
 have hA := ha cpos pins s1 σ H1 _ I1 q1
 rw [hs] at hA ⊢
 refine Calls.callWith_builtin (by show (false || (backTo cpos (starEach es X.env)).any (·.1)) = false; rw [hplain] <;> rfl) (Calls.evalArgs_plain ?_)
 exact thn hA fun us s2 ⟨vs, H2, I2, r2, q2⟩ => hm pins s2 σ H2 x vs v us Q I2 r1 r2 q2
/- xs.append(e), list.index on a module's tuple .. are MtR facts of 06m -/
end
end L2
namespace L2
open PySem PySem.Spec PyProof.Rows
def MtM (X : Cx) (id : String) (r : V → List V → Hp → VK → Prop) : Prop :=
 ∀ (pins : List (Addr × Obj)) (s : Shared) (σ : St) (H : Hp) (x : V) (xs : List V) (v : Value) (us : List Value) (Q : VK), Inv X pins σ H s → RelV x v → Vals xs us → r x xs H Q →
  wpAny (model X.prog X.w) X.A (call (.builtin id) (v :: us)) (EP X pins σ Q) X.xe s
theorem Vals.one : ∀ {x : V} {us : List Value}, Vals [x] us → ∃ u, us = [u] ∧ RelV x u
 | _, _, .cons r .nil => ⟨_, rfl, r⟩
theorem Vals.two : ∀ {x y : V} {us : List Value}, Vals [x, y] us → ∃ u v, us = [u, v] ∧ RelV x u ∧ RelV y v
 | _, _, _, .cons r (.cons q .nil) => ⟨_, _, rfl, r, q⟩
section
variable {X : Cx} {pins : List (Addr × Obj)} {σ : St} {H : Hp} {s : Shared} {l b : Addr} {xs ys zs : List V}
theorem Inv.lset {its its' : List Value} {n : Nat} {f : Array Value → Array Value} {t' : Nat} (I : Inv X pins σ H s) (hH : H l = some (.lst xs))
  (e : s.heap.get? l = some { cls := .type "list", data := .seq its.toArray n }) (hf : f its.toArray = its'.toArray) (hv : Vals ys its') (hz : ys.length ≤ sizeLine) :
  Inv X pins σ (upd H l (.lst ys)) { s with heap := s.heap.update l (Obj.mapSeq f), toks := t' } := by
 have q := PySem.IsL.update e f
 rw [hf] at q
 refine I.write (x := l) (e := l) (by rw [hH]; exact trivial) (.inl rfl) (fun b' u hb hu => (Heap.get?_update_other s.heap (Obj.mapSeq f) (Ne.symm hb)).trans hu) ⟨_, q⟩ ?_
 exact ⟨hz, its', _, hv, q⟩
theorem Inv.lstM (I : Inv X pins σ H s) (hH : H l = some (.lst xs)) : xs.length ≤ sizeLine ∧ ∃ (its : List Value) (n : Nat), Vals xs its ∧ xs.length = its.length ∧ s.heap.get? l = some { cls := .type "list", data := .seq its.toArray n } := by
 obtain ⟨z, its, n, r, e⟩ := I.hok l _ hH
 exact ⟨z, its, n, r, r.length, e⟩
theorem notLongL {n : Nat} (h : n ≤ sizeLine) : Builtin.List.listTooLong n = false := by
 unfold Builtin.List.listTooLong
 exact decide_eq_false (by omega)
end
section
variable {X : Cx}
def rAppend : V → List V → Hp → VK → Prop := fun x vs H Q => ∃ l xs y, x = .ref l ∧ vs = [y] ∧ H l = some (.lst xs) ∧ xs.length < sizeLine ∧ Q .non (upd H l (.lst (xs ++ [y])))
theorem mt_append : MtM X "list.append" rAppend := by
 intro pins s σ H x vs v us Q I rx rv h
 obtain ⟨l, xs, y, rfl, rfl, hH, hz, q⟩ := h
 cases rx
 obtain ⟨u, rfl, ru⟩ := rv.one
 obtain ⟨z, its, n, r, hl, e⟩ := I.lstM hH
 refine call_meets F.slot_list_append ⟨_, e, rfl⟩ F.entry_list_append (F.args_list_append_2 _ _) (PySem.list_append l its.toArray n u (by rw [List.size_toArray]; omega)) ⟨e, ?_⟩
 refine ⟨.non, _, I.lset (its' := its ++ [u]) hH e (by simp) (r.append (.cons ru .nil)) ?_, rfl, q⟩
 rw [List.length_append, List.length_singleton]
 omega
def rExtend : V → List V → Hp → VK → Prop := fun x vs H Q => ∃ l b xs zs, x = .ref l ∧ vs = [.ref b] ∧ H l = some (.lst xs) ∧ H b = some (.lst zs) ∧ xs.length + zs.length ≤ sizeLine ∧ Q .non (upd H l (.lst (xs ++ zs)))
theorem mt_extend : MtM X "list.extend" rExtend := by
 intro pins s σ H x vs v us Q I rx rv h
 obtain ⟨l, b, xs, zs, rfl, rfl, hH, hB, hz, q⟩ := h
 cases rx
 obtain ⟨u, rfl, ru⟩ := rv.one
 cases ru
 obtain ⟨z, its, n, r, hl, e⟩ := I.lstM hH
 obtain ⟨z2, its2, n2, r2, hl2, e2⟩ := I.lstM hB
 have hsz : its.toArray.size + its2.toArray.size ≤ sizeLine := by rw [List.size_toArray, List.size_toArray]; omega
 have hlong : ¬ (!its.toArray.isEmpty && Builtin.List.listTooLong (its.toArray.size + its2.toArray.size)) = true := by
  rw [notLongL hsz, Bool.and_false]
  exact Bool.false_ne_true
 refine call_meets F.slot_list_extend ⟨_, e, rfl⟩ F.entry_list_extend (F.args_list_extend_2 _ _)
  (AutoSeq1.list_extend_list_list_0 l its.toArray n b its2.toArray n2 hlong (by rw [List.size_toArray]; omega) (by omega)) ⟨e, e2, ?_⟩
 refine ⟨.non, _, I.lset (its' := its ++ its2) hH e (by simp) (r.append r2) ?_, rfl, q⟩
 rw [List.length_append]
 omega
end
section
variable {prog : Program} {w : World} {A : Around} {E : Value → Shared → Prop} {s : Shared}
set_option maxRecDepth 100000 in
end
section
variable {X : Cx}
end
end L2
namespace Att
open PySem PySem.W PySem.Calls PyProof.Rows
theorem ints_of_wellAll {P : Params} {h : Heap} : ∀ (ns : List Int) (vs : List Value), WellAll P h vs (ns.map WData.int) → IntsAre vs ns := by
 intro ns
 induction ns with
 | nil =>
  intro vs w
  rw [List.map_nil] at w
  cases w
  exact .nil
 | cons n ns ih =>
  intro vs w
  rw [List.map_cons] at w
  cases w with
  | cons a b =>
   cases a
   exact .cons _ _ (ih _ b)
theorem script_of {l : OpenLaw} {n : Nat} (hn : l.most = some n) {P : Params} {h : Heap} {args : List WData} {vals : List Value}
  (hpre : l.row.toRowW.claim.pre args = true) (hwl : WellAll P h vals args) :
  ∃ a vs ns, vals = [Value.ref a] ∧ args = [WData.list (ns.map WData.int)] ∧ h.get? a = some { cls := .type "list", data := .seq vs.toArray } ∧ IntsAre vs ns ∧ ns.length ≤ n := by
 have hsh : WShape.hasAll [] args [.list .int] = true := (pre_splitW hpre).1
 have hc : l.pre.holds [] { args := args } = true := (pre_splitW hpre).2
 obtain ⟨d, r, rfl, h1, h2⟩ := hasAllW_cons hsh
 obtain rfl := hasAllW_nil h2
 obtain ⟨xs, rfl, h3⟩ := hasW_list h1
 obtain ⟨ns, rfl⟩ := items_int h3
 have hlen : ns.length ≤ n := by
  unfold OpenLaw.pre at hc
  have h4 : (WTm.not (.lt (.lit (.int (n : Int))) (.len (.arg 0)))).holds [] { args := [.list (ns.map .int)] } = true := by
   have h4 := (holds_andW hc).1
   rw [hn] at h4
   exact h4
  have h5 := condW_of h4 (w_not (w_lt w_lit (w_len_list (w_arg rfl))))
  rw [List.length_map] at h5
  refine Nat.le_of_not_lt fun q => ?_
  have q' : (n : Int) < ((ns.length : Nat) : Int) := by omega
  first
   | (rw [decide_eq_true q'] at h5; exact absurd h5 (by decide))
   | (simp at h5; omega)
 cases hwl with
 | cons w1 w2 =>
  cases w2
  cases w1 with
  | list ho hall => exact ⟨_, _, ns, rfl, rfl, ho, ints_of_wellAll ns _ hall, hlen⟩
theorem post_true (l : OpenLaw) (args : List WData) : l.row.toRowW.claim.post args (.bool true) args = true :=
 postW_of (r := l.row.toRowW) (X := (true == true))
  (show WShape.has [] (.bool true) .bool = true by first | rfl | decide | simp [WShape.has, WShape.arms, WShape.armsAll])
  (show (WTm.eq .res (.lit (.bool true))).value [] { args := args, res := some (.bool true), after := args } = some (.bool (true == true)) from w_eq_bool (w_res rfl) w_lit) rfl
theorem attach_call {l : OpenLaw} {n : Nat} {q : Program} {loose : List Str} {XP : (Str → Option Value) → Heap → Prop} {YP : World → Heap → Prop} {d : DefRec}
  (hn : l.most = some n) (hdf : d.params.defaults = [])
  (call : ∀ (w : World) (s₀ s₁ : Shared) (mg mb : Str → Option Value) (fa : Addr) (o : Obj) (pm cd doc : Value) (a : Addr) (vs : List Value) (ns : List Int),
   Ground q loose [] XP w s₀ mg mb s₁.heap → YP w s₁.heap →
   s₁.heap.get? fa = some o → o.data = .func (docDef d.name d.params d.body d.scope pm cd doc) → s₁.heap.CodeRec cd d.name → mg d.name = some (.ref fa) →
   s₁.heap.get? a = some { cls := .type "list", data := .seq vs.toArray } → IntsAre vs ns → ns.length ≤ n → s₁.gens = #[] →
   codeAny (model l.prog w) callerA (.call (.ref fa) ⟨[.ref a], []⟩) (fun r s' => r = .ok (.ret (.bool true)) ∧ OldK s₁.heap s'.heap ∧ s'.os = s₁.os ∧ AllBare s'.gens) s₁) :
  WalkO q loose XP YP l.row.toRowW d [] (fun f vs => PySem.call f vs) := by
 intro w s₀ s₁ mg mb G Y fa o pm cd doc dV kV ho hd hcd hD hmg hg args vals as hpre hlay hrd hwl hlo
 obtain rfl : dV = .none := Dflts.none hD hdf
 obtain rfl : kV = .none := Dflts.noKw hD
 obtain ⟨a, vs, ns, rfl, rfl, hobj, hints, hlen⟩ := script_of hn hpre hwl
 refine enter_call (codeAny_mono (call w s₀ s₁ mg mb fa o pm cd doc a vs ns G Y ho (fd_plain hd) hcd hmg hobj hints hlen hg) fun r s' hq => ?_)
 obtain ⟨rfl, h2, h3, h4⟩ := hq
 exact ⟨.inl ⟨.bool true, .bool true, [], rfl, fun _ => rfl, .bool true, post_true l _, fun _ => ⟨List.Pairwise.nil, fun _ hm => (nomatch hm)⟩⟩, h2, h3, h4⟩
section
variable {prog : Program} {w : World} {A : Around} {E : Value → Shared → Prop} {s : Shared} {K : Frag}
def ledger (h : Heap) (L d : Addr) : List (Addr × Obj) := (List.range h.objs.size).filterMap fun a => if a = L ∨ a = d then none else (h.get? a).map fun o => (a, o)
end
end Att
namespace L2
open PySem PySem.Spec PyProof.Rows
theorem vals_ints : ∀ {vs : List Value} {ns : List Int}, IntsAre vs ns → Vals (ns.map V.int) vs
 | _, _, .nil => .nil
 | _, _, .cons n t h => .cons ⟨t, rfl⟩ (vals_ints h)
def Only (H : Hp) : Prop := ∀ b, H b = none ∨ ∃ o xs, H b = some (.frz o (.lst xs))
theorem law_call {P : Program} {w : World} {K : PySem.W.Frag} {mg mb : Str → Option Value} {CX : CXT} {k : Nat} {fa a : Addr} {fd : FuncData} {x : Str} {sp : Sp} {s₁ : Shared} {vs : List Value} {ns : List Int}
    (KX : K.In s₁.heap) (hns : s₁.heap.Ns mainGlobals mg) (hb : s₁.heap.Ns builtinsNs mb) (hbb : ∀ x : Str, x ≠ "__name__" → mb x = bootBuiltins x) (hlim : s₁.heap.NoLimit) (hg : s₁.gens = #[])
    (ha : s₁.heap.get? a = some { cls := .type "list", data := .seq vs.toArray }) (hi : IntsAre vs ns) (hl : ns.length ≤ sizeLine) (hr : Room k callerA)
    (F : ∀ base : Heap, K.In base → base.Ns mainGlobals mg → FnOk P w K mg base CX k fa fd [x] sp) (hbind : ∀ (s : Shared) (u : Value), BindsTo s fd ⟨[u], []⟩ [(x, u)])
    (hsp : ∀ H : Hp, Only H → SqL K H a (ns.map V.int) → sp [.ref a] H (fun v _ => v = .bl true) fun _ _ _ => False)
    (hCX : ∀ H e s', CX [] H s₁ (fun _ _ _ => False) e s' → False) :
    codeAny (model P w) callerA (.call (.ref fa) ⟨[.ref a], []⟩) (fun r s' => r = .ok (.ret (.bool true)) ∧ OldK s₁.heap s'.heap ∧ s'.os = s₁.os ∧ AllBare s'.gens) s₁ := by
  have rv := vals_ints hi
  have lenV := hi.length
  -- from an abstract heap in which nothing but the script may be tracked
  have core : ∀ H : Hp, Only H → SqL K H a (ns.map V.int) → HOk P w H s₁.heap → (∀ b, H b ≠ none → b = a) → (H a ≠ none → K.lookup a = none) →
      codeAny (model P w) callerA (.call (.ref fa) ⟨[.ref a], []⟩) (fun r s' => r = .ok (.ret (.bool true)) ∧ OldK s₁.heap s'.heap ∧ s'.os = s₁.os ∧ AllBare s'.gens) s₁ := by
    intro H hO hS hok hA hK
    have base_of : ∀ {b : Addr} {o : Obj}, s₁.heap.get? b = some o → H b = none → (hidT s₁.heap H).get? b = some o := fun e n => hidT_get e n
    have noA : ∀ {b : Addr} {o : Obj} {es : Array DictEntry} {ep : Nat}, s₁.heap.get? b = some o → o.data = .dict es ep → H b = none := fun {b o es ep} e d => by
      cases q : H b with
      | none => rfl
      | some u =>
        have e' : b = a := hA b (by rw [q]; simp)
        subst e'
        rw [ha] at e; cases e
        have d' : Data.seq vs.toArray _ = Data.dict es ep := d
        cases d'
    have nsK : ∀ {b : Addr} {m : Str → Option Value}, s₁.heap.Ns b m → (hidT s₁.heap H).Ns b m := fun {b m} ⟨o, es, ep, e, d, r⟩ => ⟨o, es, ep, base_of e (noA e d), d, r⟩
    have hKb : K.In (hidT s₁.heap H) := fun b o e => base_of (KX b o e) (by
      cases q : H b with
      | none => rfl
      | some u =>
        have e' : b = a := hA b (by rw [q]; simp)
        subst e'
        rw [hK (by rw [q]; simp)] at e; cases e)
    have hM : Mod K mg (hidT s₁.heap H) := ⟨hKb, nsK hns, ⟨mb, nsK hb, hbb⟩, let ⟨mc, h1, h2⟩ := hlim; ⟨mc, nsK h1, h2⟩⟩
    have e0 : Env0 P w K mg (hidT s₁.heap H) callerA [] s₁ H := ⟨rfl, hM, fun b o e => of_hidT e, Nat.le_of_eq (hidT_size _ _), trivial, fun b hb => absurd (show b ∈ ([] : List Addr) from hb) (by simp), hok, .of_eq hg⟩
    refine codeAny_mono ((F _ hKb (nsK hns)).run callerA [] s₁ H ⟨[.ref a], []⟩ [.ref a] [.ref a] _ _ hr e0 (hbind s₁ (.ref a)) (.cons rfl .nil) (hsp H hO hS)) fun r s' h => ?_
    cases r with
    | error e => exact (hCX H e s' h).elim
    | ok fl =>
      cases fl with
      | next => exact False.elim h
      | brk => exact False.elim h
      | cont => exact False.elim h
      | ret u =>
        obtain ⟨v, H', os, bare, un, hok', r', q⟩ := h
        have q' : v = .bl true := q
        subst q'
        obtain rfl : u = Value.bool true := r'
        refine ⟨rfl, OldK.of_keep fun b o e => ?_, os, bare⟩
        cases q : H b with
        | none => exact un.keep b o e q (by intro z; exact absurd (show b ∈ ([] : List Addr) from z) (by simp)) (by simp)
        | some u =>
          rcases hO b with z | ⟨ob, xs, z⟩
          · rw [q] at z; cases z
          · have z2 := un.frzs b ob _ z
            obtain ⟨e1, _⟩ := hok b _ z
            obtain ⟨e2, _⟩ := hok' b _ z2
            rw [e] at e1; cases e1
            exact e2
  cases hk : K.lookup a with
  | some o =>
    -- the script is one of the module's own objects
    have e := KX a o hk
    rw [ha] at e
    cases e
    refine core (fun _ => none) (fun _ => .inl rfl) (.inr ⟨_, vs.toArray, _, hk, rfl, rfl, rfl, by rw [List.size_toArray, lenV]; exact hl, by simpa using rv⟩) (fun b u z => by have z' : (none : Option HO) = some u := z; cases z') (fun b z => absurd rfl z) fun z => absurd rfl z
  | none =>
    refine core (fun b => if b = a then some (.frz { cls := .type "list", data := .seq vs.toArray } (.lst (ns.map V.int))) else none) (fun b => ?_) (.inl (.inr ⟨{ cls := .type "list", data := .seq vs.toArray }, if_pos rfl⟩)) (fun b u z => ?_) (fun b z => ?_) fun _ => hk
    · by_cases hb : b = a
      · exact .inr ⟨_, _, if_pos hb⟩
      · exact .inl (if_neg hb)
    · by_cases hb : b = a
      · have z' := (if_pos hb).symm.trans z
        cases z'
        subst hb
        exact ⟨ha, by rw [List.length_map]; exact hl, vs, _, rv, ha⟩
      · have z' := (if_neg hb).symm.trans z
        cases z'
    · by_cases hb : b = a
      · exact hb
      · exact absurd (if_neg hb) z
end L2
namespace L2
open PySem PySem.Spec PyProof.Rows
abbrev KOf {K : PySem.W.Frag} {h : Heap} (_ : K.In h) : PySem.W.Frag := K
theorem walk_of {l : PySem.W.OpenLaw} {n k : Nat} {q : Program} {loose : List Str} {XP : (Str → Option Value) → Heap → Prop} {YP : World → Heap → Prop} {d : DefRec} {K : Params → PySem.W.Frag} {CX : World → CXT} {sp : World → Sp} {x : Str}
  (hn : l.most = some n) (hn2 : n ≤ sizeLine) (hdf : d.params.defaults = []) (hr : Room k callerA)
  (hY : ∀ (w : World) (h : Heap), YP w h → (K w.params).In h)
  (F : ∀ (w : World) (mg : Str → Option Value) (fa : Addr) (h : Heap), (K w.params).In h → h.Ns mainGlobals mg → mg d.name = some (.ref fa) →
   ∃ fd : FuncData, (∀ (s : Shared) (u : Value), BindsTo s fd ⟨[u], []⟩ [(x, u)]) ∧
    ∀ base : Heap, (K w.params).In base → base.Ns mainGlobals mg → FnOk l.prog w (K w.params) mg base (CX w) k fa fd [x] (sp w))
  (hsp : ∀ (w : World) (H : Hp) (a : Addr) (ns : List Int), ns.length ≤ n → Only H → SqL (K w.params) H a (ns.map V.int) → sp w [.ref a] H (fun v _ => v = .bl true) fun _ _ _ => False)
  (hCX : ∀ (w : World) (H : Hp) (s : Shared) (e : Value) (s' : Shared), CX w [] H s (fun _ _ _ => False) e s' → False) :
  PySem.W.WalkO q loose XP YP l.row.toRowW d [] (fun f vs => PySem.call f vs) := by
 refine Att.attach_call hn hdf fun w s₀ s₁ mg mb fa o pm cd doc a vs ns G Y ho hd hcd hmg hobj hints hlen hg => ?_
 have KX := hY w _ Y
 obtain ⟨fd, hb, hF⟩ := F w mg fa _ KX G.T.g hmg
 exact law_call KX G.T.g G.T.b G.T.builtins G.T.nolimit hg hobj hints (Nat.le_trans hlen hn2) hr hF hb (fun H hO hS => hsp w H a ns hlen hO hS) fun H e s' => hCX w H s₁ e s'
theorem walk_ofK {l : PySem.W.OpenLaw} {n k : Nat} {q : Program} {loose : List Str} {XP : (Str → Option Value) → Heap → Prop} {YP : World → Heap → Prop} {d : DefRec} {K : Params → PySem.W.Frag} {CX : CXT} {sp : PySem.W.Frag → Sp} {x : Str}
  (hn : l.most = some n) (hn2 : n ≤ sizeLine) (hdf : d.params.defaults = []) (hr : Room k callerA)
  (hY : ∀ (w : World) (h : Heap), YP w h → (K w.params).In h)
  (F : ∀ (w : World) (mg : Str → Option Value) (fa : Addr) (h : Heap), (K w.params).In h → h.Ns mainGlobals mg → mg d.name = some (.ref fa) →
   ∃ fd : FuncData, (∀ (s : Shared) (u : Value), BindsTo s fd ⟨[u], []⟩ [(x, u)]) ∧
    ∀ base : Heap, (K w.params).In base → base.Ns mainGlobals mg → FnOk l.prog w (K w.params) mg base CX k fa fd [x] (sp (K w.params)))
  (hsp : ∀ (K : PySem.W.Frag) (H : Hp) (a : Addr) (ns : List Int), ns.length ≤ n → Only H → SqL K H a (ns.map V.int) → sp K [.ref a] H (fun v _ => v = .bl true) fun _ _ _ => False)
  (hCX : ∀ (H : Hp) (s : Shared) (e : Value) (s' : Shared), CX [] H s (fun _ _ _ => False) e s' → False) :
  PySem.W.WalkO q loose XP YP l.row.toRowW d [] (fun f vs => PySem.call f vs) :=
 walk_of (K := K) (CX := fun _ => CX) (sp := fun w => sp (K w.params)) hn hn2 hdf hr hY F (fun w H a ns h1 h2 h3 => hsp (K w.params) H a ns h1 h2 h3) fun _ H s e s' => hCX H s e s'
end L2
/- THE LAST THEOREM (shape; LID, My.* are yours):
   My.Adr: a structure of the addresses that your layer names (classes, functions); My.Txt K t: a structure (Prop) of the equations over K;
   My.txt_mk : {K} {implicit addresses ..} (e1 : nsIn K mainGlobals "law" = some (some (.ref f))) (e2 : K.lookup f = some ⟨oc, od, .func (fnOf "law" "law" params body scope dV kV doc pm an cdv ct), sl⟩) (e3 : codeIn K cdv "law" = true) .. : ∃ t, My.Txt K t
set_option maxRecDepth 100000 in
set_option maxHeartbeats 0 in
theorem PySem.Challenge.cw_LID_holds : PySem.Challenge.rw_LID.Holds := by
 w_on; o_law; k_head; (case hw => w_witness2)
 k_fill
 refine L2.walk_of (l := PySem.Challenge.rw_LID) (n := 63) (k := 40) (x := "script") (CX := fun w => ..) (sp := fun _ => My.sp_law) rfl (by decide) rfl ⟨rfl, by decide, by decide⟩ (fun w h Y => PySem.W.kIn_of Y) ?F ?S ?C
 case F =>
  intro w mg fa h KX G hmg
  have T : ∃ t, My.Txt (L2.KOf KX) t := by
   dsimp only [L2.KOf]                          -- K must stand as «<heap const> w.params» for k_is
   refine' My.txt_mk ?e1 ?e2 ?e3 ..
   (case e1 => PySem.W.k_is)                    -- in the order: a name -> its address -> its object -> its parts
   (case e2 => PySem.W.k_is)
   ..
  obtain ⟨t, T⟩ := T
  have e0 := hmg.symm.trans (PySem.W.mg_of KX G T.law)
  cases e0                                       -- fa is the law's own address
  exact ⟨_, fun s u => .of_eq rfl, fun base kb nb => My.law_fn T kb nb⟩     -- if «.of_eq rfl» comes too early: refine' ⟨_, ?b, fun base kb nb => My.law_fn T kb nb⟩; exact fun s u => .of_eq rfl
 case S => exact fun w H a ns hl hO hS => ..
 case C => exact ..
(the tactic k_is has no namespace: write k_is) -/
namespace L2
open PySem PySem.Spec PyProof.Rows
def inClass (s : Stmt) (j : Nat) : Stmt := match s with
 | .ClassDef _ _ _ body _ _ _ _ _ _ _ => body.getD j (.Pass ⟨0, 0, 0, 0⟩)
 | _ => .Pass ⟨0, 0, 0, 0⟩
def defArgs (s : Stmt) : Arguments := match s with
 | .FunctionDef _ a _ _ _ _ _ _ _ _ => a
 | _ => { posonlyargs := [], args := [], vararg := none, kwonlyargs := [], kw_defaults := [], kwarg := none, defaults := [] }
def defBody (s : Stmt) : List Stmt := match s with
 | .FunctionDef _ _ b _ _ _ _ _ _ _ => b
 | _ => []
def defScope (s : Stmt) : Scope := match s with
 | .FunctionDef _ _ _ _ _ _ sc _ _ _ => sc
 | _ => { kind := .function, names := [], isGenerator := false, isCoroutine := false }
abbrev CX0 : CXT := fun _ _ _ _ _ _ => False
abbrev E0 : XK := fun _ _ _ => False
theorem pass0 {X : Cx} : Passes CX0 X E0 := fun _ _ _ _ _ _ _ h => h.elim
structure Fun (K : PySem.W.Frag) (x qual : Str) (st : Stmt) (f : Addr) (fd : FuncData) : Prop where
 ex : ∃ (oc : Value) (od : Option Addr) (kV doc pm : Value) (an : Option Addr) (cdv ct : Value) (osl : Array (Option Value)),
  fd = PySem.W.fnOf x qual (defArgs st) (defBody st) (defScope st) .none kV doc pm an cdv ct ∧ K.lookup f = some ⟨oc, od, .func fd, osl⟩ ∧ PySem.W.codeIn K cdv qual = true
 kp : PySem.W.keepIn K (.ref f) = true
section
variable {P : Program} {w : World} {K : PySem.W.Frag} {mg : Str → Option Value} {base : Heap}
theorem Fun.ok {x qual : Str} {st : Stmt} {f : Addr} {fd : FuncData} {N ps : List Str} {k : Nat} {sp : Sp} (F : Fun K x qual st f fd) (S : FnScope N ps (defScope st)) (len : ∀ vs H Q E, sp vs H Q E → vs.length = ps.length)
  (hbody : ∀ (cdv : Value) (A : Around) (outer : List Env) (s : Shared) (H : Hp) (vs : List V) (Q : VK) (E : XK), Room k (A.deeper (envOfC qual (defScope st) s.heap.objs.size f cdv)) → sp vs H Q E →
   ∃ t, PSs (cxOf CX0 P w K mg base N qual (defScope st) f cdv A outer s H E).nox (defBody st) t ∧ t { nx := fun _ H' => Q .non H', rt := Q } (start N vs) H) : FnOk P w K mg base CX0 (k + 1) f fd ps sp := by
 obtain ⟨oc, od, kV, doc, pm, an, cdv, ct, osl, rfl, lk, hcd⟩ := F.ex
 refine fn_of lk hcd S len fun A outer s H vs Q E hr hsp => ?_
 obtain ⟨t, h, q⟩ := hbody cdv A outer s H vs Q E hr hsp
 exact ⟨t, h.nox, q⟩
theorem Fun.binds {x qual : Str} {st : Stmt} {f : Addr} {fd : FuncData} {ps : List Str} (F : Fun K x qual st f fd)
  (h : ∀ (kV doc pm : Value) (an : Option Addr) (cdv ct : Value) (us : List Value), us.length = ps.length → bindArgs (PySem.W.fnOf x qual (defArgs st) (defBody st) (defScope st) .none kV doc pm an cdv ct) ⟨us, []⟩ = pure (ps.zip us)) : Binds K fd ps [] := by
 obtain ⟨oc, od, kV, doc, pm, an, cdv, ct, osl, rfl, lk, hcd⟩ := F.ex
 exact .all (h kV doc pm an cdv ct)
theorem fun_mk {x qual : Str} {st : Stmt} {f : Addr} {oc : Value} {od an : Option Addr} {osl : Array (Option Value)} {kV doc pm cdv ct : Value} (l : K.lookup f = some ⟨oc, od, .func (PySem.W.fnOf x qual (defArgs st) (defBody st) (defScope st) .none kV doc pm an cdv ct), osl⟩)
  (c : PySem.W.codeIn K cdv qual = true) (k : PySem.W.keepIn K (.ref f) = true) : Fun K x qual st f (PySem.W.fnOf x qual (defArgs st) (defBody st) (defScope st) .none kV doc pm an cdv ct) := ⟨⟨oc, od, kV, doc, pm, an, cdv, ct, osl, rfl, l, c⟩, k⟩
end
theorem small1000 {n : Nat} (h : n ≤ 1000) : n < sizeLine := Nat.lt_of_le_of_lt h (by decide)
section
variable {X : Cx}
theorem pv (i : Nat) {x : Str} {pos : Pos} (hN : X.N[i]? = some x := by rfl) (hv : Vis X.env.scope x := by first | exact Or.inl rfl | exact Or.inr (Or.inl rfl) | exact Or.inr (Or.inr rfl)) (hd : (x == ("__debug__" : Str)) = false := by decide)
  (hcd : (x == ("__classdict__" : Str)) = false := by decide) : PE X (.Name x pos) (tVar i) := pe_var hN hv hd hcd
end
theorem iteF {A B : Prop} (h : B) : if false = true then A else B := by
 rw [if_neg Bool.false_ne_true]
 exact h
theorem iteT {A B : Prop} (h : A) : if true = true then A else B := by
 rw [if_pos rfl]
 exact h
theorem ite2 {c A B : Prop} [Decidable c] (h1 : c → A) (h2 : ¬ c → B) : if c then A else B := by
 by_cases h : c
 ·rw [if_pos h]
  exact h1 h
 ·rw [if_neg h]
  exact h2 h
def Same (H H' : Hp) : Prop := ∀ b o, H b = some o → H' b = some o
theorem Same.refl (H : Hp) : Same H H := fun _ _ h => h
theorem Same.trans {H H1 H2 : Hp} (a : Same H H1) (b : Same H1 H2) : Same H H2 := fun c o h => b c o (a c o h)
theorem Same.free {H H' : Hp} (e : Same H H') {l : Addr} (h : H' l = Option.none) : H l = Option.none := by
 cases q : H l with
 | none => rfl
 | some o =>
  rw [e l o q] at h
  cases h
theorem Same.seq {K : PySem.W.Frag} {H H' : Hp} {a : Addr} {xs : List V} (e : Same H H') (h : SqL K H a xs) : SqL K H' a xs := by
 rcases h with (h | ⟨o, h⟩) | h
 ·exact .inl (.inl (e _ _ h))
 ·exact .inl (.inr ⟨o, e _ _ h⟩)
 ·exact .inr h
end L2
set_option Elab.async false
set_option maxRecDepth 100000
namespace L2
open PySem PySem.Spec PyProof.Rows
def closOf (cells : List (Str × Addr)) : List (Str × NameKind) → List (Str × Addr) → List (Str × Addr)
 | [], acc => acc
 | (n, k) :: r, acc => closOf cells r (if k == .free then (n, (cells.lookup n).getD 0) :: acc else acc)
theorem closureFor_of {scope : Scope} {env : Env} (h : ∀ x ∈ scope.names, x.2 = .free → ∃ c, env.cells.lookup x.1 = some c) : closureFor scope env = pure (closOf env.cells scope.names []) := by
 unfold closureFor
 generalize hn : scope.names = names at h ⊢
 clear hn
 generalize ([] : List (Str × Addr)) = acc
 induction names generalizing acc with
 | nil => simp [closOf]
 | cons x r ih =>
  obtain ⟨n, k⟩ := x
  have ih' := fun a => ih (fun x hx => h x (List.mem_cons_of_mem _ hx)) a
  simp only [List.forIn_cons, bind_pure] at ih' ⊢
  by_cases hk : k = .free
  ·obtain ⟨c, hc⟩ := h (n, k) List.mem_cons_self hk
   subst hk
   have hcl : cellOf env n = pure c := by simp only [cellOf, hc]
   simp only [beq_self_eq_true, if_true, hcl, hc, pure_bind, closOf, Option.getD_some]
   simpa using ih' _
  ·have hb : (k == NameKind.free) = false := by simpa using hk
   simp only [hb, Bool.false_eq_true, if_false, pure_bind, closOf]
   simpa using ih' _
theorem closOf_look {cells : List (Str × Addr)} {y : Str} {c : Addr} : ∀ {names : List (Str × NameKind)} {acc : List (Str × Addr)}, (∀ x ∈ names, x.2 = .free → ∃ c, cells.lookup x.1 = some c) → (acc.lookup y = some c → cells.lookup y = some c) →
  (closOf cells names acc).lookup y = some c → cells.lookup y = some c
 | [], _, _, ha, e => ha e
 | (n, k) :: r, acc, h, ha, e => by
  unfold closOf at e
  refine closOf_look (names := r) (fun x hx => h x (List.mem_cons_of_mem _ hx)) (fun e' => ?_) e
  by_cases hk : k = .free
  ·obtain ⟨d, hd⟩ := h (n, k) List.mem_cons_self hk
   subst hk
   simp only [beq_self_eq_true, if_true, hd, Option.getD_some, List.lookup_cons] at e'
   cases q : y == n with
   | true =>
    rw [q] at e'
    have : y = n := by simpa using q
    subst this
    exact hd.trans e'
   | false => rw [q] at e'; exact ha e'
  ·have hb : (k == NameKind.free) = false := by simpa using hk
   simp only [hb, Bool.false_eq_true, if_false] at e'
   exact ha e'
theorem closOf_has {cells : List (Str × Addr)} {y : Str} : ∀ {names : List (Str × NameKind)} {acc : List (Str × Addr)}, ((y, NameKind.free) ∈ names ∨ ∃ c, acc.lookup y = some c) → ∃ c, (closOf cells names acc).lookup y = some c
 | [], _, h => by simpa [closOf] using h
 | (n, k) :: r, acc, h => by
  unfold closOf
  refine closOf_has (names := r) ?_
  rcases h with h | ⟨c, h⟩
  ·rcases List.mem_cons.mp h with e | e
   ·cases e
    right
    simp
   ·exact .inl e
  ·right
   by_cases hk : (k == NameKind.free) = true
   ·rw [if_pos hk, List.lookup_cons]
    cases y == n
    ·exact ⟨c, h⟩
    ·exact ⟨_, rfl⟩
   ·rw [if_neg hk]
    exact ⟨c, h⟩
end L2
set_option Elab.async false
set_option maxRecDepth 100000
namespace L2
open PySem PySem.Spec PyProof.Rows
def PTs (X : Cx) (ifs : List Expr) (t : TT) : Prop :=
 ∀ (pins : List (Addr × Obj)) (s : Shared) (σ : St) (H : Hp) (Q : Bool → Hp → Prop), Inv X pins σ H s → t σ H Q →
  wpAny (model X.prog X.w) X.A (forIn ifs true fun c r => if r = true then do let ok ← isTrue c X.env (eval c X.env); pure (ForInStep.yield ok) else pure (ForInStep.yield r)) (TP X pins σ Q) X.xe s
def tTrue : TT := fun _ H Q => Q true H
theorem pts_nil {X : Cx} : PTs X [] tTrue := fun _ _ _ H _ I h => wpAny_tests_nil ⟨H, I, h⟩
theorem pts_one {X : Cx} {c : Expr} {t : TT} (h : PT X c t) : PTs X [c] t := fun pins s σ H Q I hw => wpAny_tests_one (h pins s σ H Q I hw)
def Cx.block (X : Cx) (scope : Scope) (N : List Str) (s : Shared) (H : Hp) (fp : List Addr) : Cx where
 prog := X.prog
 w := X.w
 K := X.K
 mg := X.mg
 base := X.base
 A := X.A
 N := N
 s₀ := s
 H₀ := H
 env := compEnvC scope (closOf X.env.cells scope.names []) s.heap.objs.size X.env
 outer := X.stack
 stack := X.stack
 ex := fp
 fn := fun _ => false
 calm := X.calm
 pn := []
 xe := fun _ _ => False
def isCl : Option NameKind → Bool
 | some .cell => true
 | some .free => true
 | _ => false
theorem isCl_iff {k : Option NameKind} (h : isCl k = true) : k = some .cell ∨ k = some .free := by
 unfold isCl at h
 split at h
 ·exact .inl rfl
 ·exact .inr rfl
 ·cases h
structure CompOk (X : Cx) (scope : Scope) (N : List Str) (cap : List (Option Nat)) : Prop where
 kind : scope.kind = .function
 nocell : (scope.names.all fun y => !(y.2 == .cell)) = true
 loc : (scope.names.all fun y => !(y.2 == .local) || (scope.names.lookup y.1 == some .local)) = true
 fre : (scope.names.all fun y => !(y.2 == .free) || isCl (X.env.kindOf y.1)) = true
 len : cap.length = N.length
 cap : ((cap.zip N).all fun p => match p.1 with | none => true | some j => (X.N[j]? == some p.2) && isCl (X.env.kindOf p.2) && isCl ((relabel scope X.env).names.lookup p.2)) = true
def capS (cap : List (Option Nat)) (σ : St) : St := cap.map fun o => match o with | none => none | some j => (σ[j]?).join
section
variable {X : Cx} {pins : List (Addr × Obj)} {σ : St} {H : Hp} {s : Shared} {fp : List Addr} {scope : Scope} {N : List Str} {cap : List (Option Nat)}
theorem CompOk.freeH (c : CompOk X scope N cap) (ok : X.Ok) : ∀ x ∈ scope.names, x.2 = .free → ∃ a, X.env.cells.lookup x.1 = some a := fun x hx hf => by
 have := List.all_eq_true.mp c.fre x hx
 rw [hf] at this
 simp only [beq_self_eq_true, Bool.not_true, Bool.false_or] at this
 exact ok.has x.1 (isCl_iff this)
theorem relabel_look {scope : Scope} {env : Env} {y : Str} (h : (relabel scope env).names.lookup y = some .cell ∨ (relabel scope env).names.lookup y = some .free) (nc : ∀ z ∈ scope.names, z.2 ≠ .cell) : (y, NameKind.free) ∈ scope.names := by
 unfold relabel at h
 dsimp only at h
 generalize scope.names = names at h nc
 induction names with
 | nil => simp at h
 | cons z r ih =>
  obtain ⟨n, k⟩ := z
  have nc' : ∀ z ∈ r, z.2 ≠ .cell := fun z hz => nc z (List.mem_cons_of_mem _ hz)
  rw [List.map_cons, List.lookup_cons] at h
  have nck := nc (n, k) List.mem_cons_self
  dsimp only at h nck
  by_cases hc : (k == NameKind.free && env.scope.kind == .function && env.kindOf n == some .cell) = true
  ·rw [if_pos hc] at h
   dsimp only at h
   have hk : k = .free := by
    simp only [Bool.and_eq_true, beq_iff_eq] at hc
    exact hc.1.1
   cases q : y == n with
   | true => rw [show y = n from by simpa using q, hk]; exact List.mem_cons_self
   | false => rw [q] at h; exact List.mem_cons_of_mem _ (ih h nc')
  ·rw [if_neg hc] at h
   dsimp only at h
   cases q : y == n with
   | true =>
    rw [q] at h
    rcases h with h | h
    ·cases h; exact absurd rfl nck
    ·cases h; rw [show y = n from by simpa using q]; exact List.mem_cons_self
   | false => rw [q] at h; exact List.mem_cons_of_mem _ (ih h nc')
theorem CompOk.nc (c : CompOk X scope N cap) : ∀ z ∈ scope.names, z.2 ≠ .cell := fun z hz e => by
 have := List.all_eq_true.mp c.nocell z hz
 rw [e] at this
 exact absurd this (by decide)
theorem CompOk.lc (c : CompOk X scope N cap) : ∀ x ∈ scope.names, x.2 = .local → scope.names.lookup x.1 = some .local := fun x hx e => by
 have := List.all_eq_true.mp c.loc x hx
 rw [e] at this
 simpa using this
theorem block_ok (c : CompOk X scope N cap) (I : Inv X pins σ H s) (hf : ∀ b ∈ fp, FpOk X pins H b) (hlt : ∀ b ∈ fp, b < s.heap.objs.size) : (X.block scope N s H fp).Ok := by
 have lk : ∀ {y : Str} {a : Addr}, (closOf X.env.cells scope.names []).lookup y = some a → X.env.cells.lookup y = some a := fun e => closOf_look (c.freeH I.ok) (fun z => by simp at z) e
 refine ⟨I.ok.mod, c.kind, I.ok.glob, I.ok.blt, Nat.le_refl _, fun x y a h1 h2 => I.ok.inj x y a (lk h1) (lk h2), fun x hx => closOf_has (.inl (relabel_look hx c.nc)), fun x a h => absurd h (by simp [Cx.block]), I.ok.hd, I.ok.frames, .inl rfl, fun b hb => ⟨?_, fun x a h => (hf b hb).2.2.2.2.1 x a (lk h)⟩, I.bs, Nat.le_trans I.ok.bsz I.sz, fun b o e hb => ?_, fun b hb z => ?_, I.stack, I.stkFree⟩
 ·exact Nat.ne_of_lt (hlt b hb)
 ·rcases (hf b hb).2.2.2.1 with z | z
  ·exact I.ok.noex b o e z
  ·exact absurd (Nat.lt_of_lt_of_le (Heap.lt_size (I.ok.bs b o e).1) z) (Nat.lt_irrefl _)
 ·rcases List.mem_cons.mp (I.stkSub b z) with e | e
  ·exact (hf b hb).2.1 e
  ·exact (hf b hb).2.2.1 e
theorem capS_get {i : Nat} {v : V} (h : (capS cap σ)[i]? = some (some v)) : ∃ j, cap[i]? = some (some j) ∧ σ[j]? = some (some v) := by
 unfold capS at h
 rw [List.getElem?_map] at h
 cases q : cap[i]? with
 | none => rw [q] at h; cases h
 | some o =>
  rw [q] at h
  cases o with
  | none => cases h
  | some j =>
   refine ⟨j, rfl, ?_⟩
   have h' : (σ[j]?).join = some v := Option.some.inj h
   cases q2 : σ[j]? with
   | none => rw [q2] at h'; cases h'
   | some o =>
    rw [q2] at h'
    have : o = some v := h'
    rw [this]
theorem block_inv (c : CompOk X scope N cap) (I : Inv X pins σ H s) (hf : ∀ b ∈ fp, FpOk X pins H b) (hlt : ∀ b ∈ fp, b < s.heap.objs.size) {h1 : Heap} {t1 : Nat} (hns : h1.Ns s.heap.objs.size (fun x => ([] : List (Str × Value)).reverse.lookup x))
  (hsb : Heap.SameBut s.heap.objs.size (s.heap.push { cls := .type (if (some X.env : Option Env).isSome then "dict" else "frame"), data := .dict #[] }) h1) : Inv (X.block scope N s H fp) [] (capS cap σ) H { s with heap := h1, toks := t1 } := by
 have lk : ∀ {y : Str} {a : Addr}, (closOf X.env.cells scope.names []).lookup y = some a → X.env.cells.lookup y = some a := fun e => closOf_look (c.freeH I.ok) (fun z => by simp at z) e
 have keep : ∀ b o, s.heap.get? b = some o → h1.get? b = some o := fun b o e => (hsb.2 b (Nat.ne_of_lt (Heap.lt_size e))).trans (Heap.get?_push_of_some _ e)
 have cellK : ∀ {a : Addr} {v : Option Value}, s.heap.IsCell a v → h1.IsCell a v := fun ⟨o, e, d⟩ => ⟨o, keep _ _ e, d⟩
 refine ⟨block_ok c I hf hlt, rfl, I.bare, Un.kept keep, ⟨_, hns, fun i x v h1 h2 h3 => ?_⟩, fun x a e => ?_, I.hok.fresh (Nat.le_refl _), fun x a e => I.freeC x a (lk e), fun p hp => absurd (show p ∈ ([] : List (Addr × Obj)) from hp) (by simp), I.hok.kept keep, ?_⟩
 ·obtain ⟨j, hc, hs⟩ := capS_get h2
  have hN : N[i]? = some x := h1
  have hz : (cap.zip N)[i]? = some (some j, x) := by rw [List.getElem?_zip_eq_some]; exact ⟨hc, hN⟩
  have := List.all_eq_true.mp c.cap _ (List.mem_of_getElem? hz)
  simp only [Bool.and_eq_true, beq_iff_eq] at this
  obtain ⟨⟨e1, e2⟩, e3⟩ := this
  obtain ⟨m, hn, hl⟩ := I.loc
  have hk := isCl_iff e2
  obtain ⟨u, r, l⟩ := hl j x v e1 hs (by rcases hk with z | z; exact .inr (.inl z); exact .inr (.inr z))
  refine ⟨u, r, ?_⟩
  rcases l with ⟨l, _⟩ | ⟨_, a, ea, ca⟩
  ·rw [l] at hk; rcases hk with z | z <;> cases z
  ·have hk' := isCl_iff e3
   obtain ⟨a', ha'⟩ := closOf_has (cells := X.env.cells) (acc := []) (.inl (relabel_look hk' c.nc))
   have : a' = a := Option.some.inj ((lk ha').symm.trans ea)
   subst this
   exact .inr ⟨hk', a', ha', cellK ca⟩
 ·obtain ⟨v, hv⟩ := I.cell x a (lk e)
  exact ⟨v, cellK hv⟩
 ·unfold capS
  rw [List.length_map]
  exact c.len
end
end L2
set_option Elab.async false
set_option maxRecDepth 100000
namespace L2
open PySem PySem.Spec PyProof.Rows
theorem compLoop_go {prog : Program} {w : World} {A : Around} {R : Result → Shared → Prop} {s : Shared} {elt target iter : Expr} {ifs : List Expr} {scope : Scope} {pos : Pos} {it acc : Value} {env : Env} (J : Nat → Shared → Prop)
    (turn : ∀ n s, J n s → wpAny (model prog w) A (pyNext it) (fun r s₁ => match r with
      | none => R (.ok .next) s₁
      | some v => wpAny (model prog w) A (letOwnedTupleGo target it v) (fun _ s₀ => wpAny (model prog w) A (assign target env v) (fun _ s₂ =>
          wpAny (model prog w) A (forIn ifs true fun c r => if r = true then do let ok ← isTrue c env (eval c env); pure (ForInStep.yield ok) else pure (ForInStep.yield r)) (fun ok s₃ =>
            if ok = true then wpAny (model prog w) A (eval elt env) (fun x s₄ =>
              wpAny (model prog w) A (call (.builtin "list.append") [acc, x]) (fun _ s₅ => ∃ m, m < n ∧ J m s₅) (fun _ _ => False) s₄) (fun _ _ => False) s₃
            else ∃ m, m < n ∧ J m s₃) (fun _ _ => False) s₂) (fun _ _ => False) s₀) (fun _ _ => False) s₁) (fun _ _ => False) s)
    (n : Nat) (h : J n s) :
    codeAny (model prog w) A (.compLoop (.ListComp elt [⟨target, iter, ifs, 0⟩] scope pos) 0 it acc env) R s := by
  refine codeAny_loop rfl J (fun n s hI => ?_) n h
  show wpAny _ A ((compTurn (.ListComp elt [⟨target, iter, ifs, 0⟩] scope pos) 0 it acc env).onRaise (fun x => do noteFrame x env; theTreesLotGoes x)) _ _ s
  refine wpAny_noted ?_
  rw [compTurn_list]
  refine wpAny_bind (wpAny_standAt (wpAny_bind (wpAny_mono (turn n s hI) (fun r s₁ h₁ => ?_) fun _ _ h' => h'.elim)))
  cases r with
  | none => exact wpAny_pure h₁
  | some v =>
    refine wpAny_bind (wpAny_mono h₁ (fun _ s₀ h₀ => ?_) fun _ _ h' => h'.elim)
    refine wpAny_bind (wpAny_mono h₀ (fun _ s₂ h₂ => wpAny_bind (wpAny_mono h₂ (fun ok s₃ h₃ => ?_) fun _ _ h' => h'.elim)) fun _ _ h' => h'.elim)
    cases ok with
    | false => exact wpAny_pure ⟨rfl, h₃⟩
    | true =>
      exact wpAny_bind (wpAny_bind (wpAny_mono h₃ (fun x s₄ h₄ => wpAny_bind (wpAny_mono h₄ (fun _ s₅ h₅ => wpAny_pure (wpAny_pure ⟨rfl, h₅⟩)) fun _ _ h' => h'.elim)) fun _ _ h' => h'.elim))
def tComp (wi : TI) (g : TG) (tt : TT) (te : TE) (cap : List (Option Nat)) : TE := fun σ H Q => wi σ H fun J H1 => ∀ l, H1 l = none →
 ∃ (n : Nat) (Pv : Nat → List V → St → Hp → Prop), Pv 0 [] (capS cap σ) (upd H1 l (.lst [])) ∧
  (∀ i ys σ' H', i < n → Pv i ys σ' H' → J.go i H' ∧ ∀ x H2, J.yld i H' x H2 → g x σ' H2 fun σ3 H3 => tt σ3 H3 fun b H4 =>
   if b = true then te σ3 H4 fun y H5 => H5 l = some (.lst ys) ∧ ys.length < sizeLine ∧ Pv (i + 1) (ys ++ [y]) σ3 (upd H5 l (.lst (ys ++ [y]))) else Pv (i + 1) ys σ3 H4) ∧
  ∀ ys σ' H', Pv n ys σ' H' → J.stop n H' ∧ Q (.ref l) H'
section
variable {X : Cx} {elt tg iter : Expr} {ifs : List Expr} {scope : Scope} {pos : Pos} {N : List Str} {cap : List (Option Nat)} {wi : TI} {g : TG} {tt : TT} {te : TE}
theorem comp_run {U : Value → Addr → Shared → Prop} (hc : X.calm = true) (c : CompOk X scope N cap) (hi : PI X tg iter wi) (hg : ∀ s H fp, PG (X.block scope N s H fp) tg g) (ht : ∀ s H fp, PTs (X.block scope N s H fp) ifs tt)
    (he : ∀ s H fp, PE (X.block scope N s H fp) elt te)
    {pins : List (Addr × Obj)} {s : Shared} {σ : St} {H : Hp} {Q : VK} (I : Inv X pins σ H s) (h : tComp wi g tt te cap σ H Q)
    (hU : ∀ (l C : Addr) (H' : Hp) (s' : Shared), Inv X pins σ H' s' → (∃ m, s'.heap.Ns C m) → FpOk X pins H' C → Q (.ref l) H' → U (.ref l) C s')
    {RR : Value → Addr → Result → Shared → Prop} (hRR : ∀ a C s', U a C s' → RR a C (.ok .next) s') :
    wpAny (model X.prog X.w) X.A (eval iter X.env) (fun x s₁ => wpAny (model X.prog X.w) X.A (pyIter x) (fun it s₂ => wpAny (model X.prog X.w) X.A (newList []) (fun acc s₃ =>
      wpAny (model X.prog X.w) X.A (newFunctionEnv scope X.env.globals (closOf X.env.cells scope.names []) [] X.env.qual none .none (some X.env)) (fun cenv s₄ =>
        codeAny (model X.prog X.w) X.A (.compStart (.ListComp elt [⟨tg, iter, ifs, 0⟩] scope pos) 0 it acc { cenv with scope := relabel scope X.env }) (RR acc cenv.locals) s₄) X.xe s₃) X.xe s₂) X.xe s₁) X.xe s := by
  refine thn (hi pins s σ H _ I h) fun v s1 h1 => thn h1 fun itv s2 h2 => ?_
  obtain ⟨it, fp, tn, J, H2, e, I2, T, st2, f2, hq⟩ := h2
  subst e
  have hl : H2 s2.heap.objs.size = none := I2.hok.fresh (Nat.le_refl _)
  obtain ⟨n, Pv, p0, step, fin⟩ := hq _ hl
  refine wpAny_newObj_type ?_ (by show 0 ≤ sizeLine; exact Nat.zero_le _)
  have I3 : Inv X pins σ (upd H2 s2.heap.objs.size (.lst [])) { s2 with heap := s2.heap.push { cls := .type "list", data := .seq ([] : List Value).toArray } } :=
    I2.laid (t' := s2.toks) (fun b u e => Heap.get?_push_of_some _ e) (Nat.le_refl _) ⟨Nat.zero_le _, [], _, .nil, Heap.get?_push_size _ rfl⟩
  generalize hs3 : ({ s2 with heap := s2.heap.push { cls := .type "list", data := .seq ([] : List Value).toArray } } : Shared) = s3 at I3 ⊢
  have k23 : ∀ b o, s2.heap.get? b = some o → s3.heap.get? b = some o := fun b o e => by rw [← hs3]; exact Heap.get?_push_of_some _ e
  have fplt2 : ∀ b ∈ fp, b < s2.heap.objs.size := fun b hb => let ⟨o, e, _⟩ := T.obj _ _ st2 b hb; Heap.lt_size e
  have sz23 : s2.heap.objs.size ≤ s3.heap.objs.size := by rw [← hs3]; show _ ≤ (s2.heap.push _).objs.size; rw [Heap.size_push]; exact Nat.le_succ _
  have fplt : ∀ b ∈ fp, b < s3.heap.objs.size := fun b hb => Nat.lt_of_lt_of_le (fplt2 b hb) sz23
  have f3 : ∀ b ∈ fp, FpOk X pins (upd H2 s2.heap.objs.size (.lst [])) b := fun b hb => ⟨by rw [upd_ne (Nat.ne_of_lt (fplt2 b hb))]; exact (f2 b hb).1, (f2 b hb).2⟩
  have st3 : tn 0 s3.heap := T.keep _ _ _ st2 fun b hb o e => k23 b o e
  refine wpAny_newFunctionEnv c.nc (by intro y hy; simp at hy) (fun h4 hns hsb => ?_) c.kind
  have I4 := block_inv (t1 := s3.toks + ([] : List (Str × Value)).length) c I3 f3 fplt hns hsb
  have st4 : tn 0 h4 := T.keep _ _ _ st3 fun b hb o e => (hsb.2 b (Nat.ne_of_lt (fplt b hb))).trans (Heap.get?_push_of_some _ e)
  generalize hY : X.block scope N s3 (upd H2 s2.heap.objs.size (.lst [])) fp = Y at I4
  have yP : Y.prog = X.prog := by rw [← hY]; rfl
  have yw : Y.w = X.w := by rw [← hY]; rfl
  have yK : Y.K = X.K := by rw [← hY]; rfl
  have yA : Y.A = X.A := by rw [← hY]; rfl
  have yx : Y.xe = fun _ _ => False := by rw [← hY]; rfl
  have yc : Y.calm = true := by rw [← hY]; exact hc
  have yex : Y.ex = fp := by rw [← hY]; rfl
  have yfs : Y.fs = frs X.stack := by rw [← hY]; rfl
  have yH : Y.H₀ = upd H2 s2.heap.objs.size (.lst []) := by rw [← hY]; rfl
  have ys : Y.s₀ = s3 := by rw [← hY]; rfl
  have yC : Y.env.locals = s3.heap.objs.size := by rw [← hY]; rfl
  have yenv : compEnvC scope (closOf X.env.cells scope.names []) s3.heap.objs.size X.env = Y.env := by rw [← hY]; rfl
  have yg := hg s3 (upd H2 s2.heap.objs.size (.lst [])) fp
  have yt := ht s3 (upd H2 s2.heap.objs.size (.lst [])) fp
  have ye := he s3 (upd H2 s2.heap.objs.size (.lst [])) fp
  have ypn : Y.pn = [] := by rw [← hY]; rfl
  have ycl : Y.env.cells = closOf X.env.cells scope.names [] := by rw [← hY]; rfl
  rw [hY] at yg yt ye
  have lk : ∀ {y : Str} {a : Addr}, Y.env.cells.lookup y = some a → X.env.cells.lookup y = some a := fun e => by rw [ycl] at e; exact closOf_look (c.freeH I.ok) (fun z => by simp at z) e
  have stat : ∀ {H' : Hp}, (∀ b ∈ fp, H' b = none) → ∀ b ∈ fp, FpOk Y [] H' b := fun hn b hb => by
    refine ⟨hn b hb, by rw [yC]; exact Nat.ne_of_lt (fplt b hb), ?_, .inl (by rw [yex]; exact hb), fun x a e => (f2 b hb).2.2.2.2.1 x a (lk e), fun p hp => ?_⟩
    · rw [yfs]
      intro z
      rcases List.mem_cons.mp (I2.stkSub b z) with e | e
      · exact (f2 b hb).2.1 e
      · exact (f2 b hb).2.2.1 e
    · rw [ypn] at hp
      exact absurd hp (by simp)
  -- the end
  have done : ∀ {σ' : St} {H' : Hp} {s' : Shared}, Inv Y [] σ' H' s' → Q (.ref s2.heap.objs.size) H' → U (.ref s2.heap.objs.size) s3.heap.objs.size s' := fun {σ' H' s'} J' q => by
    have un := J'.base
    rw [yfs, yex, yH, ys] at un
    have J3 := I3.call' (s' := s') (ch := fp) (by rw [J'.os, ys]) un (by have := J'.hok; rw [yP, yw] at this; exact this) J'.bare fun b hb => ⟨(f3 b hb).2.2.2.1, (f3 b hb).2.1, (f3 b hb).2.2.2.2.1, (f3 b hb).2.2.2.2.2⟩
    have hCn : H' s3.heap.objs.size = none := by have := J'.free; rw [yC] at this; exact this
    have hne : s3.heap.objs.size ≠ X.env.locals := Nat.ne_of_gt I3.lt
    have hcl : ∀ x a, X.env.cells.lookup x = some a → a ≠ s3.heap.objs.size := fun x a e => let ⟨_, o, ho, _⟩ := I3.cell x a e; Nat.ne_of_lt (Heap.lt_size ho)
    have hpn : ∀ p ∈ X.pn ++ pins, p.1 ≠ s3.heap.objs.size := fun p hp => Nat.ne_of_lt (Heap.lt_size (I3.pin p hp).1)
    obtain ⟨m, hn, _⟩ := J'.loc
    rw [yC] at hn
    exact hU _ _ H' s' J3 ⟨m, hn⟩ ⟨hCn, hne, I3.nofs (Nat.le_refl _), .inr I3.sz, hcl, hpn⟩ q
  have loop : ∀ s5 : Shared, s5 = { s3 with heap := h4, toks := s3.toks + ([] : List (Str × Value)).length } →
      codeAny (model X.prog X.w) X.A (.compLoop (.ListComp elt [⟨tg, iter, ifs, 0⟩] scope pos) 0 (.ref it) (.ref s2.heap.objs.size) Y.env) (RR (.ref s2.heap.objs.size) s3.heap.objs.size) s5 := by
    rintro s5 rfl
    refine compLoop_go (fun k s' => ∃ i ys σ' H', Inv Y [] σ' H' s' ∧ tn i s'.heap ∧ (∀ b ∈ fp, H' b = none) ∧ i ≤ n ∧ k = n - i ∧ Pv i ys σ' H') ?_ n ⟨0, [], _, _, I4, st4, fun b hb => (f3 b hb).1, Nat.zero_le _, rfl, p0⟩
    rintro k s6 ⟨i, zs, σ6, H6, I6, st6, fr6, hin, rfl, pv6⟩
    by_cases hlt : i < n
    · obtain ⟨go, stp⟩ := step i zs σ6 H6 hlt pv6
      have q := T.item Y yP yw yK yc i [] s6 σ6 H6 (fun _ _ => False) I6 (stat fr6) st6 go
      rw [yA] at q
      refine thn q fun r s7 ⟨u, hr, h7⟩ => ?_
      subst hr
      refine thn h7 fun _ s8 ⟨x, H8, I8, r8, y8, st8, fr8⟩ => ?_
      have I8' := I8.pinned (stat fr8) (T.obj _ _ st8)
      have q := yg _ s8 σ6 H8 x u _ I8' r8 (stp x H8 y8)
      rw [yP, yw, yA, yx] at q
      refine thn q fun _ s9 ⟨σ9, H9, I9, q9⟩ => ?_
      have q := yt _ s9 σ9 H9 _ I9 q9
      rw [yP, yw, yA, yx] at q
      refine thn q fun b s10 ⟨H10, I10, q10⟩ => ?_
      have again : ∀ {ws : List V} {σ' : St} {H' : Hp} {s' : Shared}, Inv Y ([] ++ pinsAt fp s8.heap) σ' H' s' → Pv (i + 1) ws σ' H' → ∃ m, m < n - i ∧ ∃ i ys σ' H', Inv Y [] σ' H' s' ∧ tn i s'.heap ∧ (∀ b ∈ fp, H' b = none) ∧ i ≤ n ∧ m = n - i ∧ Pv i ys σ' H' := fun {ws σ' H' s'} J' p' => by
        refine ⟨n - (i + 1), by omega, i + 1, ws, σ', H', J'.unpinned, T.keep _ _ _ st8 fun b hb o e => (J'.pin (b, o) (List.mem_append_right _ (List.mem_append_right _ (mem_pinsAt hb e)))).1, fun b hb => ?_, hlt, rfl, p'⟩
        obtain ⟨o, e, d⟩ := T.obj _ _ st8 b hb
        exact (J'.pin (b, o) (List.mem_append_right _ (List.mem_append_right _ (mem_pinsAt hb e)))).2.1
      cases b with
      | false => exact again I10 q10
      | true =>
        have q10 := (if_pos (α := Prop) rfl).mp q10
        have q := ye _ s10 σ9 H10 _ I10 q10
        rw [yP, yw, yA, yx] at q
        refine iteT ?_
        refine thn q fun xv s11 ⟨y, H11, I11, r11, hl11, hz, p11⟩ => ?_
        have q := mt_append (X := Y) _ s11 σ9 H11 (.ref s2.heap.objs.size) [y] _ [xv] (fun _ H' => Pv (i + 1) (zs ++ [y]) σ9 H') I11 rfl (.cons r11 .nil) ⟨_, _, _, rfl, rfl, hl11, hz, p11⟩
        rw [yP, yw, yA, yx] at q
        exact thn q fun _ s12 ⟨_, H12, I12, _, p12⟩ => again I12 p12
    · have e : i = n := by omega
      subst e
      obtain ⟨stop, q⟩ := fin zs σ6 H6 pv6
      have qd := T.done Y yP yw yK yc i [] s6 σ6 H6 (fun _ _ => False) I6 (stat fr6) st6 stop
      rw [yA] at qd
      refine thn qd fun r s7 ⟨hr, I7⟩ => ?_
      subst hr
      exact hRR _ _ _ (done I7 q)
  show codeAny _ _ (.compStart _ 0 (.ref it) _ (compEnvC scope (closOf X.env.cells scope.names []) s3.heap.objs.size X.env)) (RR (.ref s2.heap.objs.size) s3.heap.objs.size) _
  rw [yenv]
  exact codeAny_compStart_list (loop _ rfl) (T.self X.A 0 _ _ _ st4 (loop _ rfl))
theorem FpOk.turned {pins : List (Addr × Obj)} {σ : St} {H : Hp} {s : Shared} {C : Addr} {h' : Heap} (f : FpOk X pins H C) (I : Inv X pins σ H s) (sb : Heap.SameBut C s.heap h') : Inv X pins σ H { s with heap := h' } :=
 I.turned (t' := s.toks) (fun b o hb e => (sb.2 b hb).trans e) f.1 f.2.1 f.2.2.2.1 f.2.2.2.2.1 f.2.2.2.2.2
theorem pe_comp (hc : X.calm = true) (c : CompOk X scope N cap) (hi : PI X tg iter wi) (hg : ∀ s H fp, PG (X.block scope N s H fp) tg g) (ht : ∀ s H fp, PTs (X.block scope N s H fp) ifs tt)
  (he : ∀ s H fp, PE (X.block scope N s H fp) elt te) (hs : ∀ x, foldedSetIterable iter X.env x = pure x := by intro _; rfl) : PE X (.ListComp elt [⟨tg, iter, ifs, 0⟩] scope pos) (tComp wi g tt te cap) := by
 intro pins s σ H Q I h
 rw [eval_ListComp]
 refine wpAny_comprehension_free rfl hs (closureFor_of (c.freeH I.ok)) c.kind c.lc ?_
 exact comp_run (U := fun a C s' => ∃ m, s'.heap.Ns C m ∧ ∀ h', Heap.SameBut C s'.heap h' → EP X pins σ Q a { s' with heap := h' }) hc c hi hg ht he I h
  (fun l C H' s' I' ⟨m, hn⟩ f q => ⟨m, hn, fun h' sb => ⟨.ref l, H', f.turned I' sb, rfl, q⟩⟩) fun a C s' u => u
theorem ps_setC {i : Nat} {x : Str} {pos' pos2 : Pos} (hN : X.N.Nodup) (hi' : X.N[i]? = some x) (hx : Loc X.env.scope x) (hc : X.calm = true) (c : CompOk X scope N cap) (hi : PI X tg iter wi) (hg : ∀ s H fp, PG (X.block scope N s H fp) tg g) (ht : ∀ s H fp, PTs (X.block scope N s H fp) ifs tt)
  (he : ∀ s H fp, PE (X.block scope N s H fp) elt te) (hsw : swapsWith (.ListComp elt [⟨tg, iter, ifs, 0⟩] scope pos) (some (.Name x pos')) pos2.line X.env = pure true) (hs : ∀ x, foldedSetIterable iter X.env x = pure x := by intro _; rfl)
  (hf : X.fn x = true ∨ X.env.scope.names.lookup x = some .local := by first | exact .inl rfl | exact .inr rfl | assumption) : PS X (.Assign [.Name x pos'] (.ListComp elt [⟨tg, iter, ifs, 0⟩] scope pos) pos2) (tAsg (tComp wi g tt te cap) (gName i)) := by
 intro pins s σ H D I h
 rw [exec_Assign_Name_used _ _ _ _ hsw]
 refine wpAny_bind (wpAny_standAt (wpAny_bind ?_))
 show wpAny _ X.A (do let _ ← comprehension (.ListComp elt [⟨tg, iter, ifs, 0⟩] scope pos) scope X.env _ (newList []) false (eval iter X.env) (some (assign (.Name x pos') X.env))) _ _ s
 refine wpAny_bind (wpAny_mono (wpAny_comprehension_free (Q := fun _ s' => SP X pins D .next s') rfl hs (closureFor_of (c.freeH I.ok)) c.kind c.lc ?_) (fun _ s' hq => wpAny_pure (wpAny_pure hq)) fun _ _ e => e)
 refine comp_run (U := fun a C s' => wpAny (model X.prog X.w) X.A (assign (.Name x pos') X.env a) (fun _ s'' => ∃ m, s''.heap.Ns C m ∧ ∀ h', Heap.SameBut C s''.heap h' → SP X pins D .next { s'' with heap := h' }) X.xe s') hc c hi hg ht he I h ?_ fun a C s' u => u
 intro l C H' s' I' hn f q
 obtain ⟨m, o, es, ep, ho, hd, r⟩ := hn
 have I2 : Inv X (pins ++ [(C, o)]) σ H' s' := I'.pins_of fun p hp => by
  rcases List.mem_append.mp hp with z | z
  ·exact I'.pin p (List.mem_append_right _ z)
  ·have e : p = (C, o) := by simpa using z
   subst e
   exact ⟨ho, f.1, f.2.1, f.2.2.1, fun v z => by rw [hd] at z; cases z⟩
 refine wpAny_assign_Name (store_ok I2 hN hi' hx (v := .ref l) rfl (fun s2 I3 => ?_) hf)
 have pc := (I3.pin (C, o) (List.mem_append_right _ (List.mem_append_right _ List.mem_cons_self))).1
 exact ⟨m, ⟨o, es, ep, pc, hd, r⟩, fun h' sb => ⟨_, H', f.turned I3.unpinned sb, q⟩⟩
end
end L2
set_option Elab.async false
set_option maxRecDepth 100000
namespace L2
open PySem PySem.Spec PyProof.Rows
section
variable {X : Cx}
theorem call_isinst : CallR X (.builtin "isinstance") (fun xs H Q => ∃ x n t b, xs = [x, .ty n] ∧ TyOf X.K H x t ∧ PySem.W.kitOne X.K t (.type n) = some b ∧ Q (.bl b) H) := by
 intro pins s σ H xs us Q I r h
 obtain ⟨x, n, t, b, rfl, ty, e, q⟩ := h
 obtain ⟨u, v, rfl, ru, rv⟩ := r.two
 cases (show v = Value.type n from rv)
 exact isinst_ok I ru ty e fun tk => ⟨.bl b, H, I.tok tk, rfl, q⟩
theorem in1_hd {A : Around} (h : A.handled = none) : A.in1.handled = none := h
theorem vals_getD {its : List Value} {bs : List Bool} (r : Vals (bs.map V.bl) its) {i : Nat} {v : Value} (e : its[i]? = some v) : v = .bool (bs.getD i false) := by
 have hl := r.length
 rw [List.length_map] at hl
 have hi : i < its.length := (List.getElem?_eq_some_iff.mp e).1
 have hb : (bs.map V.bl)[i]? = some (V.bl (bs.getD i false)) := by
  rw [List.getElem?_map, List.getD_eq_getElem?_getD, List.getElem?_eq_getElem (by omega)]
  rfl
 obtain ⟨u, hu, ru⟩ := r.get hb
 rw [e] at hu
 cases hu
 exact ru
theorem range_all (bs : List Bool) : (List.range bs.length).all (fun i => bs.getD i false) = bs.all id := by
 rw [Bool.eq_iff_iff]
 simp only [List.all_eq_true, List.mem_range, id]
 constructor
 ·intro h b hb
  obtain ⟨i, hi, rfl⟩ := List.mem_iff_getElem.mp hb
  have := h i hi
  rwa [List.getD_eq_getElem?_getD, List.getElem?_eq_getElem hi] at this
 ·intro h i hi
  rw [List.getD_eq_getElem?_getD, List.getElem?_eq_getElem hi]
  exact h _ (List.getElem_mem hi)
theorem call_all_bl (hc : X.calm = true) : CallR X (.builtin "all") (fun xs H Q => ∃ (p : Addr) (bs : List Bool), xs = [.ref p] ∧ SqL X.K H p (bs.map V.bl) ∧ Q (.bl (bs.all id)) H) := by
 intro pins s σ H xs us Q I r h
 obtain ⟨p, bs, rfl, hp, q⟩ := h
 obtain ⟨u, rfl, ru⟩ := r.one
 cases (show u = Value.ref p from ru)
 obtain ⟨its, rv, pl, hz⟩ := I.list hp
 have hh := in1_hd (I.ok.hd hc)
 have hlt : p < s.heap.objs.size := let ⟨o, ho, _⟩ := pl.isList; Heap.lt_size ho
 refine call_all_walk (wpAny_pyIter_list pl.isList ?_)
 refine ⟨s.heap.objs.size, _, _, _, _, _, fun i => bs.getD i false, rfl, Walks.list hh s.heap.objs.size p (Nat.ne_of_lt hlt) its.toArray, ⟨⟨_, Heap.get?_push_size _ rfl, rfl, rfl⟩, pl.isList.push _⟩, fun i v s' Q' E' hP hQ => ?_, fun h' tk hk => ?_⟩
 ·have := vals_getD rv (i := i) (v := v) (by simpa using hP)
  subst this
  exact wpAny_truthy_bool hQ
 ·have hl := rv.length
  rw [List.length_map] at hl
  refine ⟨.bl (bs.all id), H, I.kept (h' := h') (t' := tk) fun b o e => hk b o (by simpa using Nat.ne_of_lt (Heap.lt_size e)) (Heap.get?_push_of_some _ e), ?_, q⟩
  show _ = _
  rw [List.size_toArray, ← hl, range_all]
theorem vals_geti {its : List Value} {ns : List Int} (r : Vals (ns.map V.int) its) {i : Nat} {v : Value} (e : its[i]? = some v) : ∃ t, v = .int (ns.getD i 0) t := by
 have hl := r.length
 rw [List.length_map] at hl
 have hi : i < its.length := (List.getElem?_eq_some_iff.mp e).1
 have hb : (ns.map V.int)[i]? = some (V.int (ns.getD i 0)) := by
  rw [List.getElem?_map, List.getD_eq_getElem?_getD, List.getElem?_eq_getElem (by omega)]
  rfl
 obtain ⟨u, hu, ru⟩ := r.get hb
 rw [e] at hu
 cases hu
 exact ru
theorem preSum_take (ns : List Int) : ∀ k, k ≤ ns.length → preSum (fun i => ns.getD i 0) k = (ns.take k).sum
 | 0, _ => rfl
 | k + 1, h => by
  have ih := preSum_take ns k (by omega)
  rw [List.take_add_one, List.sum_append, ← ih, List.getElem?_eq_getElem (by omega)]
  show preSum _ k + ns.getD k 0 = _
  rw [List.getD_eq_getElem?_getD, List.getElem?_eq_getElem (by omega)]
  simp
def SmallSum (ns : List Int) : Prop := ∀ k, k ≤ ns.length → InLong ((ns.take k).sum) ∧ ∀ n ∈ ns, InLong n
theorem call_sum_seq (hc : X.calm = true) : CallR X (.builtin "sum") (fun xs H Q => ∃ (p : Addr) (ns : List Int), xs = [.ref p] ∧ (SqL X.K H p (ns.map V.int) ∨ SqT X.K H p (ns.map V.int)) ∧ SmallSum ns ∧ Q (.int ns.sum) H) := by
  intro pins s σ H xs us Q I r h
  obtain ⟨p, ns, rfl, hp, sm, q⟩ := h
  obtain ⟨u, rfl, ru⟩ := r.one
  cases (show u = Value.ref p from ru)
  have hh := in1_hd (I.ok.hd hc)
  have fin : ∀ {its : List Value} {h' : Heap} {tk : Nat} {t' : Tok}, Vals (ns.map V.int) its → (∀ b o, b ∉ [s.heap.objs.size] → s.heap.get? b = some o → h'.get? b = some o) →
      EP X pins σ Q (.int (preSum (fun i => ns.getD i 0) its.length) t') { s with heap := h', toks := tk } := fun {its h' tk t'} rv hk => by
    have hl := rv.length
    rw [List.length_map] at hl
    refine ⟨.int ns.sum, H, I.kept (h' := h') (t' := tk) fun b o e => hk b o (by simpa using Nat.ne_of_lt (Heap.lt_size e)) e, ⟨t', ?_⟩, q⟩
    rw [← hl, preSum_take _ _ (Nat.le_refl _), List.take_of_length_le (Nat.le_refl _)]
  have fit : ∀ {its : List Value}, Vals (ns.map V.int) its → ∀ j, j < its.length → InLong (ns.getD j 0) ∧ InLong (preSum (fun i => ns.getD i 0) (j + 1)) := fun {its} rv j hj => by
    have hl := rv.length
    rw [List.length_map] at hl
    refine ⟨(sm 0 (Nat.zero_le _)).2 _ ?_, ?_⟩
    · rw [List.getD_eq_getElem?_getD, List.getElem?_eq_getElem (by omega)]
      exact List.getElem_mem _
    · rw [preSum_take _ _ (by omega)]
      exact (sm _ (by omega)).1
  rcases hp with hp | hp
  · obtain ⟨its, rv, pl, hz⟩ := I.list hp
    have hlt : p < s.heap.objs.size := let ⟨o, ho, _⟩ := pl.isList; Heap.lt_size ho
    refine call_sum_walk (wpAny_pyIter_list pl.isList ?_)
    refine ⟨s.heap.objs.size, _, _, _, _, _, fun i => ns.getD i 0, rfl, Walks.list hh s.heap.objs.size p (Nat.ne_of_lt hlt) its.toArray, ⟨⟨_, Heap.get?_push_size _ rfl, rfl, rfl⟩, pl.isList.push _⟩, fun b hb => ?_, fun i v hP => vals_geti rv (by simpa using hP), fun j hj => fit rv j (by simpa using hj), fun h' tk t' hk => fin rv fun b o hb e => hk b o hb (Heap.get?_push_of_some _ e)⟩
    rw [Heap.size_push]
    rcases List.mem_cons.mp hb with e | e
    · rw [e]; exact Nat.lt_succ_self _
    · have : b = p := by simpa using e
      rw [this]; exact Nat.lt_succ_of_lt hlt
  · obtain ⟨its, rv, pl, hz⟩ := I.tuple hp
    have hlt : p < s.heap.objs.size := let ⟨o, ho, _⟩ := pl; Heap.lt_size ho
    refine call_sum_walk (wpAny_pyIter_tuple pl ?_)
    refine ⟨s.heap.objs.size, _, _, _, _, _, fun i => ns.getD i 0, rfl, Walks.tuple hh s.heap.objs.size p (Nat.ne_of_lt hlt) its.toArray, ⟨⟨_, Heap.get?_push_size _ rfl, rfl, rfl⟩, pl.push _⟩, fun b hb => ?_, fun i v hP => vals_geti rv (by simpa using hP), fun j hj => fit rv j (by simpa using hj), fun h' tk t' hk => fin rv fun b o hb e => hk b o hb (Heap.get?_push_of_some _ e)⟩
    rw [Heap.size_push]
    rcases List.mem_cons.mp hb with e | e
    · rw [e]; exact Nat.lt_succ_self _
    · have : b = p := by simpa using e
      rw [this]; exact Nat.lt_succ_of_lt hlt
end
end L2
set_option Elab.async false
set_option maxRecDepth 100000
namespace L2
open PySem PySem.Spec PyProof.Rows
mutual
def Rep (H : Hp) : PyData → V → Prop
 | .none, v => v = .non
 | .bool b, v => v = .bl b
 | .int i, v => v = .int i
 | .str x, v => v = .str x
 | .list ds, v => ∃ a xs, v = .ref a ∧ H a = some (.lst xs) ∧ RepL H ds xs
 | .tuple ds, v => ∃ a xs, v = .ref a ∧ H a = some (.tup xs) ∧ RepL H ds xs
 | .dict _, _ => False
def RepL (H : Hp) : List PyData → List V → Prop
 | [], xs => xs = []
 | d :: ds, xs => ∃ x r, xs = x :: r ∧ Rep H d x ∧ RepL H ds r
end
mutual
theorem Rep.mono {H H' : Hp} (s : Same H H') : ∀ {d : PyData} {v : V}, Rep H d v → Rep H' d v
 | .none, _, h => by simpa [Rep] using h
 | .bool _, _, h => by simpa [Rep] using h
 | .int _, _, h => by simpa [Rep] using h
 | .str _, _, h => by simpa [Rep] using h
 | .list ds, _, h => by
  simp only [Rep] at h ⊢
  obtain ⟨a, xs, e, h1, h2⟩ := h
  exact ⟨a, xs, e, s _ _ h1, RepL.mono s h2⟩
 | .tuple ds, _, h => by
  simp only [Rep] at h ⊢
  obtain ⟨a, xs, e, h1, h2⟩ := h
  exact ⟨a, xs, e, s _ _ h1, RepL.mono s h2⟩
 | .dict _, _, h => by simp only [Rep] at h
theorem RepL.mono {H H' : Hp} (s : Same H H') : ∀ {ds : List PyData} {xs : List V}, RepL H ds xs → RepL H' ds xs
 | [], _, h => by simpa [RepL] using h
 | d :: ds, _, h => by
  simp only [RepL] at h ⊢
  obtain ⟨x, r, e, h1, h2⟩ := h
  exact ⟨x, r, e, Rep.mono s h1, RepL.mono s h2⟩
end
section
variable {X : Cx} {pins : List (Addr × Obj)} {σ : St} {H : Hp} {s : Shared}
mutual
theorem Rep.reads (I : Inv X pins σ H s) : ∀ {d : PyData} {v : V} {u : Value}, Rep H d v → RelV v u → ∃ as, Reads s.heap u d as
 | .none, _, _, h, r => by simp only [Rep] at h; subst h; cases r; exact ⟨_, .none⟩
 | .bool _, _, _, h, r => by simp only [Rep] at h; subst h; cases r; exact ⟨_, .bool _⟩
 | .int _, _, _, h, r => by simp only [Rep] at h; subst h; obtain ⟨t, rfl⟩ := r; exact ⟨_, .int _ _⟩
 | .str _, _, _, h, r => by simp only [Rep] at h; subst h; obtain ⟨t, rfl⟩ := r; exact ⟨_, .str _ _⟩
 | .list ds, _, _, h, r => by
  simp only [Rep] at h
  obtain ⟨a, xs, rfl, h1, h2⟩ := h
  cases (show _ = Value.ref a from r)
  obtain ⟨its, rv, pl, _⟩ := I.list (SqL.of h1)
  obtain ⟨as, ra⟩ := RepL.reads I h2 rv
  obtain ⟨o, n, e, c, _, d⟩ := pl
  exact ⟨_, .list e c d (by simpa using ra)⟩
 | .tuple ds, _, _, h, r => by
  simp only [Rep] at h
  obtain ⟨a, xs, rfl, h1, h2⟩ := h
  cases (show _ = Value.ref a from r)
  obtain ⟨its, rv, pl, _⟩ := I.tuple (SqT.of h1)
  obtain ⟨as, ra⟩ := RepL.reads I h2 rv
  obtain ⟨o, e, c, n, d⟩ := pl
  exact ⟨_, .tuple e c d (by simpa using ra)⟩
 | .dict _, _, _, h, _ => by simp only [Rep] at h
theorem RepL.reads (I : Inv X pins σ H s) : ∀ {ds : List PyData} {xs : List V} {us : List Value}, RepL H ds xs → Vals xs us → ∃ as, ReadsAll s.heap us ds as
 | [], _, _, h, r => by simp only [RepL] at h; subst h; cases r; exact ⟨_, .nil⟩
 | d :: ds, _, _, h, r => by
  simp only [RepL] at h
  obtain ⟨x, t, rfl, h1, h2⟩ := h
  cases r with
  | cons r1 r2 =>
   obtain ⟨as, a1⟩ := Rep.reads I h1 r1
   obtain ⟨bs, a2⟩ := RepL.reads I h2 r2
   exact ⟨_, .cons a1 a2⟩
end
end
def rEqD (neg : Bool) : R2 := fun x y H Q => ∃ d e, Rep H d x ∧ Rep H e y ∧ SeqAt.shaped d = true ∧ SeqAt.shaped e = true ∧ Q (.bl (if neg then !PyData.eqv d e else PyData.eqv d e)) H
section
variable {X : Cx}
theorem op_eqD (hu : X.A.units + 64 < cLine) : OpR X (compareOp .Eq) (rEqD false) := by
 intro pins s σ H x y v u Q I rx ry h
 obtain ⟨d, e, h1, h2, s1, s2, q⟩ := h
 obtain ⟨as, r1⟩ := h1.reads I rx
 obtain ⟨bs, r2⟩ := h2.reads I ry
 exact eq_dataH r1 r2 s1 s2 hu ⟨.bl _, H, I, rfl, q⟩
theorem op_neD (hu : X.A.units + 64 < cLine) : OpR X (compareOp .NotEq) (rEqD true) := by
 intro pins s σ H x y v u Q I rx ry h
 obtain ⟨d, e, h1, h2, s1, s2, q⟩ := h
 obtain ⟨as, r1⟩ := h1.reads I rx
 obtain ⟨bs, r2⟩ := h2.reads I ry
 exact ne_dataH r1 r2 s1 s2 hu ⟨.bl _, H, I, rfl, q⟩
end
def tyD : PyData → String
 | .none => "NoneType"
 | .bool _ => "bool"
 | .int _ => "int"
 | .str _ => "str"
 | .list _ => "list"
 | .tuple _ => "tuple"
 | .dict _ => "dict"
theorem Rep.ty {K : PySem.W.Frag} {H : Hp} {d : PyData} {v : V} (h : Rep H d v) : TyOf K H v (.type (tyD d)) := by
 cases d with
 | none => simp only [Rep] at h; subst h; exact .non
 | bool b => simp only [Rep] at h; subst h; exact .bl b
 | int b => simp only [Rep] at h; subst h; exact .int b
 | str b => simp only [Rep] at h; subst h; exact .str b
 | list ds => simp only [Rep] at h; obtain ⟨a, xs, rfl, e, _⟩ := h; exact .lst e
 | tuple ds => simp only [Rep] at h; obtain ⟨a, xs, rfl, e, _⟩ := h; exact .tup e
 | dict _ => simp only [Rep] at h
def isD (T : String) : PyData → Bool
 | .none => T == "NoneType"
 | .bool _ => T == "bool" || T == "int"
 | .int _ => T == "int"
 | .str _ => T == "str"
 | .list _ => T == "list"
 | .tuple _ => T == "tuple"
 | .dict _ => T == "dict"
theorem kit_bool {K : PySem.W.Frag} (d : PyData) : PySem.W.kitOne K (.type (tyD d)) (.type "bool") = some (isD "bool" d) := by cases d <;> kernel_rfl
theorem kit_int {K : PySem.W.Frag} (d : PyData) : PySem.W.kitOne K (.type (tyD d)) (.type "int") = some (isD "int" d) := by cases d <;> kernel_rfl
theorem kit_str {K : PySem.W.Frag} (d : PyData) : PySem.W.kitOne K (.type (tyD d)) (.type "str") = some (isD "str" d) := by cases d <;> kernel_rfl
theorem kit_list {K : PySem.W.Frag} (d : PyData) : PySem.W.kitOne K (.type (tyD d)) (.type "list") = some (isD "list" d) := by cases d <;> kernel_rfl
theorem kit_tuple {K : PySem.W.Frag} (d : PyData) : PySem.W.kitOne K (.type (tyD d)) (.type "tuple") = some (isD "tuple" d) := by cases d <;> kernel_rfl
end L2
set_option Elab.async false
set_option maxRecDepth 100000
namespace L2
open PySem PySem.Spec PyProof.Rows
theorem Inv.turnedL {X : Cx} {pins : List (Addr × Obj)} {σ : St} {H : Hp} {s : Shared} {h' : Heap} {t' : Nat} {ch : List Addr} {T : Addr} {o : HO} (I : Inv X pins σ H s) (k : ∀ b o, b ∉ ch → s.heap.get? b = some o → h'.get? b = some o)
  (f : ∀ b ∈ ch, FpOk X pins H b) (there : ∀ b ∈ ch, ∃ o, h'.get? b = some o) (hT : s.heap.objs.size ≤ T) (new : ObjOk X.prog X.w (upd H T o) h' T o) : Inv X pins σ (upd H T o) { s with heap := h', toks := t' } := by
 have nit : ∀ b u, H b = some u → b ∉ ch := fun b u e z => by rw [(f b z).1] at e; cases e
 have ltT : ∀ b ob, s.heap.get? b = some ob → b ≠ T := fun b ob e => Nat.ne_of_lt (Nat.lt_of_lt_of_le (Heap.lt_size e) hT)
 have hTn : H T = none := I.hok.fresh hT
 have neT : ∀ b u, H b = some u → b ≠ T := fun b u e => ne_of_none e hTn
 refine I.step (g' := s.gens) (d' := s.drawn) (ch := ch) (fun b hb => ⟨(f b hb).2.2.2.1, (f b hb).2.1, (f b hb).2.2.2.2.1, (f b hb).2.2.2.2.2⟩) (fun b o _ _ hc e _ => k b o hc e) (fun b o _ _ hc e _ => ⟨o.slots, k b o hc e⟩) (fun b o _ e n => by rw [upd_ne (ltT b o e)]; exact n)
  (fun b o hc e => ⟨o, k b o hc e⟩) (fun b _ e => by rw [upd_ne (neT b _ e)]; exact e) (fun b _ _ e => by rw [upd_ne (neT b _ e)]; exact e) (fun b ps e => ⟨#[], by rw [upd_ne (neT b _ e), e]; simp⟩) (fun m hm => ?_) (fun b u e => ?_) I.bare
 ·obtain ⟨ob, es, ep, ho, r⟩ := hm
  exact ⟨ob, es, ep, k _ ob (fun z => (f _ z).2.1 rfl) ho, r⟩
 ·by_cases hb : b = T
  ·subst hb
   rw [upd_same] at e
   cases e
   exact new
  ·rw [upd_ne hb] at e
   refine (I.hok b u e).stay (fun c v hc q => k c v ?_ q) (fun q e' => ?_) fun a q e' => ?_
   ·rcases hc with z | z
    ·rw [z]; exact nit b u e
    ·exact nit c _ z
   ·rw [upd_ne (neT _ _ e')]; exact e'
   ·rw [upd_ne (neT _ _ e')]; exact e'
def Itz (K : PySem.W.Frag) (a b : Addr) : It :=
  ⟨fun i H => ∃ xs ys x y, SqL K H a xs ∧ SqL K H b ys ∧ xs[i]? = some x ∧ ys[i]? = some y,
   fun i H v H' => ∃ T, v = .ref T ∧ H T = none ∧ ∀ xs ys, SqL K H a xs → SqL K H b ys → ∃ x y, xs[i]? = some x ∧ ys[i]? = some y ∧ H' = upd H T (.tup [x, y]),
   fun i H => ∃ xs ys, SqL K H a xs ∧ SqL K H b ys ∧ (xs.length ≤ i ∨ ys.length ≤ i)⟩
theorem turn_zip {P : Program} {w : World} {K : PySem.W.Frag} {elts : List Expr} {kt : Nat} {pt : Pos} {a b n : Addr} (ha : a < n) (hb : b < n) :
    Turn P w K (.Tuple elts kt pt) (Itz K a b) [n + 4, n + 2, n + 3, n, n + 1] (n + 4) (fun i h => IsZip h (n + 4) (n + 2) (n + 3) .none ∧ IsPair h (n + 2) (.ref n) (.ref (n + 1)) ∧ (∃ x y, IsPair h (n + 3) x y) ∧ h.IsListIter n a i ∧ h.IsListIter (n + 1) b i) where
  mem := by simp
  obj := fun i h st c hc => by
    obtain ⟨z1, z2, ⟨x, y, z3⟩, ⟨o4, e4, c4, d4⟩, ⟨o5, e5, c5, d5⟩⟩ := st
    simp only [List.mem_cons, List.not_mem_nil, or_false] at hc
    rcases hc with rfl | rfl | rfl | rfl | rfl
    · exact ⟨_, z1, fun v z => by cases z⟩
    · exact ⟨_, z2, fun v z => by cases z⟩
    · exact ⟨_, z3, fun v z => by cases z⟩
    · exact ⟨_, e4, fun v z => by rw [d4] at z; cases z⟩
    · exact ⟨_, e5, fun v z => by rw [d5] at z; cases z⟩
  keep := fun i h h' st k => by
    obtain ⟨z1, z2, ⟨x, y, z3⟩, z4, z5⟩ := st
    exact ⟨k _ (by simp) _ z1, k _ (by simp) _ z2, ⟨x, y, k _ (by simp) _ z3⟩, z4.at fun o e => k _ (by simp) o e, z5.at fun o e => k _ (by simp) o e⟩
  item := by
    intro X hP hw hK hc i pins s σ H E I hf st hg
    subst hP hw hK
    obtain ⟨xs, ys, x, y, hqa, hqb, hx, hy⟩ := hg
    obtain ⟨its, rv, p, hz⟩ := I.list hqa
    obtain ⟨jts, rw', p', hz'⟩ := I.list hqb
    obtain ⟨u, hu, ru⟩ := rv.get hx
    obtain ⟨u', hu', ru'⟩ := rw'.get hy
    obtain ⟨z1, z2, ⟨x0, y0, z3⟩, z4, z5⟩ := st
    have D : ZipApart (n + 4) (n + 2) (n + 3) n (n + 1) a b := PyProof.Rows.zipApart_new ha hb
    have ltz : n + 4 < s.heap.objs.size := Heap.lt_size z1
    refine wpAny_pyNext_zip_item D z1 z2 z3 z4 z5 p.isList p'.isList (x := u) (y := u') (by simpa using hu) (by simpa using hu') fun h' a1 a2 a3 a4 a5 a6 hk => ?_
    refine ⟨_, rfl, wpAny_letOwnedTupleGo_zip (s := { s with heap := h' }) a1 fun h2 b1 hs => ?_⟩
    have neT : ∀ {c : Addr}, c ≤ n + 4 → c ≠ s.heap.objs.size := fun h => Nat.ne_of_lt (Nat.lt_of_le_of_lt h ltz)
    have kk : ∀ c o, c ∉ [n + 4, n + 3, n, n + 1] → s.heap.get? c = some o → h2.get? c = some o := fun c o hc e => by
      simp only [List.mem_cons, List.not_mem_nil, or_false, not_or] at hc
      exact (hs.2 c hc.1).trans (hk c o hc.1 hc.2.1 hc.2.2.1 hc.2.2.2 e)
    have q2 : h2.get? (n + 2) = _ := kk _ _ (by simp only [List.mem_cons, List.not_mem_nil, or_false, not_or]; exact ⟨D.TIz, D.TITO, D.TIi1, D.TIi2⟩) z2
    have q3 : h2.get? (n + 3) = _ := (hs.2 _ D.TOz).trans a2
    obtain ⟨o4, e4, c4⟩ := a3
    obtain ⟨o5, e5, c5⟩ := a4
    have q4 : h2.get? n = _ := (hs.2 _ D.i1z).trans e4
    have q5 : h2.get? (n + 1) = _ := (hs.2 _ D.i2z).trans e5
    have qT : h2.get? s.heap.objs.size = _ := (hs.2 _ (Ne.symm (neT (Nat.le_refl _)))).trans a5
    have sub : ∀ c ∈ [n + 4, n + 3, n, n + 1], c ∈ [n + 4, n + 2, n + 3, n, n + 1] := fun c hc => by
      simp only [List.mem_cons, List.not_mem_nil, or_false] at hc ⊢
      rcases hc with e | e | e | e
      · exact .inl e
      · exact .inr (.inr (.inl e))
      · exact .inr (.inr (.inr (.inl e)))
      · exact .inr (.inr (.inr (.inr e)))
    have I1 : Inv X pins σ (upd H s.heap.objs.size (.tup [x, y])) { s with heap := h2, toks := s.toks } := I.turnedL (ch := [n + 4, n + 3, n, n + 1]) kk (fun c hc => hf c (sub c hc)) (fun c hc => by
        simp only [List.mem_cons, List.not_mem_nil, or_false] at hc
        rcases hc with rfl | rfl | rfl | rfl
        · exact ⟨_, b1⟩
        · exact ⟨_, q3⟩
        · exact ⟨_, q4⟩
        · exact ⟨_, q5⟩) (Nat.le_refl _) ⟨by show 2 ≤ sizeLine; decide, [u, u'], .cons ru (.cons ru' .nil), _, qT, rfl, _, rfl⟩
    refine ⟨.ref s.heap.objs.size, _, I1, rfl, ⟨_, rfl, I.hok.fresh (Nat.le_refl _), fun vs ws hv hw => ?_⟩, ⟨b1, q2, ⟨_, _, q3⟩, ⟨_, q4, c4⟩, ⟨_, q5, c5⟩⟩, fun c hc => ?_⟩
    · rw [I.list_inj hv hqa, I.list_inj hw hqb]
      exact ⟨x, y, hx, hy, rfl⟩
    · have hle : c ≤ n + 4 := by
        simp only [List.mem_cons, List.not_mem_nil, or_false] at hc
        rcases hc with rfl | rfl | rfl | rfl | rfl
        · exact Nat.le_refl _
        · exact Nat.le_add_right (n + 2) 2
        · exact Nat.le_add_right (n + 3) 1
        · exact Nat.le_add_right _ 4
        · exact Nat.le_add_right (n + 1) 3
      rw [upd_ne (neT hle)]
      exact (hf c hc).1
  done := by
    intro X hP hw hK hc i pins s σ H E I hf st hg
    subst hP hw hK
    obtain ⟨xs, ys, hqa, hqb, hl⟩ := hg
    obtain ⟨its, rv, p, hz⟩ := I.list hqa
    obtain ⟨jts, rw', p', hz'⟩ := I.list hqb
    obtain ⟨z1, z2, ⟨x0, y0, z3⟩, z4, z5⟩ := st
    have D : ZipApart (n + 4) (n + 2) (n + 3) n (n + 1) a b := PyProof.Rows.zipApart_new ha hb
    have l1 := rv.length
    have l2 := rw'.length
    refine wpAny_pyNext_zip_end (I.ok.hd hc) D z1 z2 z3 z4 z5 p.isList p'.isList ?_ fun h' hk => ⟨rfl, ?_⟩
    · rcases hl with h | h
      · exact .inl (by simp; omega)
      · exact .inr (by simp; omega)
    · have fp : ∀ c ∈ [n + 4, n + 3, n, n + 1], FpOk X pins H c := fun c hc => hf c (by
        simp only [List.mem_cons, List.not_mem_nil, or_false] at hc ⊢
        rcases hc with e | e | e | e
        · exact .inl e
        · exact .inr (.inr (.inl e))
        · exact .inr (.inr (.inr (.inl e)))
        · exact .inr (.inr (.inr (.inr e))))
      have kk : ∀ c o, c ∉ [n + 4, n + 3, n, n + 1] → s.heap.get? c = some o → h'.get? c = some o := fun c o hc e => by
        simp only [List.mem_cons, List.not_mem_nil, or_false, not_or] at hc
        exact hk c o hc.1 hc.2.1 hc.2.2.1 hc.2.2.2 e
      have nit : ∀ c u, H c = some u → c ∉ [n + 4, n + 3, n, n + 1] := fun c u e z => by rw [(fp c z).1] at e; cases e
      refine I.step (g' := s.gens) (d' := s.drawn) (t' := s.toks) (ch := [n + 4, n + 3, n, n + 1]) (fun c hc => ⟨(fp c hc).2.2.2.1, (fp c hc).2.1, (fp c hc).2.2.2.2.1, (fp c hc).2.2.2.2.2⟩) (fun c o _ _ hc e _ => kk c o hc e) (fun c o _ _ hc e _ => ⟨o.slots, kk c o hc e⟩) (fun _ _ _ _ n => n)
        (fun c o hc e => ⟨o, kk c o hc e⟩) (fun _ _ e => e) (fun _ _ _ e => e) (fun _ ps e => ⟨#[], by rw [e]; simp⟩) (fun m hm => ?_) (fun c u e => ?_) I.bare
      · obtain ⟨ob, es, ep, ho, r⟩ := hm
        exact ⟨ob, es, ep, kk _ ob (fun z => (fp _ z).2.1 rfl) ho, r⟩
      · refine (I.hok c u e).stay (fun d v hd q => kk d v ?_ q) (fun _ e' => e') fun _ _ e' => e'
        rcases hd with z | z
        · rw [z]; exact nit c u e
        · exact nit d _ z
  self := fun _ _ _ _ _ st h => wpAny_pyIter_zip st.1 h
section
variable {X : Cx} {elts : List Expr} {kt : Nat} {pt : Pos}
end
end L2
set_option Elab.async false
set_option maxRecDepth 100000
namespace L2
open PySem PySem.Spec PyProof.Rows
section
variable {σ : St} {H : Hp} {Q : VK} {D : Ends} {QB : Bool → Hp → Prop} {QA : List V → Hp → Prop}
theorem rd_next (h : D.nx σ H) : tNext D σ H := h
theorem rd_asg {te : TE} {g : TG} (h : te σ H fun x H1 => g x σ H1 D.nx) : tAsg te g D σ H := h
theorem rd_name {i : Nat} {v : V} {Q : St → Hp → Prop} (h : Q (σ.set i (some v)) H) : gName i v σ H Q := h
theorem rd_ret {te : TE} (h : te σ H D.rt) : tRet te D σ H := h
theorem rd_drop {te : TE} (h : te σ H fun _ H1 => D.nx σ H1) : tDrop te D σ H := h
theorem rd_ifS {c : TT} {t u : TS} (h : c σ H fun b H1 => if b = true then t D σ H1 else u D σ H1) : tIfS c t u D σ H := h
theorem rd_tB {t : TE} (h : t σ H fun x H1 => ∃ c, x = .bl c ∧ QB c H1) : tB t σ H QB := h
theorem rd_tTest {t : TE} (h : t σ H fun x H1 => ∃ c, x = .bl c ∧ QB c H1) : tTest t σ H QB := h
theorem rd_exbl {b : Bool} {P : Bool → Prop} (h : P b) : ∃ c, V.bl b = V.bl c ∧ P c := ⟨b, rfl, h⟩
theorem rd_exref {a : Addr} {P : Addr → Prop} (h : P a) : ∃ c, V.ref a = V.ref c ∧ P c := ⟨a, rfl, h⟩
theorem rd_exint {i : Int} {P : Int → Prop} (h : P i) : ∃ c, V.int i = V.int c ∧ P c := ⟨i, rfl, h⟩
theorem rd_var {i : Nat} {v : V} (e : σ[i]? = some (some v)) (h : Q v H) : tVar i σ H Q := ⟨v, e, h⟩
theorem rd_c {v : V} (h : Q v H) : tC v σ H Q := h
theorem rd_op {r : R2} {ta tb : TE} (h : ta σ H fun x H1 => tb σ H1 fun y H2 => r x y H2 Q) : tOp r ta tb σ H Q := h
theorem rd_un {r : V → Hp → VK → Prop} {ta : TE} (h : ta σ H fun x H1 => r x H1 Q) : tUn r ta σ H Q := h
theorem rd_andV {ta tb : TE} (h : ta σ H fun x H1 => ∃ c, x = .bl c ∧ if c = true then tb σ H1 Q else Q (.bl false) H1) : tAndV ta tb σ H Q := h
theorem rd_notV {ta : TE} (h : ta σ H fun x H1 => ∃ c, x = .bl c ∧ Q (.bl (!c)) H1) : tNotV ta σ H Q := h
theorem rd_and {t u : TT} (h : t σ H fun c H1 => if c = true then u σ H1 QB else QB false H1) : tAnd t u σ H QB := h
theorem rd_or {t u : TT} (h : t σ H fun c H1 => if c = true then QB true H1 else u σ H1 QB) : tOr t u σ H QB := h
theorem rd_not {t : TT} (h : t σ H fun c H1 => QB (!c) H1) : tNot t σ H QB := h
theorem rd_true (h : QB true H) : tTrue σ H QB := h
theorem rd_I0 {g : Int → Int → V} {i j : Int} (h : Q (g i j) H) : rI0 g (.int i) (.int j) H Q := ⟨i, j, rfl, rfl, h⟩
theorem rd_I {C : Int → Int → Prop} {g : Int → Int → V} {i j : Int} (c : C i j) (h : Q (g i j) H) : rI C g (.int i) (.int j) H Q := ⟨i, j, rfl, rfl, c, h⟩
theorem rd_U {g : Int → V} {i : Int} (h : Q (g i) H) : rU g (.int i) H Q := ⟨i, rfl, h⟩
theorem rd_eqI {i j : Int} (h : Q (.bl (decide (i = j))) H) : rEq (.int i) (.int j) H Q := ⟨rfl, by
 rw [dec_int, Int.instDecidableEq.eq_def] <;> first | exact h | (simpa [dec_int] using h)⟩
theorem rd_neI {i j : Int} (h : Q (.bl (!decide (i = j))) H) : rNe (.int i) (.int j) H Q := ⟨rfl, by
 have e : decide (V.int i = V.int j) = decide (i = j) := by by_cases z : i = j <;> simp [z]
 rw [e]; exact h⟩
theorem rd_eqS {i j : Str} (h : Q (.bl (decide (i = j))) H) : rEq (.str i) (.str j) H Q := ⟨rfl, by
 have e : decide (V.str i = V.str j) = decide (i = j) := by by_cases z : i = j <;> simp [z]
 rw [e]; exact h⟩
theorem rd_eqB {i j : Bool} (h : Q (.bl (decide (i = j))) H) : rEq (.bl i) (.bl j) H Q := ⟨rfl, by
 have e : decide (V.bl i = V.bl j) = decide (i = j) := by by_cases z : i = j <;> simp [z]
 rw [e]; exact h⟩
theorem rd_neB {i j : Bool} (h : Q (.bl (!decide (i = j))) H) : rNe (.bl i) (.bl j) H Q := ⟨rfl, by
 have e : decide (V.bl i = V.bl j) = decide (i = j) := by by_cases z : i = j <;> simp [z]
 rw [e]; exact h⟩
theorem rd_ixL {K : PySem.W.Frag} {p : Addr} {xs : List V} {i : Int} {v : V} (h : SqL K H p xs) (e : atI xs i = some v) (q : Q v H) : rIxL K (.ref p) (.int i) H Q := ⟨p, xs, i, v, rfl, rfl, h, e, q⟩
theorem rd_ixT {K : PySem.W.Frag} {p : Addr} {xs : List V} {i : Int} {v : V} (h : SqT K H p xs) (e : atI xs i = some v) (q : Q v H) : rIxT K (.ref p) (.int i) H Q := ⟨p, xs, i, v, rfl, rfl, h, e, q⟩
theorem rd_chain {r r' : R2} {ta tb tc : TE} (h : ta σ H fun x H1 => tb σ H1 fun y H2 => r x y H2 fun z H3 => ∃ k, z = .bl k ∧ if k = true then tc σ H3 fun y' H4 => r' y y' H4 Q else Q (.bl false) H3) : tChain r r' ta tb tc σ H Q := h
theorem rd_call {sp : Sp} {dvs : List V} {E : XK} {t : TA} (h : t σ H fun vs H1 => sp (vs ++ dvs) H1 Q E) : tCall sp dvs E t σ H Q := h
theorem rd_nil (h : QA [] H) : tNil σ H QA := h
theorem rd_cons {ta : TE} {tr : TA} (h : ta σ H fun x H1 => tr σ H1 fun xs H2 => QA (x :: xs) H2) : tCons ta tr σ H QA := h
theorem rd_CB {r : List V → Hp → VK → Prop} {t : TA} (h : t σ H fun vs H1 => r vs H1 Q) : tCB r t σ H Q := h
theorem rd_tup {t : TA} (h : t σ H fun xs H1 => xs.length ≤ sizeLine ∧ ∀ p, H1 p = none → Q (.ref p) (upd H1 p (.tup xs))) : tTup t σ H Q := h
theorem rd_lst {t : TA} (h : t σ H fun xs H1 => xs.length ≤ sizeLine ∧ ∀ p, H1 p = none → Q (.ref p) (upd H1 p (.lst xs))) : tLst t σ H Q := h
end
end L2
set_option Elab.async false
set_option maxRecDepth 100000
namespace L2
open PySem PySem.Spec PyProof.Rows
theorem kit_ii {K : PySem.W.Frag} : PySem.W.kitOne K (.type "int") (.type "int") = some true := by kernel_rfl
theorem kit_ib {K : PySem.W.Frag} : PySem.W.kitOne K (.type "int") (.type "bool") = some false := by kernel_rfl
section
variable {X : Cx} {K : PySem.W.Frag} {H : Hp} {Q : VK} {σ : St}
def rIsi (K : PySem.W.Frag) : List V → Hp → VK → Prop := fun xs H Q => ∃ x n t b, xs = [x, .ty n] ∧ TyOf K H x t ∧ PySem.W.kitOne K t (.type n) = some b ∧ Q (.bl b) H
theorem cI_isinst : CallR X (.builtin "isinstance") (rIsi X.K) := call_isinst
theorem rd_isi {x : V} {n : String} {t : Value} {b : Bool} (ty : TyOf K H x t) (e : PySem.W.kitOne K t (.type n) = some b) (h : Q (.bl b) H) : rIsi K [x, .ty n] H Q := ⟨x, n, t, b, rfl, ty, e, h⟩
def rLen (K : PySem.W.Frag) : List V → Hp → VK → Prop := fun xs H Q => ∃ p ys, xs = [.ref p] ∧ (SqL K H p ys ∨ SqT K H p ys) ∧ Q (.int ys.length) H
theorem cI_len : CallR X (.builtin "len") (rLen X.K) := call_len_seq
theorem rd_lenL {p : Addr} {ys : List V} (h : H p = some (.lst ys)) (q : Q (.int ys.length) H) : rLen K [.ref p] H Q := ⟨p, ys, rfl, .inl (SqL.of h), q⟩
theorem rd_lenT {p : Addr} {ys : List V} (h : H p = some (.tup ys)) (q : Q (.int ys.length) H) : rLen K [.ref p] H Q := ⟨p, ys, rfl, .inr (SqT.of h), q⟩
def rAll (K : PySem.W.Frag) : List V → Hp → VK → Prop := fun xs H Q => ∃ (p : Addr) (bs : List Bool), xs = [.ref p] ∧ SqL K H p (bs.map V.bl) ∧ Q (.bl (bs.all id)) H
theorem cI_all (hc : X.calm = true) : CallR X (.builtin "all") (rAll X.K) := call_all_bl hc
theorem rd_all {p : Addr} {bs : List Bool} (h : H p = some (.lst (bs.map V.bl))) (q : Q (.bl (bs.all id)) H) : rAll K [.ref p] H Q := ⟨p, bs, rfl, SqL.of h, q⟩
def rSum (K : PySem.W.Frag) : List V → Hp → VK → Prop := fun xs H Q => ∃ (p : Addr) (ns : List Int), xs = [.ref p] ∧ (SqL K H p (ns.map V.int) ∨ SqT K H p (ns.map V.int)) ∧ SmallSum ns ∧ Q (.int ns.sum) H
theorem cI_sum (hc : X.calm = true) : CallR X (.builtin "sum") (rSum X.K) := call_sum_seq hc
theorem rd_sumT {p : Addr} {ns : List Int} (h : H p = some (.tup (ns.map V.int))) (s : SmallSum ns) (q : Q (.int ns.sum) H) : rSum K [.ref p] H Q := ⟨p, ns, rfl, .inr (SqT.of h), s, q⟩
theorem rd_sumL {p : Addr} {ns : List Int} (h : H p = some (.lst (ns.map V.int))) (s : SmallSum ns) (q : Q (.int ns.sum) H) : rSum K [.ref p] H Q := ⟨p, ns, rfl, .inl (SqL.of h), s, q⟩
def rAbs : List V → Hp → VK → Prop := fun xs H Q => ∃ i, xs = [.int i] ∧ Q (.int (if i < 0 then -i else i)) H
theorem cI_abs : CallR X (.builtin "abs") rAbs := call_abs
theorem rd_abs {i : Int} (q : Q (.int (if i < 0 then -i else i)) H) : rAbs [.int i] H Q := ⟨i, rfl, q⟩
def rList (K : PySem.W.Frag) : List V → Hp → VK → Prop := fun xs H Q => ∃ p ys, xs = [.ref p] ∧ (SqL K H p ys ∨ SqT K H p ys) ∧ ∀ l, H l = none → Q (.ref l) (upd H l (.lst ys))
theorem cI_list : CallR X (.type "list") (rList X.K) := call_list_of
theorem rd_listL {p : Addr} {ys : List V} (h : H p = some (.lst ys)) (q : ∀ l, H l = none → Q (.ref l) (upd H l (.lst ys))) : rList K [.ref p] H Q := ⟨p, ys, rfl, .inl (SqL.of h), q⟩
theorem rd_listT {p : Addr} {ys : List V} (h : H p = some (.tup ys)) (q : ∀ l, H l = none → Q (.ref l) (upd H l (.lst ys))) : rList K [.ref p] H Q := ⟨p, ys, rfl, .inr (SqT.of h), q⟩
def rTuple (K : PySem.W.Frag) : List V → Hp → VK → Prop := fun xs H Q => ∃ p ys, xs = [.ref p] ∧ ((SqL K H p ys ∧ ∀ l, H l = none → Q (.ref l) (upd H l (.tup ys))) ∨ (SqT K H p ys ∧ Q (.ref p) H))
theorem cI_tuple : CallR X (.type "tuple") (rTuple X.K) := call_tuple_of
theorem rd_tupleL {p : Addr} {ys : List V} (h : H p = some (.lst ys)) (q : ∀ l, H l = none → Q (.ref l) (upd H l (.tup ys))) : rTuple K [.ref p] H Q := ⟨p, ys, rfl, .inl ⟨SqL.of h, q⟩⟩
def rInt1 : List V → Hp → VK → Prop := fun xs H Q => (∃ i, xs = [.int i] ∧ Q (.int i) H) ∨ ∃ k, xs = [.bl k] ∧ Q (.int (if k then 1 else 0)) H
theorem cI_int : CallR X (.type "int") rInt1 := call_int1
theorem rd_intB {b : Bool} (q : Q (.int (if b then 1 else 0)) H) : rInt1 [.bl b] H Q := .inr ⟨b, rfl, q⟩
def rFld (K : PySem.W.Frag) (f : Str) : V → Hp → VK → Prop := fun x H1 Q => ∃ a C dx fs v, x = .ref a ∧ H1 a = some (.ins C dx fs) ∧ Cls K C ∧ NoAttr K C f ∧ fs.lookup f = some v ∧ Q v H1
theorem rd_fld {ta : TE} {f : Str} (h : ta σ H fun x H1 => rFld K f x H1 Q) : tFld K ta f σ H Q := h
theorem rd_fldv {f : Str} {a C dx : Addr} {fs : List (Str × V)} {v : V} (h : H a = some (.ins C dx fs)) (c : Cls K C) (n : NoAttr K C f) (l : fs.lookup f = some v) (q : Q v H) : rFld K f (.ref a) H Q := ⟨a, C, dx, fs, v, rfl, h, c, n, l, q⟩
def rMeth (C : Addr) (m : Str) : V → Hp → Prop → Prop := fun x H1 q => ∃ a dx fs, x = .ref a ∧ H1 a = some (.ins C dx fs) ∧ fs.lookup m = none ∧ q
theorem rd_meth {C : Addr} {m : Str} {sp : Sp} {dvs : List V} {E : XK} {ta : TE} {t : TA} (h : ta σ H fun x H1 => rMeth C m x H1 (t σ H1 fun vs H2 => sp (x :: (vs ++ dvs)) H2 Q E)) : tMeth C m sp dvs E ta t σ H Q := h
theorem rd_methv {C a dx : Addr} {m : Str} {fs : List (Str × V)} {q : Prop} (h : H a = some (.ins C dx fs)) (l : fs.lookup m = none) (hq : q) : rMeth C m (.ref a) H q := ⟨a, dx, fs, rfl, h, l, hq⟩
theorem rd_make {C : Addr} {sp : Sp} {dvs : List V} {E : XK} {t : TA} (h : t σ H fun vs H1 => ∀ x dx, H1 x = none → H1 dx = none → dx ≠ x →
 sp (.ref x :: (vs ++ dvs)) (upd (upd H1 dx (.own x)) x (.ins C dx [])) (fun v H2 => v = .non ∧ Q (.ref x) H2) E) : tMake C sp dvs E t σ H Q := h
def rBM (K : PySem.W.Frag) (T : String) : V → Hp → Prop → Prop := fun x H1 q => tyV K T x H1 ∧ q
theorem rd_bm {T : String} {r : V → List V → Hp → VK → Prop} {to : TE} {t : TA} (h : to σ H fun x H1 => rBM K T x H1 (t σ H1 fun xs H2 => r x xs H2 Q)) : tBM K T r to t σ H Q := h
theorem rd_bmL {l : Addr} {xs : List V} {q : Prop} (h : H l = some (.lst xs)) (hq : q) : rBM K "list" (.ref l) H q := ⟨.inl ⟨rfl, _, SqL.of h⟩, hq⟩
theorem rd_append {l : Addr} {xs : List V} {y : V} (h : H l = some (.lst xs)) (z : xs.length < sizeLine) (q : Q .non (upd H l (.lst (xs ++ [y])))) : rAppend (.ref l) [y] H Q := ⟨l, xs, y, rfl, rfl, h, z, q⟩
theorem rd_sl {r : V → Option Int → Option Int → Hp → VK → Prop} {te : TE} {tl th : TO} (h : te σ H fun x H1 => tl σ H1 fun l H2 => th σ H2 fun u H3 => r x l u H3 Q) : tSl r te tl th σ H Q := h
theorem rd_nopart {Q : Option Int → Hp → Prop} (h : Q none H) : tNoPart σ H Q := h
theorem rd_part {t : TE} {Q : Option Int → Hp → Prop} (h : t σ H fun x H1 => ∃ i, x = .int i ∧ Q (some i) H1) : tPart t σ H Q := h
theorem rd_slL {a : Addr} {xs : List V} {lo hi : Option Int} (h : H a = some (.lst xs)) (q : ∀ p, H p = none → Q (.ref p) (upd H p (.lst (cutV xs lo hi)))) : rSlL K (.ref a) lo hi H Q := ⟨a, xs, rfl, SqL.of h, q⟩
def ForW (J : It) (g : TG) (tb : TS) (D : Ends) (σ : St) (H1 : Hp) : Prop := ∃ W : Nat → Nat → St → Hp → Prop, (∃ m, W 0 m σ H1) ∧ ∀ i m σ H, W i m σ H →
 (J.stop i H ∧ D.nx σ H) ∨ (J.go i H ∧ ∃ N : St → Hp → Prop, (∀ σ' H', N σ' H' → ∃ m', m' < m ∧ W (i + 1) m' σ' H') ∧ ∀ x H', J.yld i H x H' → g x σ H' fun σ2 H2 => tb { D with nx := N, ct := N, bk := D.nx } σ2 H2)
theorem rd_for {wi : TI} {g : TG} {tb : TS} {D : Ends} (h : wi σ H fun J H1 => ForW J g tb D σ H1) : tFor wi g tb D σ H := h
theorem forW_list {a : Addr} {xs : List V} {g : TG} {tb : TS} {D : Ends} (Pv : Nat → St → Hp → Prop) (h0 : Pv 0 σ H) (hl : ∀ i σ H, i ≤ xs.length → Pv i σ H → SqL K H a xs)
  (hs : ∀ i x σ H, xs[i]? = some x → Pv i σ H → g x σ H fun σ2 H2 => tb { D with nx := Pv (i + 1), ct := Pv (i + 1), bk := D.nx } σ2 H2) (hd : ∀ σ H, Pv xs.length σ H → D.nx σ H) : ForW (Itl K a) g tb D σ H := for_list Pv h0 hl hs hd
theorem forW_range {lo : Int} {n : Nat} {g : TG} {tb : TS} {D : Ends} (Pv : Nat → St → Hp → Prop) (h0 : Pv 0 σ H)
  (hs : ∀ i σ H, i < n → Pv i σ H → g (.int (lo + i)) σ H fun σ2 H2 => tb { D with nx := Pv (i + 1), ct := Pv (i + 1), bk := D.nx } σ2 H2) (hd : ∀ σ H, Pv n σ H → D.nx σ H) : ForW (Itr lo n) g tb D σ H := for_range Pv h0 hs hd
theorem rd_rng1 {ta : TA} {R : It → Hp → Prop} (h : ta σ H fun vs H1 => ∃ j : Int, vs = [.int j] ∧ -(2 ^ 62) ≤ j ∧ j < 2 ^ 62 ∧ R (Itr 0 j.toNat) H1) : iRng1 ta σ H R := h
theorem rd_ilist {tl : TE} {R : It → Hp → Prop} (h : tl σ H fun x H1 => ∃ a, x = .ref a ∧ (∃ xs, SqL K H1 a xs) ∧ R (Itl K a) H1) : iList K tl σ H R := h
end
theorem atI_ints {zs : List Int} {i : Int} (h0 : 0 ≤ i) (h1 : i < zs.length) : atI (zs.map V.int) i = some (.int (zs.getD i.toNat 0)) := by
 obtain ⟨k, rfl⟩ : ∃ k : Nat, i = (k : Int) := ⟨i.toNat, by omega⟩
 refine atI_nat ?_
 have hk : k < zs.length := by omega
 simp [hk]
theorem Same.new {H : Hp} {p : Addr} {o : HO} (h : H p = none) : Same H (upd H p o) := fun b u e => by rw [upd_ne (ne_of_none e h)]; exact e
theorem Same.later {H0 H : Hp} {p : Addr} {o : HO} (s : Same H0 H) (h : H0 p = none) : Same H0 (upd H p o) := fun b u e => by rw [upd_ne (ne_of_none e h)]; exact s b u e
end L2
set_option Elab.async false
set_option maxRecDepth 100000
namespace L2
open PySem PySem.Spec PyProof.Rows
theorem iteNN {b : Bool} {A B : Prop} (h : if b = true then B else A) : if (!b) = true then A else B := by cases b <;> exact h
section
variable {prog : Program} {w : World} {A : Around} {E : Value → Shared → Prop} {s : Shared}
theorem getItem_tuple_whole {t sl : Addr} {items : Array Value} {vl vu : Value} {lo hi : Option Int} {Q : Value → Shared → Prop} (ht : IsTup s.heap t items) (hs : s.heap.IsSliceOf sl vl vu .none) (pl : IsPart vl lo) (pu : IsPart vu hi)
  (hw : HT.sIx items.size 0 lo = 0 ∧ HT.sIx items.size items.size hi = items.size) (h : Q (.ref t) s) : wpAny (model prog w) A (getItem (.ref t) (.ref sl)) Q E s := by
 obtain ⟨os, hos, hcs, hds⟩ := id hs
 have hTs : s.TypeIs (.ref sl) "slice" := ⟨os, hos, hcs⟩
 unfold getItem
 try with_reducible refine wpAny_holding ?_
 first | refine wpAny_bind (wpAny_pure ?_) | skip
 refine wpAny_bind (wpAny_sequenceKey ht.typeIs (by decide) ?_)
 refine wpAny_bind (wpAny_callSpecial?_slot (name := Str.ofString "__getitem__") ht.typeIs PyProof.Rows.slot_tuple_getitem
  (wpAny_call_entry PyProof.Rows.slot_tuple_getitem ht.typeIs entry_tuple_getitem ?_ (args_tuple_getitem _ _)))
 show wpAny _ _ (Builtin.Tuple.tupleItemsOf (.ref t) >>= _) _ _ s
 refine wpAny_bind (tupleItemsOf_ ht ?_)
 refine wpAny_bind (wpAny_typeOf hTs ?_)
 rw [if_pos (by decide)]
 refine wpAny_bind (HT.sliceApplied_gen hs pl pu ?_)
 have hyes : (((HT.sIx items.size 0 lo : Nat) : Int) == 0 && (1 : Int) == 1 && (HT.sIx items.size items.size hi - HT.sIx items.size 0 lo) == items.size) = true := by
  rw [hw.1, hw.2]; simp
 show wpAny _ _ (if (((HT.sIx items.size 0 lo : Nat) : Int) == 0 && (1 : Int) == 1 && (HT.sIx items.size items.size hi - HT.sIx items.size 0 lo) == items.size) = true then _ else _) _ _ s
 rw [if_pos hyes]
 unfold Builtin.Tuple.tupleIsExact
 refine wpAny_bind (wpAny_bind (wpAny_typeOf ht.typeIs (wpAny_pure ?_)))
 rw [if_pos (by decide)]
 first
  | exact wpAny_bind (wpAny_rule (wpAny_pure ⟨_, rfl, wpAny_pure h⟩))
  | exact wpAny_bind (wpAny_rule (wpAny_bind (wpAny_pure (wpAny_pure ⟨_, rfl, wpAny_pure h⟩))))
  | exact wpAny_bind (wpAny_bind (wpAny_rule (wpAny_pure ⟨_, rfl, wpAny_pure h⟩)))
end
def rSlT' (K : PySem.W.Frag) : V → Option Int → Option Int → Hp → VK → Prop := fun x lo hi H Q => ∃ a xs, x = .ref a ∧ H a = some (.tup xs) ∧ ∀ H1 p, Same H H1 → H1 p = some (.tup (cutV xs lo hi)) → Q (.ref p) H1
theorem sl_tup' {X : Cx} : SlR X (rSlT' X.K) := by
 intro pins s σ H x v vl vu lo hi sl Q I rx hs pl pu h
 obtain ⟨a, xs, rfl, hx, q⟩ := h
 by_cases hw : HT.sIx xs.length 0 lo = 0 ∧ HT.sIx xs.length xs.length hi = xs.length
 ·cases rx
  obtain ⟨its, r, ht, hz⟩ := I.tuple (SqT.of hx)
  have hlen : its.toArray.size = xs.length := by rw [List.size_toArray]; exact r.length.symm
  refine ⟨"tuple", _, PyProof.Rows.slot_tuple_getitem.lookup, ht.typeIs, getItem_tuple_whole ht hs pl pu (by rw [hlen]; exact hw) ⟨.ref a, H, I, rfl, q H a (Same.refl _) ?_⟩⟩
  rw [hx]
  unfold cutV
  rw [hw.1, hw.2, List.drop_zero, Nat.sub_zero, List.take_of_length_le (Nat.le_refl _)]
 ·exact sl_tup pins s σ H _ v vl vu lo hi sl Q I rx hs pl pu ⟨a, xs, rfl, SqT.of hx, hw, fun p hp => q _ p (Same.new hp) upd_same⟩
theorem rd_slT {K : PySem.W.Frag} {H : Hp} {Q : VK} {a : Addr} {xs : List V} {lo hi : Option Int} (h : H a = some (.tup xs)) (q : ∀ H1 p, Same H H1 → H1 p = some (.tup (cutV xs lo hi)) → Q (.ref p) H1) : rSlT' K (.ref a) lo hi H Q := ⟨a, xs, rfl, h, q⟩
def CompW (J : It) (g : TG) (tt : TT) (te : TE) (cap : List (Option Nat)) (l : Addr) (σ : St) (H1 : Hp) (Q : VK) : Prop :=
 ∃ (n : Nat) (Pv : Nat → List V → St → Hp → Prop), Pv 0 [] (capS cap σ) (upd H1 l (.lst [])) ∧
  (∀ i ys σ' H', i < n → Pv i ys σ' H' → J.go i H' ∧ ∀ x H2, J.yld i H' x H2 → g x σ' H2 fun σ3 H3 => tt σ3 H3 fun b H4 =>
   if b = true then te σ3 H4 fun y H5 => H5 l = some (.lst ys) ∧ ys.length < sizeLine ∧ Pv (i + 1) (ys ++ [y]) σ3 (upd H5 l (.lst (ys ++ [y]))) else Pv (i + 1) ys σ3 H4) ∧
  ∀ ys σ' H', Pv n ys σ' H' → J.stop n H' ∧ Q (.ref l) H'
section
variable {K : PySem.W.Frag} {σ : St} {H : Hp} {Q : VK} {te : TE} {cap : List (Option Nat)} {l : Addr}
theorem rd_comp {wi : TI} {g : TG} {tt : TT} (h : wi σ H fun J H1 => ∀ l, H1 l = none → CompW J g tt te cap l σ H1 Q) : tComp wi g tt te cap σ H Q := h
theorem take_succ_map {α β : Type} (F : α → β) (xs : List α) (i : Nat) {x : α} (h : xs[i]? = some x) : (xs.take (i + 1)).map F = (xs.take i).map F ++ [F x] := by
 rw [List.take_add_one, h, List.map_append]
 rfl
theorem compW_list {a : Addr} {xs : List V} (F : V → V) (hs : SqL K H a xs) (hz : xs.length ≤ 1000) (hl : H l = none)
  (step : ∀ x o H' (Q' : VK), x ∈ xs → Same H H' → (∀ H5, Same H' H5 → Q' (F x) H5) → te (((capS (none :: cap) σ).set 0 o).set 0 (some x)) H' Q')
  (fin : ∀ H', Same H H' → H' l = some (.lst (xs.map F)) → Q (.ref l) H') : CompW (Itl K a) (gName 0) tTrue te (none :: cap) l σ H Q := by
 refine ⟨xs.length, fun i ys σ' H' => ys = (xs.take i).map F ∧ (∃ o, σ' = (capS (none :: cap) σ).set 0 o) ∧ Same H H' ∧ H' l = some (.lst ys), ⟨rfl, ⟨none, rfl⟩, Same.new hl, upd_same⟩, ?_, ?_⟩
 ·rintro i ys σ' H' hi ⟨rfl, ⟨o, rfl⟩, s, e⟩
  refine ⟨⟨xs, xs[i], s.seq hs, by simp [hi]⟩, fun x H2 y => ?_⟩
  obtain ⟨e2, y⟩ := y
  subst e2
  have hx := y xs (s.seq hs)
  refine rd_name (rd_true (iteT ?_))
  refine step x o H2 _ (List.mem_of_getElem? hx) s fun H5 s5 => ⟨s5 _ _ e, ?_, ?_⟩
  ·rw [List.length_map, List.length_take]
   exact small1000 (by omega)
  ·exact ⟨(take_succ_map F xs i hx).symm, ⟨_, List.set_set ..⟩, (s.trans s5).later hl, upd_same⟩
 ·rintro ys σ' H' ⟨rfl, _, s, e⟩
  rw [List.take_of_length_le (Nat.le_refl _)] at e
  exact ⟨⟨xs, s.seq hs, Nat.le_refl _⟩, fin H' s e⟩
theorem compW_range {n : Nat} (F : Nat → V) (hz : n ≤ 1000) (hl : H l = none)
  (step : ∀ i o H' (Q' : VK), i < n → Same H H' → (∀ H5, Same H' H5 → Q' (F i) H5) → te (((capS (none :: cap) σ).set 0 o).set 0 (some (.int ((0 : Int) + (i : Nat))))) H' Q')
  (fin : ∀ H', Same H H' → H' l = some (.lst ((List.range n).map F)) → Q (.ref l) H') : CompW (Itr 0 n) (gName 0) tTrue te (none :: cap) l σ H Q := by
 refine ⟨n, fun i ys σ' H' => ys = (List.range i).map F ∧ (∃ o, σ' = (capS (none :: cap) σ).set 0 o) ∧ Same H H' ∧ H' l = some (.lst ys), ⟨rfl, ⟨none, rfl⟩, Same.new hl, upd_same⟩, ?_, ?_⟩
 ·rintro i ys σ' H' hi ⟨rfl, ⟨o, rfl⟩, s, e⟩
  refine ⟨hi, fun x H2 y => ?_⟩
  obtain ⟨e2, rfl⟩ := y
  subst e2
  refine rd_name (rd_true (iteT ?_))
  refine step i o H2 _ hi s fun H5 s5 => ⟨s5 _ _ e, ?_, ?_⟩
  ·rw [List.length_map, List.length_range]
   exact small1000 (by omega)
  ·refine ⟨?_, ⟨_, List.set_set ..⟩, (s.trans s5).later hl, upd_same⟩
   rw [List.range_succ, List.map_append]
   rfl
 ·rintro ys σ' H' ⟨rfl, _, s, e⟩
  exact ⟨Nat.le_refl _, fin H' s e⟩
def rSFld (K : PySem.W.Frag) (f : Str) (y x : V) (H2 : Hp) (k : Hp → Prop) : Prop := ∃ a C dx fs, x = .ref a ∧ H2 a = some (.ins C dx fs) ∧ Cls K C ∧ NoAttr K C f ∧ fs.length < 1000 ∧ k (upd H2 a (.ins C dx (putF f y fs)))
theorem rd_sfld {D : Ends} {ta tv : TE} {f : Str} (h : tv σ H fun y H1 => ta σ H1 fun x H2 => rSFld K f y x H2 fun H3 => D.nx σ H3) : sFld K ta tv f D σ H := h
theorem rd_sfldv {f : Str} {y : V} {k : Hp → Prop} {a C dx : Addr} {fs : List (Str × V)} (h : H a = some (.ins C dx fs)) (c : Cls K C) (n : NoAttr K C f) (z : fs.length < 1000) (q : k (upd H a (.ins C dx (putF f y fs)))) : rSFld K f y (.ref a) H k := ⟨a, C, dx, fs, rfl, h, c, n, z, q⟩
def WhileW (c : TT) (tb : TS) (D : Ends) (σ : St) (H : Hp) : Prop := ∃ W : Nat → St → Hp → Prop, (∃ m, W m σ H) ∧ ∀ m σ H, W m σ H →
 c σ H fun b H1 => if b = true then ∃ N : St → Hp → Prop, (∀ σ' H', N σ' H' → ∃ m', m' < m ∧ W m' σ' H') ∧ tb { D with nx := N, ct := N, bk := D.nx } σ H1 else D.nx σ H1
theorem rd_while {D : Ends} {c : TT} {tb : TS} (h : WhileW c tb D σ H) : tWhile c tb D σ H := h
theorem rd_gtup {n : Nat} {tt : TGs} {a : Addr} {xs : List V} {QS : St → Hp → Prop} (h : H a = some (.tup xs)) (hl : xs.length = n) (q : tt xs σ H QS) : gTup K n tt (.ref a) σ H QS := ⟨a, xs, rfl, SqT.of h, hl, q⟩
theorem rd_gcons {tg : TG} {u : TGs} {v : V} {r : List V} {QS : St → Hp → Prop} (h : tg v σ H fun σ' H' => u r σ' H' QS) : gCons tg u (v :: r) σ H QS := ⟨v, r, rfl, h⟩
theorem rd_gnil {QS : St → Hp → Prop} (h : QS σ H) : gNil [] σ H QS := ⟨rfl, h⟩
theorem rd_setl {a : Addr} {xs : List V} {k : Int} {j : Nat} {v : V} {QH : Hp → Prop} (h : H a = some (.lst xs)) (e : ixN xs.length k = some j) (q : QH (upd H a (.lst (xs.set j v)))) : rSetL (.ref a) (.int k) v H QH := ⟨a, xs, k, j, rfl, rfl, h, e, q⟩
theorem rd_gsub {to ti : TE} {ts : TSet} {v : V} {QS : St → Hp → Prop} (h : to σ H fun o H1 => ti σ H1 fun i H2 => ts o i v H2 fun H3 => QS σ H3) : gSub to ti ts v σ H QS := h
end
section
variable {X : Cx} (K : PySem.W.Frag) (h : X.K = K)
include h
theorem ix_listK : IxR X (rIxL K) := h ▸ ix_list
theorem ix_tupK : IxR X (rIxT K) := h ▸ ix_tup
theorem cI_isinstK : CallR X (.builtin "isinstance") (rIsi K) := h ▸ cI_isinst
theorem cI_lenK : CallR X (.builtin "len") (rLen K) := h ▸ cI_len
theorem cI_allK (hc : X.calm = true) : CallR X (.builtin "all") (rAll K) := h ▸ cI_all hc
theorem cI_sumK (hc : X.calm = true) : CallR X (.builtin "sum") (rSum K) := h ▸ cI_sum hc
theorem cI_listK : CallR X (.type "list") (rList K) := h ▸ cI_list
theorem cI_tupleK : CallR X (.type "tuple") (rTuple K) := h ▸ cI_tuple
theorem sl_listK : SlR X (rSlL K) := h ▸ sl_list
theorem sl_tupK : SlR X (rSlT' K) := h ▸ sl_tup'
theorem pe_fldK {e : Expr} {ta : TE} {f : Str} {pos : Pos} (he : PE X e ta) (hb : attributeBase e f X.env (eval e X.env) = eval e X.env) : PE X (.Attribute e f pos) (tFld K ta f) := h ▸ pe_fld he hb
end
theorem cutV_drop {zs : List Int} {k : Nat} : cutV (zs.map V.int) (some (k : Int)) none = (zs.drop k).map V.int := by
 unfold cutV
 rw [HT.sIx_none, HT.sIx_nat, List.length_map]
 rcases Nat.le_total k zs.length with h | h
 ·rw [Nat.min_eq_left h, ← List.map_drop, List.take_of_length_le (by rw [List.length_map, List.length_drop]; omega)]
 ·rw [Nat.min_eq_right h, List.drop_eq_nil_of_le h, Nat.sub_self, List.take_zero]; rfl
theorem getD_mem {α : Type} {zs : List α} {k : Nat} {d : α} (h : k < zs.length) : zs.getD k d ∈ zs := by
 rw [List.getD_eq_getElem?_getD, List.getElem?_eq_getElem h]
 exact List.getElem_mem h
end L2
set_option Elab.async false
set_option maxRecDepth 100000
namespace L2
open PySem PySem.Spec PyProof.Rows
theorem pg_tupK {X : Cx} (K : PySem.W.Frag) (hK : X.K = K) {es : List Expr} {k : Nat} {t : TGs} {n : Nat} {pos : Pos} (hc : X.calm = true) (h : PGs X es t)
  (hn : (assignEach es X.env).length = n := by rfl) (hst : (assignEach es X.env).findIdx? (·.1) = none := by rfl) : PG X (.Tuple es k pos) (gTup K n t) := hK ▸ pg_tup hc h hn hst
theorem repL_ints {H : Hp} : ∀ (ns : List Int), RepL H (ns.map PyData.int) (ns.map V.int)
 | [] => by simp only [List.map_nil, RepL]
 | n :: r => by
  simp only [List.map_cons, RepL, Rep]
  exact ⟨_, _, rfl, rfl, repL_ints r⟩
theorem rep_ints {H : Hp} {a : Addr} {ns : List Int} (h : H a = some (.lst (ns.map V.int))) : Rep H (.list (ns.map PyData.int)) (.ref a) := by
 simp only [Rep]
 exact ⟨a, _, rfl, h, repL_ints ns⟩
theorem eqv_ints : ∀ ns ms : List Int, PyData.eqvAll (ns.map PyData.int) (ms.map PyData.int) = decide (ns = ms)
 | [], [] => by simp [PyData.eqvAll]
 | [], _ :: _ => by simp [PyData.eqvAll]
 | _ :: _, [] => by simp [PyData.eqvAll]
 | a :: r, b :: u => by
  simp only [List.map_cons, PyData.eqvAll, PyData.eqv, eqv_ints r u]
  by_cases h : a = b <;> by_cases h' : r = u <;> simp [h, h']
theorem repL_get {H : Hp} : ∀ {ds : List PyData} {xs : List V}, RepL H ds xs → ds.length = xs.length ∧ ∀ (i : Nat) x, xs[i]? = some x → ∃ d, ds[i]? = some d ∧ Rep H d x
 | [], xs, h => by simp only [RepL] at h; subst h; exact ⟨rfl, fun i x e => by simp at e⟩
 | d :: ds, xs, h => by
  simp only [RepL] at h
  obtain ⟨x, r, rfl, h1, h2⟩ := h
  obtain ⟨l, g⟩ := repL_get h2
  refine ⟨by simp [l], fun i y e => ?_⟩
  cases i with
  | zero => simp at e; subst e; exact ⟨d, rfl, h1⟩
  | succ i => exact g i y (by simpa using e)
theorem compW_zip {K : PySem.W.Frag} {σ : St} {H : Hp} {Q : VK} {te : TE} {l a b : Addr} {xs ys : List V} (F : Nat → V) (hx : H a = some (.lst xs)) (hy : H b = some (.lst ys)) (he : xs.length = ys.length) (hz : xs.length ≤ 1000) (hl : H l = none)
  (step : ∀ (i : Nat) x y H' (Q' : VK), xs[i]? = some x → ys[i]? = some y → Same H H' → (∀ H5, Same H' H5 → Q' (F i) H5) → te [some x, some y] H' Q')
  (fin : ∀ H', Same H H' → H' l = some (.lst ((List.range xs.length).map F)) → Q (.ref l) H') : CompW (Itz K a b) (gTup K 2 (gCons (gName 0) (gCons (gName 1) gNil))) tTrue te [none, none] l σ H Q := by
 refine ⟨xs.length, fun i zs σ' H' => zs = (List.range i).map F ∧ (∃ o o', σ' = [o, o']) ∧ Same H H' ∧ H' l = some (.lst zs), ⟨rfl, ⟨none, none, rfl⟩, Same.new hl, upd_same⟩, ?_, ?_⟩
 ·rintro i zs σ' H' hi ⟨rfl, ⟨o, o', rfl⟩, s, e⟩
  refine ⟨⟨xs, ys, xs[i], ys[i]'(by omega), SqL.of (s _ _ hx), SqL.of (s _ _ hy), by simp [hi], by simp⟩, fun v H2 z => ?_⟩
  obtain ⟨T, rfl, hT, z⟩ := z
  obtain ⟨x, y, ex, ey, rfl⟩ := z xs ys (SqL.of (s _ _ hx)) (SqL.of (s _ _ hy))
  have sT := Same.new (o := HO.tup [x, y]) hT
  refine rd_gtup upd_same rfl (rd_gcons (rd_name (rd_gcons (rd_name (rd_gnil (rd_true (iteT ?_)))))))
  refine step i x y _ _ ex ey (s.trans sT) fun H5 s5 => ⟨s5 _ _ (sT _ _ e), ?_, ?_⟩
  ·rw [List.length_map, List.length_range]
   exact small1000 (by omega)
  ·refine ⟨?_, ⟨_, _, rfl⟩, ((s.trans sT).trans s5).later hl, upd_same⟩
   rw [List.range_succ, List.map_append]
   rfl
 ·rintro zs σ' H' ⟨rfl, _, s, e⟩
  exact ⟨⟨xs, ys, SqL.of (s _ _ hx), SqL.of (s _ _ hy), .inl (Nat.le_refl _)⟩, fin H' s e⟩
end L2
set_option Elab.async false
set_option linter.all false
set_option maxRecDepth 100000
set_option maxHeartbeats 4000000
namespace L2
open PySem
inductive DS {α : Type} : Sem α → Prop
 | pure (a : α) : DS (.pure a)
 | raise (e : Value) : DS (.raise e)
 | unsup (w : String) : DS (.unsupported w)
 | fin (e : Ending) : DS (.finish e)
 | rule {t : String} {k : Unit → Sem α} : DS (k ()) → DS (.rule t k)
 | here {p : Pos} {k : Unit → Sem α} : DS (k ()) → DS (.at p k)
 | load {a : Addr} {p : Option Value} {k : Obj → Sem α} : (∀ o, DS (k o)) → DS (.load a p k)
 | upd {a : Addr} {p : Option Value} {f : Obj → Obj} {k : Unit → Sem α} : (∀ o, (f o).dict = o.dict ∧ (f o).isFreed = o.isFreed) → DS (k ()) → DS (.update a p f k)
 | alloc {o : Obj} {k : Addr → Sem α} : (∀ n, DS (k n)) → DS (.alloc o k)
 | point {l : List Value} {k : Unit → Sem α} : DS (k ()) → DS (.point l k)
 | fresh {k : Tok → Sem α} : (∀ n, DS (k n)) → DS (.fresh k)
 | ask {k : Setting → Sem α} : (∀ n, DS (k n)) → DS (.ask k)
 | stack {k : List (Code × Pos) → Sem α} : (∀ n, DS (k n)) → DS (.stack k)
theorem DS.andThen {α β : Type} {m : Sem α} {f : α → Sem β} (h : DS m) (g : ∀ a, DS (f a)) : DS (m >>= f) := by
 show DS (Sem.bind m f)
 induction h with
 | pure a => rw [Sem.bind]; exact g a
 | raise e => rw [Sem.bind]; exact .raise e
 | unsup w => rw [Sem.bind]; exact .unsup w
 | fin e => rw [Sem.bind]; exact .fin e
 | rule _ ih => rw [Sem.bind]; exact .rule ih
 | here _ ih => rw [Sem.bind]; exact .here ih
 | load _ ih => rw [Sem.bind]; exact .load ih
 | upd z _ ih => rw [Sem.bind]; exact .upd z ih
 | alloc _ ih => rw [Sem.bind]; exact .alloc ih
 | point _ ih => rw [Sem.bind]; exact .point ih
 | fresh _ ih => rw [Sem.bind]; exact .fresh ih
 | ask _ ih => rw [Sem.bind]; exact .ask ih
 | stack _ ih => rw [Sem.bind]; exact .stack ih
def HasD (e : Addr) (dx : Option Addr) (h : Heap) : Prop := ∃ o, h.get? e = some o ∧ o.dict = dx
theorem HasD.upd {e a : Addr} {dx : Option Addr} {h : Heap} {f : Obj → Obj} (x : HasD e dx h) (z : ∀ o, (f o).dict = o.dict ∧ (f o).isFreed = o.isFreed) : HasD e dx (h.update a f) := by
 obtain ⟨o, h1, h2⟩ := x
 by_cases q : a = e
 ·subst q
  have fr : o.isFreed = false := (Heap.get?_some_iff.mp h1).2
  exact ⟨_, Heap.get?_update_self f h1 (by rw [(z o).2]; exact fr), by rw [(z o).1]; exact h2⟩
 ·exact ⟨o, by rw [Heap.get?_update_other h f q]; exact h1, h2⟩
theorem DS.run {α : Type} {M : Model} {Γ : Ctx} {m : Sem α} {Q : α → Pos → Shared → Prop} {E : Value → Pos → Shared → Prop} {p : Pos} {s : Shared} {e : Addr} {dx : Option Addr} (h : DS m) (w : Sem.wp M Γ m Q E p s) (x : HasD e dx s.heap) :
  Sem.wp M Γ m (fun a p s' => Q a p s' ∧ HasD e dx s'.heap) (fun v p s' => E v p s' ∧ HasD e dx s'.heap) p s := by
 induction h generalizing p s with
 | pure a => rw [Sem.wp] at w ⊢; exact ⟨w, x⟩
 | raise v => rw [Sem.wp] at w ⊢; exact ⟨w, x⟩
 | unsup q => rw [Sem.wp] at w; exact w.elim
 | fin q => rw [Sem.wp] at w; exact w.elim
 | rule _ ih => rw [Sem.wp] at w ⊢; exact ih w x
 | here _ ih => rw [Sem.wp] at w ⊢; exact ih w x
 | load _ ih => rw [Sem.wp] at w ⊢; obtain ⟨o, h1, h2⟩ := w; exact ⟨o, h1, ih o h2 x⟩
 | upd z _ ih => rw [Sem.wp] at w ⊢; exact ⟨w.1, ih w.2 (x.upd z)⟩
 | alloc _ ih => rw [Sem.wp] at w ⊢; exact ih _ w (let ⟨o, h1, h2⟩ := x; ⟨o, Heap.get?_push_of_some _ h1, h2⟩)
 | point _ ih => rw [Sem.wp] at w ⊢; exact ih w x
 | fresh _ ih => rw [Sem.wp] at w ⊢; exact ih _ w x
 | ask _ ih => rw [Sem.wp] at w ⊢; exact ih _ w x
 | stack _ ih => rw [Sem.wp] at w ⊢; exact ih _ w x
theorem DS.any {α : Type} {M : Model} {A : Around} {m : Sem α} {Q : α → Shared → Prop} {E : Value → Shared → Prop} {s : Shared} {e : Addr} {dx : Option Addr} (h : DS m) (w : wpAny M A m Q E s) (x : HasD e dx s.heap) :
  wpAny M A m (fun a s' => Q a s' ∧ HasD e dx s'.heap) E s := fun Γ p hΓ =>
 Sem.wp_mono M Γ m (fun _ _ _ z => z) (fun _ _ _ z => z.1) p s (h.run (w Γ p hΓ) x)
theorem ds_ite {α : Type} {c : Prop} [Decidable c] {a b : Sem α} (h1 : DS a) (h2 : DS b) : DS (if c then a else b) := by split <;> assumption
theorem ds_field (v : Value) (i : Nat) : DS (field v i) := by
 unfold field fieldsOf
 refine DS.andThen ?_ fun vs => ?_
 ·cases v with
  | ref a =>
   refine DS.andThen (.load fun o => .pure o) fun o => ?_
   cases o.data <;> first | exact .pure _ | exact .unsup _
  | _ => exact .unsup _
 ·cases vs[i]? <;> first | exact .pure _ | exact .unsup _
theorem ds_mapFields (f : Array Value → Array Value) (o : Obj) : (Obj.mapFields f o).dict = o.dict ∧ (Obj.mapFields f o).isFreed = o.isFreed := by
 obtain ⟨c, d, dt, sl⟩ := o
 cases dt <;> exact ⟨rfl, rfl⟩
theorem ds_setField (v : Value) (i : Nat) (x : Value) : DS (setField v i x) := by
 unfold setField
 cases v with
 | ref a =>
  unfold updateField
  refine DS.andThen (.load fun o => .pure o) fun o => ?_
  cases o.data with
  | fields vs => exact ds_ite (.upd (ds_mapFields _) (.pure ())) (.unsup _)
  | _ => exact .unsup _
 | _ => exact .unsup _
theorem ds_setFlight (e : Value) (f : Option Addr) : DS (setFlight e f) := by
 unfold setFlight
 exact DS.andThen (ds_field _ _) fun tb => ds_ite (ds_setField _ _ _) (.pure _)
theorem ds_back (env : Env) (b : Bool) (l : List Env) : DS (keptBack env b l) := by
 cases l with
 | nil =>
  unfold keptBack underTheClaimsCaller
  refine ds_ite (.pure _) (DS.andThen (DS.andThen (.stack fun n => .pure n) fun _ => .pure _) fun q => .pure _)
 | cons c r => unfold keptBack; exact .pure _
theorem ds_import (env : Env) (l : List Env) : DS (behindIsImport env l) := by
 unfold behindIsImport
 exact ds_ite (.pure _) (ds_ite (.pure _) (DS.andThen (ds_field _ _) fun _ => .pure _))
theorem ds_ready : ∀ l : List Env, DS (readyFrames l)
 | [] => by unfold readyFrames; exact .pure _
 | env :: r => by
  unfold readyFrames
  cases env.frame with
  | none => exact .unsup _
  | some f =>
   refine DS.andThen (.load fun o => .pure o) fun o => ds_ite (.pure _) ?_
   refine DS.andThen (ds_import _ _) fun b => DS.andThen (ds_back _ _ _) fun v => DS.andThen (.upd (fun o => ⟨rfl, by obtain ⟨c, d, dt, sl⟩ := o; cases dt <;> rfl⟩) (.pure ())) fun _ => ds_ready r
theorem ds_frameOf (env : Env) : DS (frameOf env) := by
 unfold frameOf frameEnvs
 refine DS.andThen (DS.andThen (.stack fun n => .pure n) fun _ => .pure _) fun l => DS.andThen ?_ fun o => ?_
 ·generalize l.dropWhile _ = l'
  cases l' with
  | nil => unfold frameObject; exact .pure _
  | cons c r => unfold frameObject; exact DS.andThen (ds_ready _) fun _ => .pure _
 ·cases o with
  | none => exact .unsup _
  | some f => exact .pure _
theorem ds_place (f : Addr) (b : Bool) : DS (entryPlaceOf f b) := by
 unfold entryPlaceOf
 refine DS.andThen (.stack fun n => .pure n) fun l => ?_
 cases l.find? _ with
 | none => exact .pure _
 | some q => exact .pure _
theorem ds_newEntry (a b c d e : Value) (l : List Value) : DS (EntryCells.newEntry a b c d e l) := by
 unfold EntryCells.newEntry newFields newObj newObjAsIs
 generalize ([a, b, c, d, e] ++ if l.isEmpty then List.replicate 6 Value.none else l) = vs
 dsimp only
 split
 ·exact DS.andThen (.unsup _) fun _ => DS.andThen (.alloc fun n => .pure n) fun _ => .pure _
 ·exact DS.andThen (.alloc fun n => .pure n) fun _ => .pure _
theorem ds_noteFrame (e : Value) (env : Env) : DS (noteFrame e env) := by
  unfold noteFrame
  cases env.frame with
  | none => exact .unsup _
  | some f =>
    refine DS.andThen (ds_field _ _) fun hd => ?_
    have tail : DS (do
        let a ← frameOf env
        let pl ← entryPlaceOf f (hd != .none)
        let b ← EntryCells.newEntry hd a .none (rawInt f) .none pl
        setField e 1 b) := DS.andThen (ds_frameOf _) fun _ => DS.andThen (ds_place _ _) fun _ => DS.andThen (ds_newEntry _ _ _ _ _ _) fun _ => ds_setField _ _ _
    refine ds_ite ?_ tail
    refine DS.andThen (ds_field _ _) fun x => ds_ite (.pure _) (DS.andThen (ds_setField _ _ _) fun _ => tail)
theorem ds_leaving (env : Env) (e : Value) : DS (leaving env e) := by
 unfold leaving
 exact DS.andThen (ds_noteFrame _ _) fun _ => ds_setFlight _ _
end L2
set_option Elab.async false
set_option maxRecDepth 100000
namespace L2
open PySem PySem.Spec PyProof.Rows
structure Exc (g h : Heap) (H : Hp) (e C : Addr) (xo : Option Addr) : Prop where
 tr : h.Traced g e (.ref C)
 ne : g.get? e = none
 he : H e = none
 hT : ∀ oe vs T, h.get? e = some oe → oe.data = .fields vs → vs[1]? = some (.ref T) → H T = none
 dc : ∀ dx, xo = some dx → HasD e (some dx) h
def CX1 (P : Program) (w : World) : CXT := fun outer H s E x s' => ∃ (e C : Addr) (xo : Option Addr) (H' : Hp), x = .ref e ∧ s'.os = s.os ∧ AllBare s'.gens ∧ Un (frs outer) [] H H' s.heap s'.heap ∧ HOk P w H' s'.heap ∧ Exc s.heap s'.heap H' e C xo ∧ E (.ref C) xo H'
section
variable {X : Cx} {pins : List (Addr × Obj)} {σ : St} {H : Hp} {s : Shared}
theorem Inv.left {h' : Heap} {es : List Addr} (I : Inv X pins σ H s) (hs : X.stack = X.env :: X.outer) (he : ∀ b ∈ es, H b = none ∧ X.s₀.heap.get? b = none)
  (keep : ∀ b o, s.heap.get? b = some o → b ∉ frs X.stack → b ∉ es → h'.get? b = some o) (slot : ∀ b o, s.heap.get? b = some o → b ∈ frs X.stack → ∃ sl, h'.get? b = some { o with slots := sl }) : Un X.fs X.ex X.H₀ H X.s₀.heap h' ∧ HOk X.prog X.w H h' := by
 have sub : ∀ b ∈ X.fs, b ∈ frs X.stack := fun b hb => by
  rw [hs]; unfold frs; rw [List.filterMap_cons]
  cases X.env.frame with
  | none => exact hb
  | some f => exact List.mem_cons_of_mem _ hb
 have nfr : ∀ b u, H b = some u → b ∉ frs X.stack := fun b u e z => by rw [I.stkFree b z] at e; cases e
 have nes : ∀ b u, H b = some u → b ∉ es := fun b u e z => by rw [(he b z).1] at e; cases e
 have neL : ∀ b o, X.s₀.heap.get? b = some o → b ∉ X.fs → b ∉ frs X.stack := fun b o e hb z => by
  rcases List.mem_cons.mp (I.stkSub b z) with q | q
  ·exact absurd (Nat.lt_of_lt_of_le (Heap.lt_size e) (q ▸ I.ok.above)) (Nat.lt_irrefl _)
  ·exact hb q
 have ne0 : ∀ b o, X.s₀.heap.get? b = some o → b ∉ es := fun b o e z => by rw [(he b z).2] at e; cases e
 refine ⟨⟨fun b o e n hb hx => keep b o (I.base.keep b o e n hb hx) (neL b o e hb) (ne0 b o e), fun b o e n hb hx => ?_, I.base.free, fun b o e hx => ?_, I.base.tups, I.base.frzs, I.base.tbls⟩, fun b u e => ?_⟩
 ·obtain ⟨sl, e1⟩ := I.base.slot b o e n hb hx
  obtain ⟨sl', e2⟩ := slot b _ e1 (sub b hb)
  exact ⟨sl', e2⟩
 ·obtain ⟨o', e1⟩ := I.base.there b o e hx
  by_cases hf : b ∈ frs X.stack
  ·obtain ⟨sl, e2⟩ := slot b o' e1 hf
   exact ⟨_, e2⟩
  ·exact ⟨o', keep b o' e1 hf (ne0 b o e)⟩
 ·refine (I.hok b u e).stay (fun c v hc q => ?_) (fun _ q => q) fun _ _ q => q
  rcases hc with z | z
  ·rw [z] at q ⊢; exact keep b v q (nfr b u e) (nes b u e)
  ·exact keep c v q (nfr c _ z) (nes c _ z)
end
theorem ObjOk.get {P : Program} {w : World} {H : Hp} {h : Heap} {a : Addr} {o : HO} (x : ObjOk P w H h a o) : ∃ ob, h.get? a = some ob := by
 cases o with
 | lst xs => obtain ⟨_, _, _, _, e⟩ := x; exact ⟨_, e⟩
 | tup xs => obtain ⟨_, _, _, p⟩ := x; obtain ⟨o, e, _⟩ := p; exact ⟨_, e⟩
 | dK kvs => obtain ⟨_, _, _, _, o, _, _, e, _⟩ := x; exact ⟨_, e⟩
 | dT kvs => obtain ⟨_, _, _, _, o, _, _, e, _⟩ := x; exact ⟨_, e⟩
 | set S n => obtain ⟨o, _, _, _, e, _⟩ := x; exact ⟨_, e⟩
 | ins C dx fs => obtain ⟨_, _, _, e, _⟩ := x; exact ⟨_, e⟩
 | own y => obtain ⟨_, e⟩ := x; exact ⟨_, e⟩
 | xd fs => obtain ⟨_, ⟨_, _, _, e, _⟩, _⟩ := x; exact ⟨_, e⟩
 | rng lo hi => obtain ⟨_, _, _, e⟩ := x; exact ⟨_, e⟩
 | frz ob u => obtain ⟨e, _⟩ := x; exact ⟨_, e⟩
 | tbl ps => exact ⟨_, (show h.get? a = some _ from x)⟩
 | met f y => exact ⟨_, (show h.get? a = some _ from x)⟩
 | ext φ => obtain ⟨_, ⟨_, e⟩, _⟩ := x; exact ⟨_, e⟩
theorem HOk.none_of {P : Program} {w : World} {H : Hp} {h : Heap} {a : Addr} (k : HOk P w H h) (e : h.get? a = none) : H a = none := by
 cases q : H a with
 | none => rfl
 | some o => obtain ⟨_, z⟩ := (k a o q).get; rw [e] at z; cases z
section
variable {P : Program} {w : World} {K : PySem.W.Frag} {mg : Str → Option Value} {base : Heap} {N : List Str} {qual : Str} {scope : Scope} {f : Addr} {cd : Value} {A : Around} {outer : List Env} {s₀ : Shared} {H₀ : Hp} {E : XK} {pins : List (Addr × Obj)} {σ : St} {H : Hp} {s : Shared}
theorem stack_in {l : List Env} {as : List Addr} (h : ∀ b ∈ frs l, b ∈ as) : ∀ env ∈ l, ∀ a, env.frame = some a → a ∈ as := fun env he a ha => h a (List.mem_filterMap.mpr ⟨env, he, ha⟩)
theorem xe_made {e C : Addr} {xo : Option Addr} {oe : Obj} {vs : Array Value} (I1 : Inv (cxOf (CX1 P w) P w K mg base N qual scope f cd A outer s₀ H₀ E) pins σ H s) (he : s.heap.get? e = some oe) (hcl : oe.cls = .ref C) (hda : oe.data = .fields vs) (h1 : vs[1]? = some .none)
  (hs0 : s₀.heap.get? e = none) (hHe : H e = none) (dc : ∀ dx, xo = some dx → oe.dict = some dx) (q : E (.ref C) xo H) : (cxOf (CX1 P w) P w K mg base N qual scope f cd A outer s₀ H₀ E).xe (.ref e) s := by
 have ff := I1.stack
 have hl := PySem.W.funFrames_hide (as := e :: frs (cxOf (CX1 P w) P w K mg base N qual scope f cd A outer s₀ H₀ E).stack) ff (stack_in fun b hb => List.mem_cons_of_mem _ hb)
 have fin := wpAny_leaving_first (M := model P w) (E := fun v s' => CX1 P w outer H₀ s₀ E v s') (base := PySem.W.hideAll s.heap (e :: frs (cxOf (CX1 P w) P w K mg base N qual scope f cd A outer s₀ H₀ E).stack)) (L := s₀.heap.objs.size) (e := e) (s := s) (Q := fun _ s' => ∃ h2, s' = { s with heap := h2 } ∧ Heap.Left (PySem.W.hideAll s.heap (e :: frs (cxOf (CX1 P w) P w K mg base N qual scope f cd A outer s₀ H₀ E).stack)) (envOfC qual scope s₀.heap.objs.size f cd :: outer) e oe.cls s.heap h2) I1.ok.frames hl rfl he (fun b o z => PySem.W.of_hideAll _ z) (PySem.W.hideAll_none _ List.mem_cons_self) hda h1 fun h2 lf => ⟨h2, rfl, lf⟩
 refine wpAny_mono (DS.any (ds_leaving _ _) fin ⟨oe, he, rfl⟩) (fun _ s' ⟨⟨h2, e2, lf⟩, hd2⟩ => ?_) fun _ _ z => z
 subst e2
 obtain ⟨st, ff2, tr, up⟩ := lf
 have lf := I1.left (h' := h2) (es := [e]) rfl (fun b hb => by rw [List.mem_singleton.mp hb]; exact ⟨hHe, hs0⟩) (fun b o z nf ne => st b o (PySem.W.hideAll_get _ z (by intro m; rcases List.mem_cons.mp m with r | r; exact ne (by simp [r]); exact nf r)))
  (fun b o z hb => by
   obtain ⟨_, o', z', hd⟩ := ff.mem hb
   rw [z] at z'; cases z'
   exact up b o z hd)
 obtain ⟨oe', ws, T, oT, ts, g1, g2, g3, g4, g5, g6, g7, g8, g9⟩ := tr
 have nT : T ∉ frs (cxOf (CX1 P w) P w K mg base N qual scope f cd A outer s₀ H₀ E).stack := fun z => by
  obtain ⟨_, o, zo, hd⟩ := ff2.mem z
  rw [g7] at zo; cases zo
  exact hd ts g8
 have key : ∀ o, s.heap.get? T = some o → False := fun o z => by
  rw [PySem.W.hideAll_get _ z (by intro m; rcases List.mem_cons.mp m with r | r; exact g6 r; exact nT r)] at g5
  cases g5
 have hT0 : s₀.heap.get? T = none := by
  cases z : s₀.heap.get? T with
  | none => rfl
  | some o => obtain ⟨o', z'⟩ := I1.base.there T o z (by intro q; cases q); exact (key o' z').elim
 have hHT : H T = none := by
  cases z : H T with
  | none => rfl
  | some o => obtain ⟨o', z'⟩ := (I1.hok T o z).get; exact (key o' z').elim
 refine ⟨e, C, xo, H, rfl, I1.os, I1.bare, lf.1, lf.2, ⟨⟨oe', ws, T, oT, ts, g1, g2.trans hcl, g3, g4, hT0, g6, g7, g8, g9⟩, hs0, hHe, fun oe2 vs' T' z1 z2 z3 => ?_, fun dx z => by rw [dc dx z] at hd2; exact hd2⟩, q⟩
 rw [g1] at z1; cases z1
 rw [g3] at z2; cases z2
 rw [g4] at z3; cases z3
 exact hHT
theorem xe_new {h' : Heap} {t' : Nat} {e C : Addr} {vs : List Value} (I : Inv (cxOf (CX1 P w) P w K mg base N qual scope f cd A outer s₀ H₀ E) pins σ H s) (hx : Heap.MadeExcOf s.heap h' e (.ref C) vs) (q : E (.ref C) none H) :
  (cxOf (CX1 P w) P w K mg base N qual scope f cd A outer s₀ H₀ E).xe (.ref e) { s with heap := h', toks := t' } := by
 have I1 := I.kept (t' := t') hx.keeps
 obtain ⟨t, he, ht, _⟩ := hx.there
 have hs0 : s₀.heap.get? e = none := by
  cases z : s₀.heap.get? e with
  | none => rfl
  | some o => obtain ⟨o', z'⟩ := I.base.there e o z (by intro q; cases q); rw [hx.new] at z'; cases z'
 exact xe_made I1 he rfl rfl rfl hs0 (I.hok.none_of hx.new) (fun _ z => by cases z) q
theorem pass1 : Passes (CX1 P w) (cxOf (CX1 P w) P w K mg base N qual scope f cd A outer s₀ H₀ E) E := by
  intro pins σ H s x s' I h
  obtain ⟨e, C, xo, H', rfl, os, bare, un, hok, ex, q⟩ := h
  have J := I.call' (s' := s') (ch := []) os un hok bare (fun b hb => by cases hb)
  obtain ⟨⟨oe, ws, T, oT, ts, g1, g2, g3, g4, g5, g6, g7, g8, g9⟩, ne, hHe, hHT, dc⟩ := ex
  have hHT := hHT oe ws T g1 g3 g4
  have s0 : ∀ {b : Addr}, s.heap.get? b = none → s₀.heap.get? b = none := fun {b} hb => by
    cases z : s₀.heap.get? b with
    | none => rfl
    | some o => obtain ⟨o', z'⟩ := I.base.there b o z (by intro q; cases q); rw [hb] at z'; cases z'
  have ff := J.stack
  have hl := PySem.W.funFrames_hide (as := e :: T :: frs (cxOf (CX1 P w) P w K mg base N qual scope f cd A outer s₀ H₀ E).stack) ff (stack_in fun b hb => List.mem_cons_of_mem _ (List.mem_cons_of_mem _ hb))
  have fin := wpAny_leaving_next (M := model P w) (E := fun v s' => CX1 P w outer H₀ s₀ E v s') (base := PySem.W.hideAll s'.heap (e :: T :: frs (cxOf (CX1 P w) P w K mg base N qual scope f cd A outer s₀ H₀ E).stack)) (L := s₀.heap.objs.size) (e := e) (s := s') (Q := fun _ s2 => ∃ h2, s2 = { s' with heap := h2 } ∧ Heap.Left (PySem.W.hideAll s'.heap (e :: T :: frs (cxOf (CX1 P w) P w K mg base N qual scope f cd A outer s₀ H₀ E).stack)) (envOfC qual scope s₀.heap.objs.size f cd :: outer) e (.ref C) s'.heap h2) J.ok.frames hl rfl
    ⟨oe, ws, T, oT, ts, g1, g2, g3, g4, PySem.W.hideAll_none _ (List.mem_cons_of_mem _ List.mem_cons_self), g6, g7, g8, g9⟩ (fun b o z => PySem.W.of_hideAll _ z) (PySem.W.hideAll_none _ List.mem_cons_self) fun h2 lf => ⟨h2, rfl, lf⟩
  refine wpAny_mono (DS.any (ds_leaving _ _) fin ⟨oe, g1, rfl⟩) (fun _ s2 ⟨⟨h2, e2, lf⟩, hd2⟩ => ?_) fun _ _ z => z
  subst e2
  obtain ⟨st, ff2, tr, up⟩ := lf
  have lf := J.left (h' := h2) (es := [e, T]) rfl (fun b hb => by
      simp only [List.mem_cons, List.not_mem_nil, or_false] at hb
      rcases hb with rfl | rfl
      · exact ⟨hHe, s0 ne⟩
      · exact ⟨hHT, s0 g5⟩) (fun b o z nf ne => st b o (PySem.W.hideAll_get _ z (by
        intro m
        rcases List.mem_cons.mp m with r | m
        · exact ne (by simp [r])
        · rcases List.mem_cons.mp m with r | r
          · exact ne (by simp [r])
          · exact nf r)))
      (fun b o z hb => by
        obtain ⟨_, o', z', hd⟩ := ff.mem hb
        rw [z] at z'; cases z'
        exact up b o z hd)
  obtain ⟨oe2, ws2, T2, oT2, ts2, k1, k2, k3, k4, k5, k6, k7, k8, k9⟩ := tr
  have nT : T2 ∉ frs (cxOf (CX1 P w) P w K mg base N qual scope f cd A outer s₀ H₀ E).stack := fun z => by
    obtain ⟨_, o, zo, hd⟩ := ff2.mem z
    rw [k7] at zo; cases zo
    exact hd ts2 k8
  have hT0 : s₀.heap.get? T2 = none ∧ H' T2 = none := by
    by_cases r : T2 = T
    · subst r; exact ⟨s0 g5, hHT⟩
    · have key : ∀ o, s'.heap.get? T2 = some o → False := fun o z => by
        rw [PySem.W.hideAll_get _ z (by
          intro m
          rcases List.mem_cons.mp m with q | m
          · exact k6 q
          · rcases List.mem_cons.mp m with q | q
            · exact r q
            · exact nT q)] at k5
        cases k5
      constructor
      · cases z : s₀.heap.get? T2 with
        | none => rfl
        | some o => obtain ⟨o', z'⟩ := J.base.there T2 o z (by intro q; cases q); exact (key o' z').elim
      · cases z : H' T2 with
        | none => rfl
        | some o => obtain ⟨o', z'⟩ := (J.hok T2 o z).get; exact (key o' z').elim
  refine ⟨e, C, xo, H', rfl, J.os, J.bare, lf.1, lf.2, ⟨⟨oe2, ws2, T2, oT2, ts2, k1, k2, k3, k4, hT0.1, k6, k7, k8, k9⟩, s0 ne, hHe, fun oe' vs' T' z1 z2 z3 => ?_, fun dx z => by
      obtain ⟨o, y1, y2⟩ := dc dx z
      rw [g1] at y1; cases y1
      rw [y2] at hd2; exact hd2⟩, q⟩
  rw [k1] at z1; cases z1
  rw [k3] at z2; cases z2
  rw [k4] at z3; cases z3
  exact hT0.2
end
end L2
set_option Elab.async false
set_option maxRecDepth 100000
namespace L2
open PySem PySem.Spec PyProof.Rows
def tRaise (C : Addr) (E : XK) (t : TA) : TS := fun _ σ H => t σ H fun vs H1 => vs.length ≤ sizeLine ∧ E (.ref C) none H1
theorem ps_raise {X : Cx} {E : XK} {x : Str} {C : Addr} {B newId initId : String} {bm : List Value} {np cpos pos : Pos} {e : Expr} {es : List Expr} {t : TA} (O : OwnCls x C bm newId X.mg X.base) (FB : ExcBaseFacts B newId initId bm) (hc : X.calm = true) (hg : Gl X x)
  (hx : ∀ (pins : List (Addr × Obj)) (σ : St) (H : Hp) (s : Shared) (h' : Heap) (t' : Nat) (e : Addr) (vs : List Value), Inv X pins σ H s → Heap.MadeExcOf s.heap h' e (.ref C) vs → E (.ref C) none H → X.xe (.ref e) { s with heap := h', toks := t' })
  (ha : PA X (e :: es) t) (hd : (x == ("__debug__" : Str)) = false := by decide) (he : starEach (e :: es) X.env = (false, eval e X.env) :: starEach es X.env := by rfl) (hpl : (backTo cpos (starEach es X.env)).any (·.1) = false := by rfl) :
  PS X (.Raise (some (.Call (.Name x np) (e :: es) [] cpos)) none pos) (tRaise C E t) := by
 intro pins s σ H D I h
 obtain ⟨tl, N, nm, q, bs, hdct, sn, sub, ab, col, dd, k0, k1, k2, k3, k5, mN, hC, hN, hni, T⟩ := O.obj
 refine wpAny_Raise_call_subT (C := C) (nm := nm) (q := q) (N := N) (bs := bs) (bm := tl) (hdct := hdct) (sn := sn) (sub := sub) (ab := ab) (col := col) (dd := dd) (k0 := k0) (k1 := k1) (k2 := k2) (k3 := k3) (k5 := k5)
  FB (mN := mN) (T.hasType FB.hasBase) (I.ok.hd hc) (by rw [he]; show (false || (backTo cpos (starEach es X.env)).any (·.1)) = false; rw [hpl]; rfl) hni (ld_glob I hg O.bound ⟨rfl, ?_⟩ hd)
 have h1 := ha cpos pins s σ H _ I h
 rw [he] at h1 ⊢
 refine Calls.evalArgs_plain (wpAny_mono h1 (fun us s2 ⟨vs, H2, I2, r2, hl, hE⟩ => ⟨rfl, by show us.length ≤ sizeLine; rw [← r2.length]; exact hl, I2.bk _ _ hC, hN.keeps I2.bk, T.keeps I2.bk, fun h' a mk => ?_⟩) fun _ _ y => y)
 exact hx pins σ H2 s2 h' s2.toks a us I2 mk hE
section
variable {P : Program} {w : World} {K : PySem.W.Frag} {mg : Str → Option Value} {base : Heap}
theorem Fun.ok1 {x qual : Str} {st : Stmt} {f : Addr} {fd : FuncData} {N ps : List Str} {k : Nat} {sp : Sp} (F : Fun K x qual st f fd) (S : FnScope N ps (defScope st)) (len : ∀ vs H Q E, sp vs H Q E → vs.length = ps.length)
  (hbody : ∀ (cdv : Value) (A : Around) (outer : List Env) (s : Shared) (H : Hp) (vs : List V) (Q : VK) (E : XK), Room k (A.deeper (envOfC qual (defScope st) s.heap.objs.size f cdv)) → sp vs H Q E →
   ∃ t, PSs (cxOf (CX1 P w) P w K mg base N qual (defScope st) f cdv A outer s H E) (defBody st) t ∧ t { nx := fun _ H' => Q .non H', rt := Q } (start N vs) H) : FnOk P w K mg base (CX1 P w) (k + 1) f fd ps sp := by
 obtain ⟨oc, od, kV, doc, pm, an, cdv, ct, osl, rfl, lk, hcd⟩ := F.ex
 exact fn_of lk hcd S len fun A outer s H vs Q E hr hsp => hbody cdv A outer s H vs Q E hr hsp
theorem FnOk.up {k : Nat} {f : Addr} {fd : FuncData} {ps : List Str} {sp : Sp} (F : FnOk P w K mg base CX0 k f fd ps sp) : FnOk P w K mg base (CX1 P w) k f fd ps sp :=
 ⟨F.len, fun A outer s H args us vs Q E hr e0 hb hv hs => codeAny_mono (F.run A outer s H args us vs Q E hr e0 hb hv hs) fun r s' h => by
  cases r with
  | error e => exact False.elim h
  | ok fl => cases fl <;> exact h⟩
end
end L2
set_option Elab.async false
set_option maxRecDepth 100000
namespace L2
open PySem PySem.Spec PyProof.Rows PySem.W Builtin Builtin.ObjectAttr Builtin.Getset_descriptor
section
variable {prog : Program} {w : World} {A : Around} {E : Value → Shared → Prop} {s : Shared} {K : PySem.W.Frag} {x C : Addr} {R : Result → Shared → Prop}
theorem cls_get {tp : Value} (X : K.In s.heap) (LT : Looks (model prog w) s.heap (typeOf (.ref x)) (.ref C)) (hm : mroIn K C (.type "object") = some true)
  (h : R (.ok (.ret (.ref C))) s) : codeAny (model prog w) A (.call (.builtin "getset_descriptor.__get__") ⟨[.builtin "object.__class__", .ref x, tp], []⟩) R s := by
 have L1 := looks_mroIn (M := model prog w) X hm; obtain ⟨hh, g, dr, t, os⟩ := s
 refine codeAny_call_builtin KF.slot_gs.plain KF.entry_gs (KF.slot_gs.check _ _ _ _ _ _ _ _ KF.type_class (KF.args_gs _ _ _) ?_); unfold Builtin.«getset_descriptor.__get__» descrGet; rw [dga_obj]
 refine wpAny_bind (wpAny_pure ?_); unfold descrGetter descrCheckInstance descrNameAndClass isInstance; simp only [KF.owner_class]
 repeat lk
 refine ⟨Code.quiet_builtin _ (by decide +kernel), codeAny_builtin KF.entry_class ?_⟩; unfold Builtin.«object.__class__» shownTypeOf
 repeat lk
 exact h
theorem exc_class {Q : Option Value → Shared → Prop} (X : K.In s.heap) (LT : Looks (model prog w) s.heap (typeOf (.ref x)) (.ref C))
  (hga : findIn K (.ref C) "__getattribute__" = some (some (.builtin "BaseException.__getattribute__"))) (hgt : findIn K (.ref C) "__getattr__" = some none)
  (ha : findIn K (.ref C) "__class__" = some (some (.builtin "object.__class__"))) (hn : specialIn K (.builtin "object.__class__") "__get__" = some (some (.builtin "getset_descriptor.__get__"))) (htk : takesIn K (.builtin "object.__class__") = some true)
  (hm : mroIn K C (.type "object") = some true) (hb : mroIn K C (.type "BaseException") = some true)
  (h : Q (some (.ref C)) { s with toks := s.toks + 1 }) : wpAny (model prog w) A (getAttr? (.ref x) "__class__") Q E s := by
 obtain ⟨hh, g, d, t, os⟩ := s
 have L1 := looks_findIn (M := model prog w) X hga
 have L2 := looks_findIn (M := model prog w) X hgt
 have L3 := looks_mroIn (M := model prog w) X hb
 have L4 : Looks (model prog w) hh (find (.ref x) (.ref C) "__class__") (.bind (.builtin "getset_descriptor.__get__") (.builtin "object.__class__")) := by
  have a1 := looks_findIn (M := model prog w) X ha
  have a2 : Looks (model prog w) hh (getOf (some (.builtin "object.__class__"))) (some (.builtin "getset_descriptor.__get__")) := looks_specialIn X hn
  have a3 := looks_takesIn (M := model prog w) X htk
  refine a1.andThen (a2.andThen ?_)
  have a4 : Looks (model prog w) hh (dataDescriptor? (some (.builtin "object.__class__")) (some (.builtin "getset_descriptor.__get__"))) (some (.builtin "getset_descriptor.__get__", .builtin "object.__class__")) := a3.andThen .now
  exact a4.andThen (Looks.tag .now)
 have f3 := (F.attrBase_ValueError).ga.bind (.ref x)
 unfold getAttr? getAttrBy? getAttrBy
 refine wpAny_bind (wpAny_mkText (wpAny_bind (wpAny_attempt (wpAny_holding (wpAny_bind (LT.at (wpAny_bind (L1.at ?_))))))))
 show wpAny _ _ (getAttrByItsOwn _ _ _ _ _ _) _ _ _
 unfold getAttrByItsOwn hookBefore
 refine wpAny_bind (L2.at ?_)
 refine wpAny_bind (wpAny_attempt (wpAny_holding ?_))
 show wpAny _ _ (boundAndCalled _ _ _) _ _ _
 unfold boundAndCalled
 rw [f3]
 refine wpAny_bind (wpAny_pure (wpAny_call ?_))
 have hk : builtinKind "BaseException.__getattribute__" = some .slot := (by decide +kernel); have hsplit : splitId "BaseException.__getattribute__" = some ("BaseException", "__getattribute__") := by decide +kernel
 refine codeAny_call_builtin (F.attrBase_ValueError).ga.plain F.entry_bexc_ga ?_
 have ha := F.args_bexc_ga (.ref x) (.str "__class__" t)
 simp only [checkBuiltinCall, hk, hsplit]; refine wpAny_bind ?_
 unfold isInstance
 refine wpAny_bind (LT.at (L3.at ?_))
 simp only [Bool.not_true, Bool.false_eq_true, if_false]; refine wpAny_of_eq (a := ()) ha ?_
 unfold Builtin.«object.__getattribute__»
 repeat (first | with_reducible refine wpAny_call (cls_get X LT hm ?_) | lk)
 exact h
end
end L2
set_option Elab.async false
set_option maxRecDepth 100000
namespace L2
open PySem PySem.Spec PyProof.Rows
structure ExcIn (K : PySem.W.Frag) (C : Addr) : Prop where
 ga : PySem.W.findIn K (.ref C) "__getattribute__" = some (some (.builtin "BaseException.__getattribute__"))
 gt : PySem.W.findIn K (.ref C) "__getattr__" = some none
 cl : PySem.W.findIn K (.ref C) "__class__" = some (some (.builtin "object.__class__"))
 gs : PySem.W.specialIn K (.builtin "object.__class__") "__get__" = some (some (.builtin "getset_descriptor.__get__"))
 tk : PySem.W.takesIn K (.builtin "object.__class__") = some true
 mo : PySem.W.mroIn K C (.type "object") = some true
 mb : PySem.W.mroIn K C (.type "BaseException") = some true
theorem ExcIn.cls {K : PySem.W.Frag} {C : Addr} (e : ExcIn K C) : ∃ cd, PySem.W.clsIn K C = some cd := by
 obtain ⟨cd, hc, _⟩ := Option.bind_eq_some_iff.mp e.mo
 exact ⟨cd, hc⟩
def ExcAt (e C : Addr) (h : Heap) : Prop := ∃ o, h.get? e = some o ∧ o.cls = .ref C
theorem ExcAt.looks {e C : Addr} {h : Heap} {M : Model} (p : ExcAt e C h) : PySem.W.Looks M h (typeOf (.ref e)) (.ref C) := by
 obtain ⟨o, h1, h2⟩ := p
 rw [← h2]; exact (PySem.W.Looks.ld h1).andThen .now
def ExcAtX (e C : Addr) (xo : Option Addr) (h : Heap) : Prop := ∃ o vs, h.get? e = some o ∧ o.cls = .ref C ∧ o.data = .fields vs ∧ ∀ dx, xo = some dx → o.dict = some dx
theorem ExcAtX.at {e C : Addr} {xo : Option Addr} {h : Heap} (p : ExcAtX e C xo h) : ExcAt e C h := let ⟨o, _, h1, h2, _⟩ := p; ⟨o, h1, h2⟩
def ExcX (e C : Addr) (xo : Option Addr) : HO := .ext (ExcAtX e C xo)
theorem kitx_exc {K : PySem.W.Frag} {e C : Addr} (x : ExcIn K C) : PySem.W.KitX K (.ref e) (.ref C) (ExcAt e C) where
 ty := fun _ _ _ p => ExcAt.looks p
 it := fun _ _ X _ => by
  obtain ⟨cdD, hcD⟩ := x.cls
  unfold PySem.W.clsIn at hcD
  split at hcD
  ·rename_i ho
   intro A' Q' E' s' k q
   unfold isType loadHead
   exact wpAny_bind (wpAny_loadPart (k _ _ (X _ _ ho)) (wpAny_pure q))
  ·cases hcD
 ne := fun h tp dd its n sl X htp => by
  obtain ⟨cdD, hcD⟩ := x.cls
  refine Bool.eq_false_iff.mpr fun q => ?_
  have z := Value.ref.inj (beq_iff_eq.mp q)
  subst z
  unfold PySem.W.clsIn at hcD
  split at hcD
  ·rename_i ho
   have z := (X _ _ ho).symm.trans htp
   cases z
  ·cases hcD
 ca := fun X p k => exc_class X (ExcAt.looks p) x.ga x.gt x.cl x.gs x.tk x.mo x.mb k
def rIsiX (K : PySem.W.Frag) : List V → Hp → VK → Prop := fun xs H Q => ∃ e C xo y c b, xs = [.ref e, y] ∧ H e = some (ExcX e C xo) ∧ ExcIn K C ∧ RelV y c ∧ PySem.W.kitOne K (.ref C) c = some b ∧ Q (.bl b) H
theorem cI_isinstX {X : Cx} : CallR X (.builtin "isinstance") (rIsiX X.K) := by
 intro pins s σ H xs us Q I r h
 obtain ⟨e, C, xo, y, c, b, rfl, he, ex, ry, k, q⟩ := h
 obtain ⟨u, v, rfl, ru, rv⟩ := r.two
 cases (show u = Value.ref e from ru)
 have hv : v = c := by
  cases y with
  | ref a => exact (show v = Value.ref a from rv).trans (show c = Value.ref a from ry).symm
  | ty n => exact (show v = Value.type n from rv).trans (show c = Value.type n from ry).symm
  | non => exact (show v = Value.none from rv).trans (show c = Value.none from ry).symm
  | bl z => exact (show v = Value.bool z from rv).trans (show c = Value.bool z from ry).symm
  | int i => obtain ⟨t, rfl⟩ := ry; simp [PySem.W.kitOne, PySem.W.kitCls] at k
  | str i => obtain ⟨t, rfl⟩ := ry; simp [PySem.W.kitOne, PySem.W.kitCls] at k
  | byt i => obtain ⟨t, rfl⟩ := ry; simp [PySem.W.kitOne, PySem.W.kitCls] at k
  | flt i => obtain ⟨t, rfl⟩ := ry; simp [PySem.W.kitOne, PySem.W.kitCls] at k
 subst hv
 have p : ExcAt e C s.heap := ExcAtX.at (show ObjOk X.prog X.w H s.heap e (.ext (ExcAtX e C xo)) from I.hok e _ he).1
 exact PySem.W.kia_one (kitx_exc ex) I.kIn p k (fun z => nomatch z) fun tk => ⟨.bl b, H, I.tok tk, rfl, q⟩
theorem cI_isinstXK {X : Cx} (K : PySem.W.Frag) (h : X.K = K) : CallR X (.builtin "isinstance") (rIsiX K) := h ▸ cI_isinstX
theorem rd_isiX {K : PySem.W.Frag} {H : Hp} {Q : VK} {e C D : Addr} {xo : Option Addr} {b : Bool} (he : H e = some (ExcX e C xo)) (x : ExcIn K C) (k : PySem.W.kitOne K (.ref C) (.ref D) = some b) (q : Q (.bl b) H) : rIsiX K [.ref e, .ref D] H Q :=
 ⟨e, C, xo, .ref D, .ref D, b, rfl, he, x, rfl, k, q⟩
theorem rd_isiXT {K : PySem.W.Frag} {H : Hp} {Q : VK} {e C : Addr} {xo : Option Addr} {n : String} {b : Bool} (he : H e = some (ExcX e C xo)) (x : ExcIn K C) (k : PySem.W.kitOne K (.ref C) (.type n) = some b) (q : Q (.bl b) H) : rIsiX K [.ref e, .ty n] H Q :=
 ⟨e, C, xo, .ty n, .type n, b, rfl, he, x, rfl, k, q⟩
section
variable {X : Cx} {pins : List (Addr × Obj)} {σ : St} {H : Hp} {s : Shared}
theorem Inv.held {h' : Heap} {es : List Addr} (I : Inv X pins σ H s) (hs : X.stack = X.env :: X.outer) (hf : X.env.frame = some X.env.locals)
  (he : ∀ b ∈ es, H b = none ∧ X.s₀.heap.get? b = none ∧ (∀ p ∈ X.pn ++ pins, p.1 ≠ b) ∧ ∃ o vs, s.heap.get? b = some o ∧ o.data = .fields vs)
  (keep : ∀ b o, s.heap.get? b = some o → b ∉ frs X.stack → b ∉ es → h'.get? b = some o) (slot : ∀ b o, s.heap.get? b = some o → b ∈ frs X.stack → ∃ sl, h'.get? b = some { o with slots := sl }) : Inv X pins σ H { s with heap := h' } := by
 have lf := I.left hs (fun b hb => ⟨(he b hb).1, (he b hb).2.1⟩) keep slot
 have inL : X.env.locals ∈ frs X.stack := by rw [hs]; unfold frs; rw [List.filterMap_cons, hf]; exact List.mem_cons_self
 have cellK : ∀ c v, s.heap.IsCell c v → h'.IsCell c v := fun c v ⟨o, ho, hd⟩ => by
  by_cases hb : c ∈ frs X.stack
  ·obtain ⟨sl, q⟩ := slot c o ho hb
   exact ⟨_, q, hd⟩
  ·refine ⟨o, keep c o ho hb fun hm => ?_, hd⟩
   obtain ⟨_, _, _, o', vs, ho', hd'⟩ := he c hm
   rw [ho] at ho'; cases ho'; rw [hd] at hd'; cases hd'
 refine ⟨I.ok, I.os, I.bare, lf.1, ?_, fun x c e => ?_, I.free, I.freeC, fun p hp => ?_, lf.2, I.len⟩
 ·obtain ⟨m, ⟨o, es', ep, ho, r⟩, hl⟩ := I.loc
  obtain ⟨sl, hL⟩ := slot _ o ho inL
  refine ⟨m, ⟨_, es', ep, hL, r⟩, fun i x v e1 e2 e3 => ?_⟩
  obtain ⟨u, ru, l⟩ := hl i x v e1 e2 e3
  refine ⟨u, ru, ?_⟩
  rcases l with l | ⟨k, c, e, z⟩
  ·exact .inl l
  ·exact .inr ⟨k, c, e, cellK c _ z⟩
 ·obtain ⟨v, z⟩ := I.cell x c e
  exact ⟨v, cellK c v z⟩
 ·obtain ⟨e, n, ne, nf, d⟩ := I.pin p hp
  refine ⟨keep p.1 p.2 e (fun z => ?_) fun z => (he p.1 z).2.2.1 p hp rfl, n, ne, nf, d⟩
  rcases List.mem_cons.mp (I.stkSub p.1 z) with q | q
  ·exact ne q
  ·exact nf q
theorem Inv.track {e : Addr} {φ : Heap → Prop} (I : Inv X pins σ H s) (hH : H e = none) (h0 : X.s₀.heap.get? e = none) (hp : ∀ p ∈ X.pn ++ pins, p.1 ≠ e) (hd : ∃ o vs, s.heap.get? e = some o ∧ o.data = .fields vs)
    (hφ : φ s.heap) (st : ∀ h1 h2 : Heap, φ h1 → (∀ o, h1.get? e = some o → h2.get? e = some o) → φ h2) : Inv X pins σ (upd H e (.ext φ)) s := by
  obtain ⟨oe, vs, ho, hdd⟩ := hd
  have ne : ∀ b u, H b = some u → b ≠ e := fun b u z => ne_of_none z hH
  have n0 : ∀ b o, X.s₀.heap.get? b = some o → b ≠ e := fun b o z q => by rw [q, h0] at z; cases z
  have nH0 : ∀ b u, X.H₀ b = some u → H b ≠ none → b ≠ e := fun b u _ z q => z (q ▸ hH)
  refine ⟨I.ok, I.os, I.bare, ⟨I.base.keep, I.base.slot, fun b o z n hx => ?_, I.base.there, fun b xs z => ?_, fun b o u z => ?_, fun b ps z => ?_⟩, I.loc, I.cell, ?_, fun x c z => ?_, fun p hp' => ?_, fun b u z => ?_, I.len⟩
  · rw [upd_ne (n0 b o z)]; exact I.base.free b o z n hx
  · have q := I.base.tups b xs z
    rw [upd_ne (ne _ _ q)]; exact q
  · have q := I.base.frzs b o u z
    rw [upd_ne (ne _ _ q)]; exact q
  · obtain ⟨m, q⟩ := I.base.tbls b ps z
    exact ⟨m, by rw [upd_ne (ne _ _ q)]; exact q⟩
  · have q : X.env.locals ≠ e := fun q => by
      obtain ⟨m, ⟨o', es, ep, ho', hd', _⟩, _⟩ := I.loc
      rw [q, ho] at ho'; cases ho'; rw [hdd] at hd'; cases hd'
    rw [upd_ne q]; exact I.free
  · have q : c ≠ e := fun q => by
      obtain ⟨v, o', ho', hd'⟩ := I.cell x c z
      rw [q, ho] at ho'; cases ho'; rw [hdd] at hd'; cases hd'
    rw [upd_ne q]; exact I.freeC x c z
  · obtain ⟨a, n, r⟩ := I.pin p hp'
    exact ⟨a, by rw [upd_ne (hp p hp')]; exact n, r⟩
  · by_cases q : b = e
    · subst q
      rw [upd_same] at z
      cases z
      exact ⟨hφ, ⟨oe, ho⟩, st⟩
    · rw [upd_ne q] at z
      refine (I.hok b u z).stay (fun _ _ _ w => w) (fun c w => ?_) fun c xs w => ?_
      · rw [upd_ne (ne _ _ w)]; exact w
      · rw [upd_ne (ne _ _ w)]; exact w
end
end L2
set_option Elab.async false
set_option maxRecDepth 100000
namespace L2
open PySem PySem.Spec PyProof.Rows
abbrev Cx.tryIn (X : Cx) (pins : List (Addr × Obj)) (E : Value → Shared → Prop) : Cx := { X with pn := X.pn ++ pins, xe := E }
section
variable {X : Cx} {pins pins' : List (Addr × Obj)} {σ : St} {H : Hp} {s : Shared} {E : Value → Shared → Prop}
theorem Cx.Ok.tryIn (ok : X.Ok) : (X.tryIn pins E).Ok :=
 ⟨ok.mod, ok.kind, ok.glob, ok.blt, ok.above, ok.inj, ok.has, ok.cab, ok.hd, ok.frames, ok.stk, ok.exf, ok.bs, ok.bsz, ok.noex, ok.exfs, ok.funs, ok.frf⟩
theorem Cx.Ok.tryOut (ok : (X.tryIn pins E).Ok) : X.Ok :=
 ⟨ok.mod, ok.kind, ok.glob, ok.blt, ok.above, ok.inj, ok.has, ok.cab, ok.hd, ok.frames, ok.stk, ok.exf, ok.bs, ok.bsz, ok.noex, ok.exfs, ok.funs, ok.frf⟩
theorem Inv.tryIn (I : Inv X pins σ H s) (E : Value → Shared → Prop) : Inv (X.tryIn pins E) [] σ H s :=
 ⟨I.ok.tryIn, I.os, I.bare, I.base, I.loc, I.cell, I.free, I.freeC, fun p hp => I.pin p (by simpa using hp), I.hok, I.len⟩
theorem Inv.tryOut (I : Inv (X.tryIn pins E) pins' σ H s) : Inv X pins σ H s :=
 ⟨I.ok.tryOut, I.os, I.bare, I.base, I.loc, I.cell, I.free, I.freeC, fun p hp => I.pin p (List.mem_append_left _ hp), I.hok, I.len⟩
theorem SP.tryOut {D : Ends} {f : Flow} {s' : Shared} (h : SP (X.tryIn pins E) pins' D f s') : SP X pins D f s' := by
 cases f with
 | next => obtain ⟨σ', H', I, q⟩ := h; exact ⟨σ', H', I.tryOut, q⟩
 | brk => obtain ⟨σ', H', I, q⟩ := h; exact ⟨σ', H', I.tryOut, q⟩
 | cont => obtain ⟨σ', H', I, q⟩ := h; exact ⟨σ', H', I.tryOut, q⟩
 | ret u => obtain ⟨v, σ', H', I, r, q⟩ := h; exact ⟨v, σ', H', I.tryOut, r, q⟩
end
def XT (X : Cx) (pins : List (Addr × Obj)) (ET : St → XK) : Value → Shared → Prop := fun x s' => ∃ (σ : St) (e C : Addr) (xo : Option Addr) (H' : Hp), x = .ref e ∧ Inv X pins σ H' s' ∧ Exc X.s₀.heap s'.heap H' e C xo ∧
 (∀ p ∈ X.pn ++ pins, p.1 ≠ e ∧ ∀ oe vs T, s'.heap.get? e = some oe → oe.data = .fields vs → vs[1]? = some (.ref T) → p.1 ≠ T) ∧ ET σ (.ref C) xo H'
def PassesS (CX : CXT) (X : Cx) (ET : St → XK) : Prop := ∀ (pins : List (Addr × Obj)) (σ : St) (H : Hp) (s : Shared) (e : Value) (s' : Shared), Inv X pins σ H s → CX X.stack H s (ET σ) e s' → X.xe e s'
theorem passT {X : Cx} {pins : List (Addr × Obj)} {ET : St → XK} (hx : X.ex = [] := by rfl) : PassesS (CX1 X.prog X.w) (X.tryIn pins (XT X pins ET)) ET := by
 intro pins' σ H s x s' I h
 obtain ⟨e, C, xo, H', rfl, os, bare, un, hok, ex, q⟩ := h
 have J := I.call' (s' := s') (ch := []) os un hok bare (fun b hb => by cases hb)
 obtain ⟨⟨oe, ws, T, oT, ts, g1, g2, g3, g4, g5, g6, g7, g8, g9⟩, ne, hHe, hHT, dc⟩ := ex
 have s0 : ∀ {b : Addr}, s.heap.get? b = none → X.s₀.heap.get? b = none := fun {b} hb => by
  cases z : X.s₀.heap.get? b with
  | none => rfl
  | some o => obtain ⟨o', z'⟩ := I.base.there b o z (by show b ∉ X.ex; rw [hx]; simp); rw [hb] at z'; cases z'
 refine ⟨σ, e, C, xo, H', rfl, J.tryOut, ⟨⟨oe, ws, T, oT, ts, g1, g2, g3, g4, s0 g5, g6, g7, g8, g9⟩, s0 ne, hHe, hHT, dc⟩, fun p hp => ?_, q⟩
 have hp' := (I.pin p (List.mem_append_left _ hp)).1
 refine ⟨fun z => (by rw [z, ne] at hp'; cases hp'), fun oe' vs' T' z1 z2 z3 z => ?_⟩
 rw [g1] at z1; cases z1
 rw [g3] at z2; cases z2
 rw [g4] at z3; cases z3
 rw [z, g5] at hp'
 cases hp'
def tCallS (sp : Sp) (dvs : List V) (ET : St → XK) (t : TA) : TE := fun σ H Q => t σ H fun vs H1 => sp (vs ++ dvs) H1 Q (ET σ)
section
variable {X : Cx} {CX : CXT} {k : Nat} {f C : Addr} {fd : FuncData} {ps : List Str} {sp : Sp} {dvs : List V} {ds : List Value} {ET : St → XK} {x m : Str} {p pos apos : Pos} {e o : Expr} {es : List Expr} {ta : TE} {t : TA}
theorem run_fnS {pins : List (Addr × Obj)} {σ : St} {H : Hp} {s : Shared} {Q : VK} {us : List Value} {vs : List V} (F : FnOk X.prog X.w X.K X.mg X.base CX k f fd ps sp) (hr : Room k X.A) (hb : Binds X.K fd ps ds) (hd : Vals dvs ds) (hx : PassesS CX X ET)
  (I : Inv X pins σ H s) (r : Vals vs us) (h : sp (vs ++ dvs) H Q (ET σ)) : wpAny (model X.prog X.w) X.A (call (.ref f) us) (EP X pins σ Q) X.xe s := by
 have r2 : Vals (vs ++ dvs) (us ++ ds) := r.append hd
 have hl : (us ++ ds).length = ps.length := by rw [← r2.length]; exact F.len _ _ _ _ h
 refine wpAny_call (codeAny_mono (F.run X.A X.stack s H ⟨us, []⟩ (us ++ ds) (vs ++ dvs) Q (ET σ) hr I.env0 (hb s us I.kIn hl) r2 h) fun r s' hq => ?_)
 cases r with
 | error e => exact hx pins σ H s e s' I hq
 | ok fl =>
  cases fl with
  | ret u => exact I.after hq
  | next => exact False.elim hq
  | brk => exact False.elim hq
  | cont => exact False.elim hq
theorem pe_callS (F : FnOk X.prog X.w X.K X.mg X.base CX k f fd ps sp) (hr : Room k X.A) (hg : Gl X x) (hm : X.mg x = some (.ref f)) (hk : PySem.W.keepIn X.K (.ref f) = true) (hb : Binds X.K fd ps ds) (hd : Vals dvs ds) (hx : PassesS CX X ET)
  (ha : PA X (e :: es) t) (hdb : (x == ("__debug__" : Str)) = false := by decide) (he : starEach (e :: es) X.env = (false, eval e X.env) :: starEach es X.env := by rfl) (hpl : (backTo pos (starEach es X.env)).any (·.1) = false := by rfl) :
  PE X (.Call (.Name x p) (e :: es) [] pos) (tCallS sp dvs ET t) := by
 intro pins s σ H Q I h
 refine wpAny_Call_Name_kw (ld_glob I hg hm ?_ hdb)
 refine PySem.W.callWith_K (h₀ := X.base) I.ok.mod.kin hk (thn (ha pos pins s σ H _ I h) fun us s1 ⟨vs, H1, I1, r, q⟩ => ⟨I1.kIn, ?_⟩) he hpl
 exact run_fnS F hr hb hd hx I1 r q
end
section
variable {σ : St} {H : Hp} {Q : VK}
theorem rd_callS {sp : Sp} {dvs : List V} {ET : St → XK} {t : TA} (h : t σ H fun vs H1 => sp (vs ++ dvs) H1 Q (ET σ)) : tCallS sp dvs ET t σ H Q := h
end
abbrev Cx.suite (X : Cx) (e : Addr) : Cx := { X with A := X.A.mark (some (.ref e)), calm := false, xe := fun _ _ => False }
section
variable {X : Cx} {pins : List (Addr × Obj)} {σ : St} {H : Hp} {s : Shared} {e : Addr}
theorem Cx.Ok.suite (ok : X.Ok) : (X.suite e).Ok :=
 ⟨ok.mod, ok.kind, ok.glob, ok.blt, ok.above, ok.inj, ok.has, ok.cab, fun z => Bool.noConfusion z, ok.frames, ok.stk, ok.exf, ok.bs, ok.bsz, ok.noex, ok.exfs, ok.funs, ok.frf⟩
theorem Inv.suite (I : Inv X pins σ H s) : Inv (X.suite e) pins σ H s := ⟨I.ok.suite, I.os, I.bare, I.base, I.loc, I.cell, I.free, I.freeC, I.pin, I.hok, I.len⟩
theorem Inv.unsuite (ok : X.Ok) (I : Inv (X.suite e) pins σ H s) : Inv X pins σ H s := ⟨ok, I.os, I.bare, I.base, I.loc, I.cell, I.free, I.freeC, I.pin, I.hok, I.len⟩
end
end L2
set_option Elab.async false
set_option maxRecDepth 100000
namespace L2
open PySem PySem.Spec PyProof.Rows
def Dh (i : Nat) (D : Ends) : Ends := { nx := fun σ H => D.nx (σ.set i none) H, rt := D.rt, bk := fun σ H => D.bk (σ.set i none) H, ct := fun σ H => D.ct (σ.set i none) H }
def ETof (K : PySem.W.Frag) (S : Addr) (i : Nat) (ts : TS) (D : Ends) : St → XK := fun σ cls xo H1 => ∃ C, cls = .ref C ∧ PySem.W.exmOne K (.ref C) (.ref S) = some true ∧ ∀ e, H1 e = none → ts (Dh i D) (σ.set i (some (.ref e))) (upd H1 e (ExcX e C xo))
def tTry (K : PySem.W.Frag) (S : Addr) (i : Nat) (tb : (St → XK) → TS) (ts : TS) : TS := fun D σ H => tb (ETof K S i ts D) D σ H
theorem gone_ok {X : Cx} {pins : List (Addr × Obj)} {σ : St} {H : Hp} {s : Shared} {M : Model} {A : Around} {E : Value → Shared → Prop} {i : Nat} {n : Str} {pos : Pos} {Q : Unit → Shared → Prop} (I : Inv X pins σ H s) (hN : X.N.Nodup) (hi : X.N[i]? = some n)
  (hk : X.env.kindOf n = some .local) (h : ∀ s', Inv X pins (σ.set i none) H s' → Q () s') : wpAny M A (do bindName X.env n .none; unbindBehindTheSuite X.env n pos) Q E s := by
 obtain ⟨m, hn, hl⟩ := id I.loc
 have hcls : (X.env.scope.kind == .class || (X.env.scope.kind == .module && X.env.locals != X.env.globals)) = false := by rw [I.ok.kind]; rfl
 have cne := I.cne
 refine wpAny_nameGoes_keeps hk hn hcls fun h' v hn' hs => h _ ?_
 obtain ⟨oL, _, _, hoL, _⟩ := id hn
 have hk' : HOk X.prog X.w H h' := fun b ob e => by
  refine (I.hok b ob e).stay (fun c w' hc q => (hs.2 c ?_).trans q) (fun _ q => q) fun _ _ q => q
  rintro rfl
  rcases hc with rfl | hc
  ·rw [I.free] at e; cases e
  ·rw [I.free] at hc; cases hc
 have nL : ∀ b o, X.s₀.heap.get? b = some o → b ≠ X.env.locals := fun b o e => Nat.ne_of_lt (Nat.lt_of_lt_of_le (Heap.lt_size e) I.ok.above)
 refine ⟨I.ok, I.os, I.bare, ⟨fun b o e n hb hx => (hs.2 b (nL b o e)).trans (I.base.keep b o e n hb hx), fun b o e n hb hx => ?_, I.base.free, fun b o e hx => ?_, I.base.tups, I.base.frzs, I.base.tbls⟩, ⟨_, hn', fun j y v' e1 e2 e3 => ?_⟩, fun y c e => ?_, I.free, I.freeC, fun p hp => ?_, hk', by simpa using I.len⟩
 ·obtain ⟨sl, e1⟩ := I.base.slot b o e n hb hx
  exact ⟨sl, (hs.2 b (nL b o e)).trans e1⟩
 ·obtain ⟨o', e1⟩ := I.base.there b o e hx
  exact ⟨o', (hs.2 b (nL b o e)).trans e1⟩
 ·by_cases hj : j = i
  ·subst hj
   have hiσ : j < σ.length := by rw [I.len]; exact (List.getElem?_eq_some_iff.mp hi).1
   rw [List.getElem?_set_self hiσ] at e2
   cases e2
  ·rw [List.getElem?_set_ne (Ne.symm hj)] at e2
   obtain ⟨u', r', q⟩ := hl j y v' e1 e2 e3
   refine ⟨u', r', ?_⟩
   rcases q with ⟨k, e⟩ | ⟨k, c, e, z⟩
   ·refine .inl ⟨k, ?_⟩
    have : y ≠ n := fun e => hj (nodup_ix hN e1 (e ▸ hi))
    simp [this, e]
   ·exact .inr ⟨k, c, e, z.sameBut hs (cne y c e)⟩
 ·obtain ⟨w', z⟩ := I.cell y c e
  exact ⟨w', z.sameBut hs (cne y c e)⟩
 ·obtain ⟨e, n, ne, nf, d⟩ := I.pin p hp
  exact ⟨(hs.2 p.1 ne).trans e, n, ne, nf, d⟩
theorem ps_try {X : Cx} {i : Nat} {n x : Str} {S : Addr} {body suite : List Stmt} {b₀ : Stmt} {np hpos pos : Pos} {tb : (St → XK) → TS} {ts : TS} (hN : X.N.Nodup) (hi : X.N[i]? = some n) (hk : X.env.kindOf n = some .local)
  (hg : Gl X x) (hm : X.mg x = some (.ref S)) (hb : ∀ pins ET, PSs (X.tryIn pins (XT X pins ET)) body (tb ET)) (hh : ∀ e, PSs (X.suite e) (b₀ :: suite) ts)
  (hs : X.stack = X.env :: X.outer := by rfl) (hf : X.env.frame = some X.env.locals := by rfl) (hd : (x == ("__debug__" : Str)) = false := by decide) :
  PS X (.Try body [.ExceptHandler (some (.Name x np)) (some n) (b₀ :: suite) hpos] [] [] pos) (tTry X.K S i tb ts) := by
 intro pins s σ H D I h
 refine wpAny_Try_except (wpAny_mono (hb pins (ETof X.K S i ts D) [] s σ H D (I.tryIn _) h) (fun f s1 q => ?_) (fun y s1 q => ?_))
 ·have q := q.tryOut
  cases f with
  | next =>
   obtain ⟨σ', H', I', q'⟩ := q
   exact pss_nil pins s1 σ' H' D I' q'
  | brk => exact q
  | cont => exact q
  | ret u => exact q
 ·obtain ⟨σ1, e, C, xo, H1, rfl, I1, ex, hp, C', hC, hx', k⟩ := q
  cases hC
  obtain ⟨⟨oe, ws, T, oT, tl, g1, g2, g3, g4, g5, g6, g7, g8, g9⟩, ne, hHe, hHT, dc⟩ := ex
  have hHT := hHT oe ws T g1 g3 g4
  obtain ⟨a0, h0⟩ : ∃ a0, ws[0]? = some a0 := by
   have hsz : 1 < ws.size := (Array.getElem?_eq_some_iff.mp g4).1
   exact ⟨ws[0], by simp [show 0 < ws.size by omega]⟩
  have ff := I1.stack
  have hl := PySem.W.funFrames_hide (as := e :: T :: frs X.stack) ff (stack_in fun b hb => List.mem_cons_of_mem _ (List.mem_cons_of_mem _ hb))
  have fl : Heap.FlyingW (PySem.W.hideAll s1.heap (e :: T :: frs X.stack)) (X.env :: X.outer) e (.ref C) a0 s1.heap :=
   ⟨fun b o z => PySem.W.of_hideAll _ z, PySem.W.hideAll_none _ List.mem_cons_self, hs ▸ hl, ⟨oe, ws, T, oT, tl, g1, ⟨g2, h0⟩, g3, g4, PySem.W.hideAll_none _ (List.mem_cons_of_mem _ List.mem_cons_self), g6, g7, g8, g9⟩⟩
  have stay : ∀ h', Heap.StaysIn (PySem.W.hideAll s1.heap (e :: T :: frs X.stack)) h' → s1.heap.UpToSlots h' → Inv X pins σ1 H1 { s1 with heap := h' } := fun h' st sm => by
   refine I1.held (es := [e, T]) hs hf (fun b hb => ?_) (fun b o z nf nm => st b o (PySem.W.hideAll_get _ z ?_)) fun b o z hb => ?_
   ·simp only [List.mem_cons, List.not_mem_nil, or_false] at hb
    rcases hb with rfl | rfl
    ·exact ⟨hHe, ne, fun p hq => (hp p hq).1, oe, ws, g1, g3⟩
    ·exact ⟨hHT, g5, fun p hq => (hp p hq).2 oe ws _ g1 g3 g4, oT, tl, g7, g8⟩
   ·intro m
    rcases List.mem_cons.mp m with r | m
    ·exact nm (by simp [r])
    ·rcases List.mem_cons.mp m with r | r
     ·exact nm (by simp [r])
     ·exact nf r
   ·obtain ⟨_, o', z', hd'⟩ := ff.mem hb
    rw [z] at z'; cases z'
    exact sm b o z hd'
  refine wpAny_mono (DS.any (ds_noteFrame _ _) (wpAny_looks_onW (Q := fun _ s2 => ∃ h4, s2 = { s1 with heap := h4 } ∧ Heap.HeldW (PySem.W.hideAll s1.heap (e :: T :: frs X.stack)) (X.env :: X.outer) e (.ref C) a0 X.env.locals h4 ∧ s1.heap.UpToSlots h4) (I1.ok.frames.trans (congrArg some hs)) hf fl fun h4 held sm4 => ⟨h4, rfl, held, sm4⟩) ⟨oe, g1, rfl⟩) (fun _ s2 ⟨⟨h4, e4, held, sm4⟩, d4⟩ => ?_) fun _ _ z => z
  subst e4
  refine wpAny_mono (DS.any (ds_setFlight _ _) (wpAny_landsW (s := { s1 with heap := h4 }) (Q := fun _ s2 => ∃ h5, s2 = { s1 with heap := h5 } ∧ Heap.FlyingW (PySem.W.hideAll s1.heap (e :: T :: frs X.stack)) (X.env :: X.outer) e (.ref C) a0 h5 ∧ h4.UpToSlots h5) held fun h5 fl5 sm5 => ⟨h5, rfl, fl5, sm5⟩) d4) (fun _ s2 ⟨⟨h5, e5, fl5, sm5⟩, d5⟩ => ?_) fun _ _ z => z
  subst e5
  have I5 := stay h5 fl5.1 (sm4.trans sm5)
  refine wpAny_handleBy_cons (codeAny_handlers_test (ld_glob (X := X.suite e) I5.suite hg hm ?_ hd)) (by intro q; cases q)
  have LT : PySem.W.Looks (model X.prog X.w) h5 (typeOf (.ref e)) (.ref C) := ExcAt.looks fl5.there
  refine (PySem.W.exm_one (h := h5) I5.kIn LT hx').here ?_
  refine codeAny_handlers_suite_as ?_
  refine wpAny_mono (DS.any (ds_setFlight _ _) (lands_againW (s := { s1 with heap := h5 }) (Q := fun _ s2 => ∃ h6, s2 = { s1 with heap := h6 } ∧ Heap.FlyingW (PySem.W.hideAll s1.heap (e :: T :: frs X.stack)) (X.env :: X.outer) e (.ref C) a0 h6 ∧ h5.UpToSlots h6) fl5 fun h6 fl6 sm6 => ⟨h6, rfl, fl6, sm6⟩) d5) (fun _ s2 ⟨⟨h6, e6, fl6, sm6⟩, d6⟩ => ?_) fun _ _ z => z
  subst e6
  have I6 := stay h6 fl6.1 ((sm4.trans sm5).trans sm6)
  obtain ⟨oe6, ws6, z1, z2, z3, _⟩ := fl6.first
  have dc6 : ∀ dx, xo = some dx → oe6.dict = some dx := fun dx z => by
   obtain ⟨o, y1, y2⟩ := dc dx z
   rw [g1] at y1; cases y1
   obtain ⟨o, y3, y4⟩ := d6
   rw [show ({ s1 with heap := h6 } : Shared).heap = h6 from rfl, z1] at y3; cases y3
   rw [y4, y2]
  have I7 : Inv X pins σ1 (upd H1 e (ExcX e C xo)) { s1 with heap := h6 } := I6.track hHe ne (fun p hq => (hp p hq).1) ⟨oe6, ws6, z1, z3⟩ ⟨oe6, ws6, z1, z2, z3, dc6⟩ fun ha hb ⟨o, vs, p1, p2⟩ kk => ⟨o, vs, kk o p1, p2⟩
  refine store_ok (X := X.suite e) (v := .ref e) I7.suite hN hi (.inl hk) rfl (fun s8 I8 => ?_) (.inr hk)
  refine wpAny_mono (hh e pins s8 _ _ (Dh i D) I8 (k e hHe)) (fun f s9 q => ?_) fun _ _ z => False.elim z
  show wpAny _ _ _ _ _ _
  cases f with
  | next =>
   obtain ⟨σ', H', I', q'⟩ := q
   exact gone_ok (I'.unsuite I.ok) hN hi hk fun s' J => ⟨_, H', J, q'⟩
  | brk =>
   obtain ⟨σ', H', I', q'⟩ := q
   exact gone_ok (I'.unsuite I.ok) hN hi hk fun s' J => ⟨_, H', J, q'⟩
  | cont =>
   obtain ⟨σ', H', I', q'⟩ := q
   exact gone_ok (I'.unsuite I.ok) hN hi hk fun s' J => ⟨_, H', J, q'⟩
  | ret u =>
   obtain ⟨v, σ', H', I', r, q'⟩ := q
   exact gone_ok (I'.unsuite I.ok) hN hi hk fun s' J => ⟨v, _, H', J, r, q'⟩
end L2
set_option Elab.async false
set_option maxRecDepth 100000
namespace L2
open PySem PySem.Spec PyProof.Rows
abbrev Cx.quiet (X : Cx) : Cx := { X with calm := false }
section
variable {P : Program} {w : World} {K : PySem.W.Frag} {mg : Str → Option Value} {base : Heap}
end
section
variable {X : Cx} {k : Nat} {f C : Addr} {fd : FuncData} {ps : List Str} {sp : Sp} {dvs : List V} {ds : List Value} {x m : Str} {p pos apos : Pos} {e o : Expr} {es : List Expr} {ta : TE} {t : TA}
end
end L2
set_option Elab.async false
set_option maxRecDepth 100000
namespace L2
open PySem PySem.Spec PyProof.Rows
theorem exm_of {K : PySem.W.Frag} {A S : Addr} (bs : PySem.W.subIn K (.ref S) (.type "BaseException") = some true) (mo : PySem.W.mroIn K S (.type "object") = some true) (ty : PySem.W.typeIn K (.ref S) = some (.type "type"))
  (sb : PySem.W.subIn K (.ref A) (.ref S) = some true) : PySem.W.exmOne K (.ref A) (.ref S) = some true := by
 obtain ⟨cd, hc, _⟩ := Option.bind_eq_some_iff.mp mo
 simp only [PySem.W.exmOne, PySem.W.kitCls]
 simp [bs, hc, ty, sb]
theorem own_of {K : PySem.W.Frag} {h : Heap} {mg : Str → Option Value} {x : Str} {C : Addr} {bmB : List Value} {newId : String} (X : K.In h) (hm : mg x = some (.ref C)) (q : PySem.W.excIn K C bmB newId = true) : OwnCls x C bmB newId mg h := by
 refine ⟨hm, ?_⟩
 simp only [PySem.W.excIn] at q
 split at q
 case h_2 => cases q
 case h_1 dd cd sl ho =>
  split at q
  case h_2 => cases q
  case h_1 C' bm k0 k1 k2 k3 n k5 hmr hsl =>
   simp only [Bool.and_eq_true, beq_iff_eq, Bool.not_eq_true'] at q
   obtain ⟨⟨⟨⟨⟨e1, e2⟩, hdel⟩, ht⟩, hok⟩, hni⟩ := q
   subst e1 e2
   have hh := X _ _ ho
   obtain ⟨nm, bs, mro, ns, qn, hd, sn, sub, ab, col, del⟩ := cd
   simp only at hmr hdel hok hni
   subst hmr hdel
   obtain ⟨l⟩ := sl
   simp only at hsl
   subst hsl
   exact ⟨bm, ns, nm, qn, bs, hd, sn, sub, ab, col, dd, k0, k1, k2, k3, k5, _, hh, .of_isNs (PySem.W.isNs_of_in X hok), PySem.W.nsMap_none_of_in X hok hni, PySem.W.tail_of_in X ht⟩
theorem ps_raiseK {X : Cx} {E : XK} {x : Str} {C : Addr} {B newId initId : String} {bm : List Value} {np cpos pos : Pos} {e : Expr} {es : List Expr} {t : TA} (hm : X.mg x = some (.ref C)) (q : PySem.W.excIn X.K C bm newId = true) (FB : ExcBaseFacts B newId initId bm) (hc : X.calm = true) (hg : Gl X x)
  (hx : ∀ (pins : List (Addr × Obj)) (σ : St) (H : Hp) (s : Shared) (h' : Heap) (t' : Nat) (e : Addr) (vs : List Value), Inv X pins σ H s → Heap.MadeExcOf s.heap h' e (.ref C) vs → E (.ref C) none H → X.xe (.ref e) { s with heap := h', toks := t' })
  (ha : PA X (e :: es) t) (hd : (x == ("__debug__" : Str)) = false := by decide) (he : starEach (e :: es) X.env = (false, eval e X.env) :: starEach es X.env := by rfl) (hpl : (backTo cpos (starEach es X.env)).any (·.1) = false := by rfl) :
  PS X (.Raise (some (.Call (.Name x np) (e :: es) [] cpos)) none pos) (tRaise C E t) := fun pins s σ H D I h =>
 ps_raise (own_of I.ok.mod.kin hm q) FB hc hg hx ha hd he hpl pins s σ H D I h
theorem rd_raise {C : Addr} {E : XK} {t : TA} {D : Ends} {σ : St} {H : Hp} (h : t σ H fun vs H1 => vs.length ≤ sizeLine ∧ E (.ref C) none H1) : tRaise C E t D σ H := h
section
variable {P : Program} {w : World} {K : PySem.W.Frag} {mg : Str → Option Value} {base : Heap}
theorem FnOk.down {k : Nat} {f : Addr} {fd : FuncData} {ps : List Str} {sp sp' : Sp} (F : FnOk P w K mg base (CX1 P w) k f fd ps sp) (h : ∀ vs H Q E, sp' vs H Q E → sp vs H Q (fun _ _ _ => False)) : FnOk P w K mg base CX0 k f fd ps sp' :=
 ⟨fun vs H Q E q => F.len vs H Q _ (h _ _ _ _ q), fun A outer s H args us vs Q E hr e0 hb hv hs => codeAny_mono (F.run A outer s H args us vs Q _ hr e0 hb hv (h _ _ _ _ hs)) fun r s' hq => by
  cases r with
  | error e => obtain ⟨_, _, _, _, _, _, _, _, _, _, z⟩ := hq; exact z.elim
  | ok fl => cases fl <;> exact hq⟩
end
theorem rd_try {K : PySem.W.Frag} {S : Addr} {i : Nat} {tb : (St → XK) → TS} {ts : TS} {D : Ends} {σ : St} {H : Hp} (h : tb (ETof K S i ts D) D σ H) : tTry K S i tb ts D σ H := h
end L2
set_option Elab.async false
set_option maxRecDepth 100000
namespace L2
open PySem PySem.Spec PyProof.Rows
def SameBut (l : Addr) (H H' : Hp) : Prop := ∀ b o, H b = some o → b ≠ l → H' b = some o
theorem Same.but {H H' : Hp} (s : Same H H') (l : Addr) : SameBut l H H' := fun b o e _ => s b o e
section
variable {K : PySem.W.Frag} {σ : St} {H : Hp} {Q : VK} {te : TE} {cap : List (Option Nat)} {l : Addr}
theorem compW_rangeR {n : Nat} (R : Nat → V → Hp → Prop) (hz : n ≤ 1000) (hl : H l = none) (mono : ∀ i v H1 H2, SameBut l H1 H2 → R i v H1 → R i v H2)
  (step : ∀ i o H' (Q' : VK), i < n → Same H H' → (∃ ys, H' l = some (.lst ys)) → (∀ v H5, Same H' H5 → R i v H5 → Q' v H5) → te (((capS (none :: cap) σ).set 0 o).set 0 (some (.int ((0 : Int) + (i : Nat))))) H' Q')
  (fin : ∀ ys H', Same H H' → H' l = some (.lst ys) → ys.length = n → (∀ (i : Nat) v, ys[i]? = some v → R i v H') → Q (.ref l) H') : CompW (Itr 0 n) (gName 0) tTrue te (none :: cap) l σ H Q := by
 refine ⟨n, fun i ys σ' H' => ys.length = i ∧ (∀ (j : Nat) v, ys[j]? = some v → R j v H') ∧ (∃ o, σ' = (capS (none :: cap) σ).set 0 o) ∧ Same H H' ∧ H' l = some (.lst ys), ⟨rfl, fun j v e => by simp at e, ⟨none, rfl⟩, Same.new hl, upd_same⟩, ?_, ?_⟩
 ·rintro i ys σ' H' hi ⟨ly, hR, ⟨o, rfl⟩, s, e⟩
  refine ⟨hi, fun x H2 y => ?_⟩
  obtain ⟨e2, rfl⟩ := y
  subst e2
  refine rd_name (rd_true (iteT ?_))
  refine step i o H2 _ hi s ⟨ys, e⟩ fun v H5 s5 r => ⟨s5 _ _ e, small1000 (by omega), ?_⟩
  have sb : SameBut l H5 (upd H5 l (.lst (ys ++ [v]))) := fun b u eb hb => by rw [upd_ne hb]; exact eb
  refine ⟨by rw [List.length_append, ly]; rfl, fun j u ej => ?_, ⟨_, List.set_set ..⟩, (s.trans s5).later hl, upd_same⟩
  by_cases hj : j < ys.length
  ·rw [List.getElem?_append_left hj] at ej
   exact mono j u _ _ sb (mono j u _ _ (s5.but l) (hR j u ej))
  ·rw [List.getElem?_append_right (by omega)] at ej
   have : j = i := by
    have hh := (List.getElem?_eq_some_iff.mp ej).1
    rw [List.length_singleton] at hh
    omega
   subst this
   rw [ly, Nat.sub_self] at ej
   cases ej
   exact mono j _ _ _ sb r
 ·rintro ys σ' H' ⟨ly, hR, _, s, e⟩
  exact ⟨Nat.le_refl _, fin ys H' s e ly hR⟩
end
def tJoin (t : TS) : TS := fun D σ H => ∃ J : St → Hp → Prop, t { D with nx := J } σ H ∧ ∀ σ' H', J σ' H' → D.nx σ' H'
theorem ps_join {X : Cx} {st : Stmt} {t : TS} (h : PS X st t) : PS X st (tJoin t) := by
 intro pins s σ H D I ⟨J, h1, h2⟩
 refine wpAny_mono (h pins s σ H _ I h1) (fun f s' q => ?_) fun _ _ z => z
 cases f with
 | next => obtain ⟨σ', H', J', q⟩ := q; exact ⟨σ', H', J', h2 σ' H' q⟩
 | brk => exact q
 | cont => exact q
 | ret u => exact q
theorem rd_join {t : TS} {D : Ends} {σ : St} {H : Hp} (J : St → Hp → Prop) (h1 : t { D with nx := J } σ H) (h2 : ∀ σ' H', J σ' H' → D.nx σ' H') : tJoin t D σ H := ⟨J, h1, h2⟩
structure TblAt (H : Hp) (l : Addr) (rows : List (List Int)) : Prop where
 ob : ∃ as : List Addr, H l = some (.lst (as.map V.ref)) ∧ as.length = rows.length ∧ ∀ (i : Nat) a r, as[i]? = some a → rows[i]? = some r → a ≠ l ∧ H a = some (.lst (r.map V.int))
theorem TblAt.mono {H H' : Hp} {l : Addr} {rows : List (List Int)} (s : Same H H') (h : TblAt H l rows) : TblAt H' l rows := by
 obtain ⟨as, h1, h2, h3⟩ := h.ob
 exact ⟨as, s _ _ h1, h2, fun i a r e1 e2 => ⟨(h3 i a r e1 e2).1, s _ _ (h3 i a r e1 e2).2⟩⟩
theorem TblAt.new {H : Hp} {l : Addr} : TblAt (upd H l (.lst [])) l [] := ⟨[], upd_same, rfl, fun i a r e _ => by simp at e⟩
theorem TblAt.snoc {H : Hp} {l a : Addr} {rows : List (List Int)} {r : List Int} {as : List Addr} (h1 : H l = some (.lst (as.map V.ref))) (h2 : as.length = rows.length) (h3 : ∀ (i : Nat) a r, as[i]? = some a → rows[i]? = some r → a ≠ l ∧ H a = some (.lst (r.map V.int)))
  (ha : H a = some (.lst (r.map V.int))) (hn : a ≠ l) : TblAt (upd H l (.lst (as.map V.ref ++ [.ref a]))) l (rows ++ [r]) := by
 refine ⟨as ++ [a], by rw [upd_same, List.map_append]; rfl, by rw [List.length_append, List.length_append, h2]; rfl, fun i b q e1 e2 => ?_⟩
 by_cases hi : i < as.length
 ·rw [List.getElem?_append_left hi] at e1
  rw [List.getElem?_append_left (by omega)] at e2
  obtain ⟨n, e⟩ := h3 i b q e1 e2
  exact ⟨n, by rw [upd_ne n]; exact e⟩
 ·rw [List.getElem?_append_right (by omega)] at e1
  rw [List.getElem?_append_right (by omega)] at e2
  have hi0 : i - as.length = 0 := by
   have hh := (List.getElem?_eq_some_iff.mp e1).1
   rw [List.length_singleton] at hh
   omega
  rw [hi0] at e1
  rw [← h2, hi0] at e2
  cases e1; cases e2
  exact ⟨hn, by rw [upd_ne hn]; exact ha⟩
theorem repL_rows {H : Hp} {l : Addr} : ∀ {as : List Addr} {rows : List (List Int)}, as.length = rows.length → (∀ (i : Nat) a r, as[i]? = some a → rows[i]? = some r → a ≠ l ∧ H a = some (.lst (r.map V.int))) → RepL H (rows.map fun r => PyData.list (r.map PyData.int)) (as.map V.ref)
 | [], [], _, _ => by simp [RepL]
 | [], _ :: _, h, _ => by cases h
 | _ :: _, [], h, _ => by cases h
 | a :: as, r :: rows, h, k => by
  simp only [List.map_cons, RepL]
  exact ⟨_, _, rfl, rep_ints (k 0 a r rfl rfl).2, repL_rows (by simpa using h) fun i b q e1 e2 => k (i + 1) b q (by simpa using e1) (by simpa using e2)⟩
theorem TblAt.rep {H : Hp} {l : Addr} {rows : List (List Int)} (h : TblAt H l rows) : Rep H (.list (rows.map fun r => PyData.list (r.map PyData.int))) (.ref l) := by
 obtain ⟨as, h1, h2, h3⟩ := h.ob
 simp only [Rep]
 exact ⟨l, _, rfl, h1, repL_rows h2 h3⟩
theorem TblAt.row {H : Hp} {l : Addr} {rows : List (List Int)} {i : Int} (h : TblAt H l rows) (h0 : 0 ≤ i) (h1 : i < rows.length) : ∃ xs a, H l = some (.lst xs) ∧ atI xs i = some (.ref a) ∧ H a = some (.lst ((rows.getD i.toNat []).map V.int)) := by
 obtain ⟨as, e1, e2, e3⟩ := h.ob
 have hi : i.toNat < as.length := by omega
 have hr : i.toNat < rows.length := by omega
 refine ⟨_, as[i.toNat], e1, ?_, ?_⟩
 ·have := atI_nat (xs := as.map V.ref) (j := i.toNat) (v := .ref as[i.toNat]) (by rw [List.getElem?_map, List.getElem?_eq_getElem hi]; rfl)
  rwa [Int.toNat_of_nonneg h0] at this
 ·rw [List.getD_eq_getElem?_getD, List.getElem?_eq_getElem hr, Option.getD_some]
  exact (e3 i.toNat _ _ (List.getElem?_eq_getElem hi) (List.getElem?_eq_getElem hr)).2
end L2
set_option Elab.async false
set_option maxRecDepth 100000
namespace L2
open PySem PySem.Spec PyProof.Rows
section
variable {prog : Program} {w : World} {A : Around} {E : Value → Shared → Prop} {s : Shared}
theorem tupNext {I u : Addr} {k : Nat} {its : Array Value} {x : Value} {Q : Value → Shared → Prop} (hI : s.heap.IsTupleIter I u k) (hu : s.heap.IsTuple u its) (hx : its[k]? = some x)
  (hQ : ∀ g, g.IsTupleIter I u (k + 1) → Heap.SameBut I s.heap g → Q x { s with heap := g }) : wpAny (model prog w) A (Builtin.SmallTypes.nextOf (.ref I)) Q E s := by
 obtain ⟨oI, eI, cI, dI⟩ := id hI
 obtain ⟨ou, eu, _, nu, du⟩ := hu
 unfold Builtin.SmallTypes.nextOf
 refine wpAny_bind (wpAny_callSpecial?_slot (name := Str.ofString "__next__") hI.typeIs F.slot_tuple_iterator_next (wpAny_call_entry F.slot_tuple_iterator_next hI.typeIs F.entry_tuple_iterator_next ?_ (F.args_tuple_iterator_next_1 _)))
 show wpAny _ _ (field (.ref I) 0 >>= _) _ _ s
 refine wpAny_bind (wpAny_field eI dI (x := .ref u) rfl ?_)
 show wpAny _ _ (if (Value.ref u == Value.none) = true then _ else _) _ _ s
 rw [if_neg (show ¬ ((Value.ref u == Value.none) = true) from Bool.false_ne_true)]
 show wpAny _ _ (field (.ref I) 1 >>= _) _ _ s
 refine wpAny_bind (wpAny_field eI dI (x := .int k 0) rfl ?_)
 show wpAny _ _ (seqItems? (.ref u) >>= _) _ _ s
 refine wpAny_bind (wpAny_seqItems eu du ?_)
 rw [Int.toNat_natCast]; simp only [hx]
 refine wpAny_bind (wpAny_setField eI dI (by simp) (wpAny_pure ⟨x, rfl, wpAny_pure (hQ _ ?_ (Heap.SameBut.update ..))⟩))
 exact ⟨_, Heap.get?_update_self _ eI (Obj.isFreed_of_fields (Obj.data_mapFields dI _)), (Obj.cls_mapFields ..).trans cI, by rw [Obj.data_mapFields dI]; simp [rawInt]⟩
theorem tupStop {I u : Addr} {k : Nat} {its : Array Value} {Q : Value → Shared → Prop} (hd0 : A.handled = none) (hI : s.heap.IsTupleIter I u k) (hu : s.heap.IsTuple u its) (hx : its[k]? = none)
  (hE : ∀ g e, Heap.ExtBut I s.heap g → (∃ o, g.get? e = some o ∧ o.cls = .type "StopIteration") → E (.ref e) { s with heap := g }) : wpAny (model prog w) A (Builtin.SmallTypes.nextOf (.ref I)) Q E s := by
 obtain ⟨oI, eI, cI, dI⟩ := id hI
 obtain ⟨ou, eu, _, nu, du⟩ := hu
 unfold Builtin.SmallTypes.nextOf
 refine wpAny_bind (wpAny_callSpecial?_slot (name := Str.ofString "__next__") hI.typeIs F.slot_tuple_iterator_next (wpAny_call_entry F.slot_tuple_iterator_next hI.typeIs F.entry_tuple_iterator_next ?_ (F.args_tuple_iterator_next_1 _)))
 show wpAny _ _ (field (.ref I) 0 >>= _) _ _ s
 refine wpAny_bind (wpAny_field eI dI (x := .ref u) rfl ?_)
 show wpAny _ _ (if (Value.ref u == Value.none) = true then _ else _) _ _ s
 rw [if_neg (show ¬ ((Value.ref u == Value.none) = true) from Bool.false_ne_true)]
 show wpAny _ _ (field (.ref I) 1 >>= _) _ _ s
 refine wpAny_bind (wpAny_field eI dI (x := .int k 0) rfl ?_)
 show wpAny _ _ (seqItems? (.ref u) >>= _) _ _ s
 refine wpAny_bind (wpAny_seqItems eu du ?_)
 rw [Int.toNat_natCast]; simp only [hx]
 refine wpAny_bind (wpAny_rule (wpAny_bind (wpAny_setField eI dI (by simp) ?_)))
 show wpAny _ _ (newExc (.type "StopIteration") [] >>= _) _ _ _; refine wpAny_bind ?_
 simp only [newExc, newTuple]; refine wpAny_bind (wpAny_newObj_type ?_ (by size_fits))
 refine wpAny_bind (m := firstArgMember _ _) (wpAny_of_eq (a := Value.none) (by first | rfl | (simp only [firstArgMember]; rfl)) ?_); refine wpAny_newObj_type ?_ (by size_fits)
 simp only [raiseNew]; refine wpAny_bind (wpAny_handled ?_); rw [show A.in1.handled = none from hd0]
 refine wpAny_bind (wpAny_pure (wpAny_throw ?_)); exact hE _ _ (((Heap.SameBut.update ..).extBut.push _).push _) ⟨_, Heap.get?_push_size _ rfl, rfl⟩
theorem zipT_item {Z TI TO i j u v : Addr} {k l : Nat} {xs ys : Array Value} {x y a b : Value} {Q : Option Value → Shared → Prop} (D : ZipApart Z TI TO i j u v)
  (eZ : IsZip s.heap Z TI TO .none) (eI : IsPair s.heap TI (.ref i) (.ref j)) (eO : IsPair s.heap TO a b) (ei : s.heap.IsTupleIter i u k) (ej : s.heap.IsTupleIter j v l) (eu : s.heap.IsTuple u xs) (ev : s.heap.IsTuple v ys) (hx : xs[k]? = some x) (hy : ys[l]? = some y)
  (hQ : ∀ g, IsZip g Z TI TO (rawInt s.heap.objs.size) → IsPair g TO x y → g.IsTupleIter i u (k + 1) → g.IsTupleIter j v (l + 1) → IsPair g s.heap.objs.size x y → g.objs.size = s.heap.objs.size + 1 →
   (∀ c o, c ≠ Z → c ≠ TO → c ≠ i → c ≠ j → s.heap.get? c = some o → g.get? c = some o) → Q (some (.ref s.heap.objs.size)) { s with heap := g }) : wpAny (model prog w) A (pyNext (.ref Z)) Q E s := by
 have hT : s.TypeIs (.ref Z) "zip" := ⟨_, eZ, rfl⟩
 unfold pyNext
 refine wpAny_bind (wpAny_attempt (wpAny_callSpecial?_slot (name := Str.ofString "__next__") hT F.slot_zip_next (wpAny_call_entry F.slot_zip_next hT F.entry_zip_next ?_ (F.args_zip_next_1 _))))
 show wpAny _ _ (field (.ref Z) 2 >>= _) _ _ _
 refine wpAny_bind (wpAny_field eZ rfl (x := .bool false) rfl ?_)
 show wpAny _ _ (field (.ref Z) 3 >>= _) _ _ _
 refine wpAny_bind (wpAny_field eZ rfl (x := .ref TI) rfl ?_); refine wpAny_bind (wpAny_seqItems eI rfl ?_)
 show wpAny _ _ (Builtin.SmallTypes.ownedTupleIsFree (.ref Z) >>= _) _ _ _
 refine wpAny_bind ?_; unfold Builtin.SmallTypes.ownedTupleIsFree
 refine wpAny_bind (wpAny_field eZ rfl (x := .none) rfl (wpAny_pure ?_)); simp only [if_true]
 refine wpAny_bind (wpAny_rule ?_); refine wpAny_bind (wpAny_field eZ rfl (x := .ref TO) rfl ?_)
 refine wpAny_bind (wpAny_setField_rec eZ (by simp) fun g1 z1 t1 => ?_)
 replace z1 : IsZip g1 Z TI TO .ellipsis := z1
 refine wpAny_bind ?_; simp only [List.zipIdx_cons, List.zipIdx_nil, List.forIn_cons, List.forIn_nil]; refine wpAny_bind (wpAny_bind (wpAny_onRaise ?_))
 show wpAny _ _ (Builtin.SmallTypes.nextOf (.ref i) >>= _) _ _ _
 refine wpAny_bind (tupNext (ei.extBut t1.extBut D.i1z) (eu.extBut t1.extBut D.l1z) hx fun g2 i2 t2 => wpAny_pure ?_)
 have o2 : IsPair g2 TO a b := t2.extBut _ _ D.TOi1 (t1.extBut _ _ D.TOz eO)
 refine wpAny_bind (wpAny_seqItems o2 rfl ?_); refine wpAny_bind (wpAny_updateSeq_pair o2 fun g3 o3 t3 => ?_)
 replace o3 : IsPair g3 TO x b := o3
 refine wpAny_bind (wpAny_letGo (wpAny_pure ?_)); refine wpAny_bind (wpAny_bind (wpAny_onRaise ?_))
 show wpAny _ _ (Builtin.SmallTypes.nextOf (.ref j) >>= _) _ _ _
 refine wpAny_bind (tupNext (((ej.extBut t1.extBut D.i2z).extBut t2.extBut D.i12.symm).extBut t3.extBut D.TOi2.symm) (((ev.extBut t1.extBut D.l2z).extBut t2.extBut D.l2i1).extBut t3.extBut D.l2TO) hy fun g4 j4 t4 => wpAny_pure ?_)
 have o4 : IsPair g4 TO x b := t4.extBut _ _ D.TOi2 o3
 refine wpAny_bind (wpAny_seqItems o4 rfl ?_); refine wpAny_bind (wpAny_updateSeq_pair o4 fun g5 o5 t5 => ?_)
 replace o5 : IsPair g5 TO x y := o5
 refine wpAny_bind (wpAny_letGo (wpAny_pure (wpAny_pure ?_))); refine wpAny_bind (wpAny_seqItems o5 rfl ?_); refine wpAny_bind (wpAny_newTuple ?_)
 have sz : g5.objs.size = s.heap.objs.size := by rw [t5.1, t4.1, t3.1, t2.1, t1.1]
 have z5 : IsZip g5 Z TI TO .ellipsis := t5.extBut _ _ D.TOz.symm (t4.extBut _ _ D.i2z.symm (t3.extBut _ _ D.TOz.symm (t2.extBut _ _ D.i1z.symm z1)))
 have k5 : ∀ c o, c ≠ Z → c ≠ TO → c ≠ i → c ≠ j → s.heap.get? c = some o → g5.get? c = some o := fun c o c1 c2 c3 c4 q => t5.extBut _ _ c2 (t4.extBut _ _ c4 (t3.extBut _ _ c2 (t2.extBut _ _ c3 (t1.extBut _ _ c1 q))))
 have i5 : g5.IsTupleIter i u (k + 1) := ((i2.extBut t3.extBut D.TOi1.symm).extBut t4.extBut D.i12).extBut t5.extBut D.TOi1.symm
 have j5 : g5.IsTupleIter j v (l + 1) := j4.extBut t5.extBut D.TOi2.symm
 have lz : Z < g5.objs.size := Heap.lt_size z5
 show wpAny _ _ (Builtin.SmallTypes.ownedTupleHandOut (.ref Z) (.ref g5.objs.size) >>= _) _ _ _
 refine wpAny_bind ?_; unfold Builtin.SmallTypes.ownedTupleHandOut
 have z6 : IsZip (g5.push { cls := .type "tuple", data := .seq #[x, y] }) Z TI TO .ellipsis := Heap.get?_push_of_some _ z5
 refine wpAny_bind (wpAny_setField_rec z6 (by simp) fun g7 z7 t7 => ?_)
 replace z7 : IsZip g7 Z TI TO (rawInt g5.objs.size) := z7
 refine wpAny_setField_rec z7 (by simp) fun g8 z8 t8 => ?_
 replace z8 : IsZip g8 Z TI TO (rawInt g5.objs.size) := z8
 have up : ∀ c o, c ≠ Z → g5.get? c = some o → g8.get? c = some o := fun c o c1 q => t8.extBut _ _ c1 (t7.extBut _ _ c1 (Heap.get?_push_of_some _ q))
 have n8 : IsPair g8 g5.objs.size x y := t8.extBut _ _ (Nat.ne_of_gt lz) (t7.extBut _ _ (Nat.ne_of_gt lz) (Heap.get?_push_size _ rfl))
 have s8 : g8.objs.size = g5.objs.size + 1 := by rw [t8.1, t7.1, Heap.size_push]
 rw [sz] at z8 n8 s8
 refine wpAny_pure ⟨_, rfl, wpAny_pure ?_⟩
 rw [sz]
 obtain ⟨oi, qi⟩ := i5
 obtain ⟨oj, qj⟩ := j5
 exact hQ g8 z8 (up _ _ D.TOz o5) ⟨oi, up _ _ D.i1z qi.1, qi.2⟩ ⟨oj, up _ _ D.i2z qj.1, qj.2⟩ n8 s8 fun c o c1 c2 c3 c4 q => up c o c1 (k5 c o c1 c2 c3 c4 q)
theorem zipT_end {Z TI TO i j u v : Addr} {k : Nat} {xs : Array Value} {Q : Option Value → Shared → Prop} (hd0 : A.handled = none) (D : ZipApart Z TI TO i j u v)
    (eZ : IsZip s.heap Z TI TO .none) (eI : IsPair s.heap TI (.ref i) (.ref j)) (ei : s.heap.IsTupleIter i u k) (eu : s.heap.IsTuple u xs) (hx : xs[k]? = none)
    (hQ : ∀ g, (∀ c o, c ≠ Z → c ≠ TO → c ≠ i → c ≠ j → s.heap.get? c = some o → g.get? c = some o) → Q none { s with heap := g }) : wpAny (model prog w) A (pyNext (.ref Z)) Q E s := by
  have hT : s.TypeIs (.ref Z) "zip" := ⟨_, eZ, rfl⟩
  have body : ∀ (E' : Value → Shared → Prop) (Q' : Fin → Shared → Prop), (∀ g e, (∀ c o, c ≠ Z → c ≠ TO → c ≠ i → c ≠ j → s.heap.get? c = some o → g.get? c = some o) → (∃ o, g.get? e = some o ∧ o.cls = .type "StopIteration") → E' (.ref e) { s with heap := g }) →
      wpAny (model prog w) A.in1 (Builtin.«zip.__next__» ⟨[.ref Z], []⟩) Q' E' s := fun E' Q' hE => by
    show wpAny _ _ (field (.ref Z) 2 >>= _) _ _ _
    refine wpAny_bind (wpAny_field eZ rfl (x := .bool false) rfl ?_)
    show wpAny _ _ (field (.ref Z) 3 >>= _) _ _ _
    refine wpAny_bind (wpAny_field eZ rfl (x := .ref TI) rfl ?_); refine wpAny_bind (wpAny_seqItems eI rfl ?_)
    show wpAny _ _ (Builtin.SmallTypes.ownedTupleIsFree (.ref Z) >>= _) _ _ _
    refine wpAny_bind ?_; unfold Builtin.SmallTypes.ownedTupleIsFree
    refine wpAny_bind (wpAny_field eZ rfl (x := .none) rfl (wpAny_pure ?_)); simp only [if_true]
    refine wpAny_bind (wpAny_rule ?_); refine wpAny_bind (wpAny_field eZ rfl (x := .ref TO) rfl ?_)
    refine wpAny_bind (wpAny_setField_rec eZ (by simp) fun g1 z1 t1 => ?_)
    replace z1 : IsZip g1 Z TI TO .ellipsis := z1
    refine wpAny_bind ?_; simp only [List.zipIdx_cons, List.zipIdx_nil, List.forIn_cons, List.forIn_nil]; refine wpAny_bind (wpAny_bind (wpAny_onRaise ?_))
    show wpAny _ _ (Builtin.SmallTypes.nextOf (.ref i) >>= _) _ _ _
    refine wpAny_bind (tupStop hd0 (ei.extBut t1.extBut D.i1z) (eu.extBut t1.extBut D.l1z) hx fun g2 e t2 he => ?_)
    obtain ⟨oe, q1, q2⟩ := he
    have z2 : IsZip g2 Z TI TO .ellipsis := t2 _ _ D.i1z.symm z1
    have ne : e ≠ Z := fun q => by subst q; rw [z2] at q1; cases q1; simp at q2
    refine wpAny_setField_rec z2 (by simp) fun g3 _ t3 => hE g3 e (fun c o c1 _ c3 _ q => t3.extBut _ _ c1 (t2 _ _ c3 (t1.extBut _ _ c1 q))) ⟨oe, t3.extBut _ _ ne q1, q2⟩
  unfold pyNext
  refine wpAny_bind (wpAny_attempt (wpAny_callSpecial?_slot (name := Str.ofString "__next__") hT F.slot_zip_next (wpAny_call_entry F.slot_zip_next hT F.entry_zip_next (body _ _ fun g e hk he => ?_) (F.args_zip_next_1 _))))
  obtain ⟨o, q1, q2⟩ := he
  exact wpAny_bind (wpAny_isInstance (T := "StopIteration") (b := true) ⟨o, q1, q2⟩ isSubtype_stop (wpAny_pure (hQ _ hk)))
end
end L2
set_option Elab.async false
set_option maxRecDepth 100000
namespace L2
open PySem PySem.Spec PyProof.Rows
theorem istup {h : Heap} {a : Addr} {its : Array Value} (p : IsTup h a its) : h.IsTuple a its := p
def Itzt (K : PySem.W.Frag) (a b : Addr) : It :=
  ⟨fun i H => ∃ xs ys x y, SqT K H a xs ∧ SqT K H b ys ∧ xs[i]? = some x ∧ ys[i]? = some y,
   fun i H v H' => ∃ T, v = .ref T ∧ H T = none ∧ ∀ xs ys, SqT K H a xs → SqT K H b ys → ∃ x y, xs[i]? = some x ∧ ys[i]? = some y ∧ H' = upd H T (.tup [x, y]),
   fun i H => ∃ xs ys, SqT K H a xs ∧ SqT K H b ys ∧ xs.length ≤ i⟩
theorem turn_zipT {P : Program} {w : World} {K : PySem.W.Frag} {elts : List Expr} {kt : Nat} {pt : Pos} {a b n : Addr} (ha : a < n) (hb : b < n) :
    Turn P w K (.Tuple elts kt pt) (Itzt K a b) [n + 4, n + 2, n + 3, n, n + 1] (n + 4) (fun i h => IsZip h (n + 4) (n + 2) (n + 3) .none ∧ IsPair h (n + 2) (.ref n) (.ref (n + 1)) ∧ (∃ x y, IsPair h (n + 3) x y) ∧ h.IsTupleIter n a i ∧ h.IsTupleIter (n + 1) b i) where
  mem := by simp
  obj := fun i h st c hc => by
    obtain ⟨z1, z2, ⟨x, y, z3⟩, ⟨o4, e4, c4, d4⟩, ⟨o5, e5, c5, d5⟩⟩ := st
    simp only [List.mem_cons, List.not_mem_nil, or_false] at hc
    rcases hc with rfl | rfl | rfl | rfl | rfl
    · exact ⟨_, z1, fun v z => by cases z⟩
    · exact ⟨_, z2, fun v z => by cases z⟩
    · exact ⟨_, z3, fun v z => by cases z⟩
    · exact ⟨_, e4, fun v z => by rw [d4] at z; cases z⟩
    · exact ⟨_, e5, fun v z => by rw [d5] at z; cases z⟩
  keep := fun i h h' st k => by
    obtain ⟨z1, z2, ⟨x, y, z3⟩, z4, z5⟩ := st
    exact ⟨k _ (by simp) _ z1, k _ (by simp) _ z2, ⟨x, y, k _ (by simp) _ z3⟩, z4.at fun o e => k _ (by simp) o e, z5.at fun o e => k _ (by simp) o e⟩
  item := by
    intro X hP hw hK hc i pins s σ H E I hf st hg
    subst hP hw hK
    obtain ⟨xs, ys, x, y, hqa, hqb, hx, hy⟩ := hg
    obtain ⟨its, rv, p, hz⟩ := I.tuple hqa
    obtain ⟨jts, rw', p', hz'⟩ := I.tuple hqb
    obtain ⟨u, hu, ru⟩ := rv.get hx
    obtain ⟨u', hu', ru'⟩ := rw'.get hy
    obtain ⟨z1, z2, ⟨x0, y0, z3⟩, z4, z5⟩ := st
    have D : ZipApart (n + 4) (n + 2) (n + 3) n (n + 1) a b := PyProof.Rows.zipApart_new ha hb
    have ltz : n + 4 < s.heap.objs.size := Heap.lt_size z1
    refine zipT_item D z1 z2 z3 z4 z5 (istup p) (istup p') (x := u) (y := u') (by simpa using hu) (by simpa using hu') fun h' a1 a2 a3 a4 a5 a6 hk => ?_
    refine ⟨_, rfl, wpAny_letOwnedTupleGo_zip (s := { s with heap := h' }) a1 fun h2 b1 hs => ?_⟩
    have neT : ∀ {c : Addr}, c ≤ n + 4 → c ≠ s.heap.objs.size := fun h => Nat.ne_of_lt (Nat.lt_of_le_of_lt h ltz)
    have kk : ∀ c o, c ∉ [n + 4, n + 3, n, n + 1] → s.heap.get? c = some o → h2.get? c = some o := fun c o hc e => by
      simp only [List.mem_cons, List.not_mem_nil, or_false, not_or] at hc
      exact (hs.2 c hc.1).trans (hk c o hc.1 hc.2.1 hc.2.2.1 hc.2.2.2 e)
    have q2 : h2.get? (n + 2) = _ := kk _ _ (by simp only [List.mem_cons, List.not_mem_nil, or_false, not_or]; exact ⟨D.TIz, D.TITO, D.TIi1, D.TIi2⟩) z2
    have q3 : h2.get? (n + 3) = _ := (hs.2 _ D.TOz).trans a2
    obtain ⟨o4, e4, c4⟩ := a3
    obtain ⟨o5, e5, c5⟩ := a4
    have q4 : h2.get? n = _ := (hs.2 _ D.i1z).trans e4
    have q5 : h2.get? (n + 1) = _ := (hs.2 _ D.i2z).trans e5
    have qT : h2.get? s.heap.objs.size = _ := (hs.2 _ (Ne.symm (neT (Nat.le_refl _)))).trans a5
    have sub : ∀ c ∈ [n + 4, n + 3, n, n + 1], c ∈ [n + 4, n + 2, n + 3, n, n + 1] := fun c hc => by
      simp only [List.mem_cons, List.not_mem_nil, or_false] at hc ⊢
      rcases hc with e | e | e | e
      · exact .inl e
      · exact .inr (.inr (.inl e))
      · exact .inr (.inr (.inr (.inl e)))
      · exact .inr (.inr (.inr (.inr e)))
    have I1 : Inv X pins σ (upd H s.heap.objs.size (.tup [x, y])) { s with heap := h2, toks := s.toks } := I.turnedL (ch := [n + 4, n + 3, n, n + 1]) kk (fun c hc => hf c (sub c hc)) (fun c hc => by
        simp only [List.mem_cons, List.not_mem_nil, or_false] at hc
        rcases hc with rfl | rfl | rfl | rfl
        · exact ⟨_, b1⟩
        · exact ⟨_, q3⟩
        · exact ⟨_, q4⟩
        · exact ⟨_, q5⟩) (Nat.le_refl _) ⟨by show 2 ≤ sizeLine; decide, [u, u'], .cons ru (.cons ru' .nil), _, qT, rfl, _, rfl⟩
    refine ⟨.ref s.heap.objs.size, _, I1, rfl, ⟨_, rfl, I.hok.fresh (Nat.le_refl _), fun vs ws hv hw => ?_⟩, ⟨b1, q2, ⟨_, _, q3⟩, ⟨_, q4, c4⟩, ⟨_, q5, c5⟩⟩, fun c hc => ?_⟩
    · rw [I.tuple_inj hv hqa, I.tuple_inj hw hqb]
      exact ⟨x, y, hx, hy, rfl⟩
    · have hle : c ≤ n + 4 := by
        simp only [List.mem_cons, List.not_mem_nil, or_false] at hc
        rcases hc with rfl | rfl | rfl | rfl | rfl
        · exact Nat.le_refl _
        · exact Nat.le_add_right (n + 2) 2
        · exact Nat.le_add_right (n + 3) 1
        · exact Nat.le_add_right _ 4
        · exact Nat.le_add_right (n + 1) 3
      rw [upd_ne (neT hle)]
      exact (hf c hc).1
  done := by
    intro X hP hw hK hc i pins s σ H E I hf st hg
    subst hP hw hK
    obtain ⟨xs, ys, hqa, hqb, hl⟩ := hg
    obtain ⟨its, rv, p, hz⟩ := I.tuple hqa
    obtain ⟨jts, rw', p', hz'⟩ := I.tuple hqb
    obtain ⟨z1, z2, ⟨x0, y0, z3⟩, z4, z5⟩ := st
    have D : ZipApart (n + 4) (n + 2) (n + 3) n (n + 1) a b := PyProof.Rows.zipApart_new ha hb
    have l1 := rv.length
    have l2 := rw'.length
    refine zipT_end (I.ok.hd hc) D z1 z2 z4 (istup p) ?_ fun h' hk => ⟨rfl, ?_⟩
    · simp; omega
    · have fp : ∀ c ∈ [n + 4, n + 3, n, n + 1], FpOk X pins H c := fun c hc => hf c (by
        simp only [List.mem_cons, List.not_mem_nil, or_false] at hc ⊢
        rcases hc with e | e | e | e
        · exact .inl e
        · exact .inr (.inr (.inl e))
        · exact .inr (.inr (.inr (.inl e)))
        · exact .inr (.inr (.inr (.inr e))))
      have kk : ∀ c o, c ∉ [n + 4, n + 3, n, n + 1] → s.heap.get? c = some o → h'.get? c = some o := fun c o hc e => by
        simp only [List.mem_cons, List.not_mem_nil, or_false, not_or] at hc
        exact hk c o hc.1 hc.2.1 hc.2.2.1 hc.2.2.2 e
      have nit : ∀ c u, H c = some u → c ∉ [n + 4, n + 3, n, n + 1] := fun c u e z => by rw [(fp c z).1] at e; cases e
      refine I.step (g' := s.gens) (d' := s.drawn) (t' := s.toks) (ch := [n + 4, n + 3, n, n + 1]) (fun c hc => ⟨(fp c hc).2.2.2.1, (fp c hc).2.1, (fp c hc).2.2.2.2.1, (fp c hc).2.2.2.2.2⟩) (fun c o _ _ hc e _ => kk c o hc e) (fun c o _ _ hc e _ => ⟨o.slots, kk c o hc e⟩) (fun _ _ _ _ n => n)
        (fun c o hc e => ⟨o, kk c o hc e⟩) (fun _ _ e => e) (fun _ _ _ e => e) (fun _ ps e => ⟨#[], by rw [e]; simp⟩) (fun m hm => ?_) (fun c u e => ?_) I.bare
      · obtain ⟨ob, es, ep, ho, r⟩ := hm
        exact ⟨ob, es, ep, kk _ ob (fun z => (fp _ z).2.1 rfl) ho, r⟩
      · refine (I.hok c u e).stay (fun d v hd q => kk d v ?_ q) (fun _ e' => e') fun _ _ e' => e'
        rcases hd with z | z
        · rw [z]; exact nit c u e
        · exact nit d _ z
  self := fun _ _ _ _ _ st h => wpAny_pyIter_zip st.1 h
section
variable {prog : Program} {w : World} {A : Around} {E : Value → Shared → Prop} {s : Shared}
abbrev zT1 (h : Heap) (u : Addr) : Heap := h.push { cls := .type "tuple_iterator", data := .fields #[.ref u, .int 0 0] }
abbrev zT2 (h : Heap) (u v : Addr) : Heap := (zT1 h u).push { cls := .type "tuple_iterator", data := .fields #[.ref v, .int 0 0] }
abbrev zT3 (h : Heap) (u v : Addr) : Heap := (zT2 h u v).push { cls := .type "tuple", data := .seq #[.ref h.objs.size, .ref (zT1 h u).objs.size] }
abbrev zT4 (h : Heap) (u v : Addr) : Heap := (zT3 h u v).push { cls := .type "tuple", data := .seq #[.none, .none] }
abbrev zT5 (h : Heap) (u v : Addr) : Heap := (zT4 h u v).push { cls := .type "zip", data := .fields #[.none, .bool false, .bool false, .ref (zT2 h u v).objs.size, .ref (zT3 h u v).objs.size] }
theorem zipT_new (u v : Addr) (xs ys : Array Value) : Meets (Builtin.«zip.__new__» ⟨[.type "zip", .ref u, .ref v], []⟩) (fun _ R s => s.heap.IsTuple u xs ∧ s.heap.IsTuple v ys ∧ R (.ok (.ret (.ref (zT4 s.heap u v).objs.size))) { s with heap := zT5 s.heap u v }) :=
 .of_wp fun prog w A R s h => by
  obtain ⟨hp, g, d, tk, os⟩ := s; obtain ⟨t1, t2, q⟩ := h
  have sz := sub_zip
  have L1 : Heap.IsTuple (Shared.heap ⟨hp, g, d, tk, os⟩) u xs := t1
  have L2 : Heap.IsTuple (Shared.heap ⟨hp.push { cls := .type "tuple_iterator", data := .fields #[.ref u, .int 0 0] }, g, d, tk, os⟩) v ys := Heap.IsTuple.push t2 _
  wp_walk using wpAny_pyIter_tuple L1, wpAny_pyIter_tuple L2
  exact ⟨_, rfl, q⟩
theorem zipT_call {u v : Addr} {xs ys : Array Value} {Q : Value → Shared → Prop} (t1 : s.heap.IsTuple u xs) (t2 : s.heap.IsTuple v ys)
  (q : ∀ g, IsZip g (s.heap.objs.size + 4) (s.heap.objs.size + 2) (s.heap.objs.size + 3) .none → IsPair g (s.heap.objs.size + 2) (.ref s.heap.objs.size) (.ref (s.heap.objs.size + 1)) → IsPair g (s.heap.objs.size + 3) .none .none →
   g.IsTupleIter s.heap.objs.size u 0 → g.IsTupleIter (s.heap.objs.size + 1) v 0 → (∀ c o, s.heap.get? c = some o → g.get? c = some o) → Q (.ref (s.heap.objs.size + 4)) { s with heap := g }) :
  wpAny (model prog w) A (call (.type "zip") [.ref u, .ref v]) Q E s := by
 refine callType_new F.called_zip (by decide) (F.typeCall_zip_2 _ _) (F.newCall_zip_2 _ _) (fun obj => F.args_object_init_3 obj _ _) F.entry_zip_new (zipT_new u v xs ys) ⟨t1, t2, ?_⟩
 have y1 : (zT1 s.heap u).objs.size = s.heap.objs.size + 1 := Heap.size_push ..
 have y2 : (zT2 s.heap u v).objs.size = s.heap.objs.size + 2 := by rw [Heap.size_push, y1]
 have y3 : (zT3 s.heap u v).objs.size = s.heap.objs.size + 3 := by rw [Heap.size_push, y2]
 have y4 : (zT4 s.heap u v).objs.size = s.heap.objs.size + 4 := by rw [Heap.size_push, y3]
 have k5 : (zT5 s.heap u v).get? (zT4 s.heap u v).objs.size = some _ := Heap.get?_push_size _ rfl
 have k4 : (zT5 s.heap u v).get? (zT3 s.heap u v).objs.size = some _ := Heap.get?_push_of_some _ (Heap.get?_push_size _ rfl)
 have k3 : (zT5 s.heap u v).get? (zT2 s.heap u v).objs.size = some _ := Heap.get?_push_of_some _ (Heap.get?_push_of_some _ (Heap.get?_push_size _ rfl))
 have k2 : (zT5 s.heap u v).get? (zT1 s.heap u).objs.size = some _ := Heap.get?_push_of_some _ (Heap.get?_push_of_some _ (Heap.get?_push_of_some _ (Heap.get?_push_size _ rfl)))
 have k1 : (zT5 s.heap u v).get? s.heap.objs.size = some _ := Heap.get?_push_of_some _ (Heap.get?_push_of_some _ (Heap.get?_push_of_some _ (Heap.get?_push_of_some _ (Heap.get?_push_size _ rfl))))
 show _ ∧ _
 rw [y2, y3, y4] at k5
 rw [y1, y2] at k3
 rw [y3] at k4
 rw [y1] at k2
 refine ⟨by rw [y4]; exact ⟨_, k5, rfl⟩, ?_⟩
 rw [y4]
 exact q _ k5 k3 k4 ⟨_, k1, rfl, rfl⟩ ⟨_, k2, rfl, rfl⟩ fun c o z => Heap.get?_push_of_some _ (Heap.get?_push_of_some _ (Heap.get?_push_of_some _ (Heap.get?_push_of_some _ (Heap.get?_push_of_some _ z))))
end
section
variable {X : Cx} {elts : List Expr} {kt : Nat} {pt : Pos}
def iZipS (K : PySem.W.Frag) (ta : TA) : TI := fun σ H R => ta σ H fun vs H1 => ∃ a b, vs = [.ref a, .ref b] ∧ (((∃ xs, SqL K H1 a xs) ∧ (∃ ys, SqL K H1 b ys) ∧ R (Itz K a b) H1) ∨ ((∃ xs, SqT K H1 a xs) ∧ (∃ ys, SqT K H1 b ys) ∧ R (Itzt K a b) H1))
theorem pi_zipS {a b : Expr} {ta : TA} {p pos : Pos} (hg : Gl X "zip") (hm : X.mg "zip" = none) (ha : PA X [a, b] ta) (hs : starEach [a, b] X.env = [(false, eval a X.env), (false, eval b X.env)] := by rfl) (hs2 : starEach [b] X.env = [(false, eval b X.env)] := by rfl) :
  PI X (.Tuple elts kt pt) (.Call (.Name "zip" p) [a, b] [] pos) (iZipS X.K ta) := by
 intro pins s σ H R I h
 refine Call_ (ld_blt I hg hm (by rfl : bootBuiltins "zip" = some (.type "zip")) (PyProof.Rows.callWith_type1 (thn (ha pos pins s σ H _ I h) fun us s1 ⟨vs, H1, I1, r1, q1⟩ => ?_) (by rw [hs, hs2]) (by rw [hs2]; rfl)))
 obtain ⟨a, b, e, q⟩ := q1
 subst e
 obtain ⟨u, v, rfl, ru, rv⟩ := r1.two
 cases (show u = Value.ref a from ru)
 cases (show v = Value.ref b from rv)
 rcases q with ⟨⟨xs, ha⟩, ⟨ys, hb⟩, q⟩ | ⟨⟨xs, ha⟩, ⟨ys, hb⟩, q⟩
 ·obtain ⟨its, _, p1, _⟩ := I1.list ha
  obtain ⟨jts, _, p2, _⟩ := I1.list hb
  have l1 : a < s1.heap.objs.size := let ⟨o, ho, _⟩ := p1.isList; Heap.lt_size ho
  have l2 : b < s1.heap.objs.size := let ⟨o, ho, _⟩ := p2.isList; Heap.lt_size ho
  refine call_zip_2 p1.isList p2.isList fun h' hz hTI hTO h1 h2 hsz hk => wpAny_pyIter_zip (s := { s1 with heap := h' }) hz ?_
  refine ⟨s1.heap.objs.size + 4, _, _, _, H1, rfl, I1.kept (t' := s1.toks) hk, turn_zip l1 l2, ⟨hz, hTI, ⟨_, _, hTO⟩, h1, h2⟩, fun c hc => ?_, q⟩
  have hle : s1.heap.objs.size ≤ c := by
   simp only [List.mem_cons, List.not_mem_nil, or_false] at hc
   rcases hc with rfl | rfl | rfl | rfl | rfl
   ·exact Nat.le_add_right _ _
   ·exact Nat.le_add_right _ _
   ·exact Nat.le_add_right _ _
   ·exact Nat.le_refl _
   ·exact Nat.le_add_right _ _
  exact I1.fpOk hle (I1.hok.fresh hle)
 ·obtain ⟨its, _, p1, _⟩ := I1.tuple ha
  obtain ⟨jts, _, p2, _⟩ := I1.tuple hb
  have l1 : a < s1.heap.objs.size := let ⟨o, ho, _⟩ := istup p1; Heap.lt_size ho
  have l2 : b < s1.heap.objs.size := let ⟨o, ho, _⟩ := istup p2; Heap.lt_size ho
  refine zipT_call (istup p1) (istup p2) fun h' hz hTI hTO h1 h2 hk => wpAny_pyIter_zip (s := { s1 with heap := h' }) hz ?_
  refine ⟨s1.heap.objs.size + 4, _, _, _, H1, rfl, I1.kept (t' := s1.toks) hk, turn_zipT l1 l2, ⟨hz, hTI, ⟨_, _, hTO⟩, h1, h2⟩, fun c hc => ?_, q⟩
  have hle : s1.heap.objs.size ≤ c := by
   simp only [List.mem_cons, List.not_mem_nil, or_false] at hc
   rcases hc with rfl | rfl | rfl | rfl | rfl
   ·exact Nat.le_add_right _ _
   ·exact Nat.le_add_right _ _
   ·exact Nat.le_add_right _ _
   ·exact Nat.le_refl _
   ·exact Nat.le_add_right _ _
  exact I1.fpOk hle (I1.hok.fresh hle)
end
theorem rd_izipS {K : PySem.W.Frag} {σ : St} {H : Hp} {ta : TA} {R : It → Hp → Prop} (h : ta σ H fun vs H1 => ∃ a b, vs = [.ref a, .ref b] ∧ (((∃ xs, SqL K H1 a xs) ∧ (∃ ys, SqL K H1 b ys) ∧ R (Itz K a b) H1) ∨ ((∃ xs, SqT K H1 a xs) ∧ (∃ ys, SqT K H1 b ys) ∧ R (Itzt K a b) H1))) : iZipS K ta σ H R := h
theorem compW_zipT {K : PySem.W.Frag} {σ : St} {H : Hp} {Q : VK} {te : TE} {l a b : Addr} {xs ys : List V} (F : Nat → V) (hx : H a = some (.tup xs)) (hy : H b = some (.tup ys)) (he : xs.length = ys.length) (hz : xs.length ≤ 1000) (hl : H l = none)
  (step : ∀ (i : Nat) x y H' (Q' : VK), xs[i]? = some x → ys[i]? = some y → Same H H' → (∀ H5, Same H' H5 → Q' (F i) H5) → te [some x, some y] H' Q')
  (fin : ∀ H', Same H H' → H' l = some (.lst ((List.range xs.length).map F)) → Q (.ref l) H') : CompW (Itzt K a b) (gTup K 2 (gCons (gName 0) (gCons (gName 1) gNil))) tTrue te [none, none] l σ H Q := by
 refine ⟨xs.length, fun i zs σ' H' => zs = (List.range i).map F ∧ (∃ o o', σ' = [o, o']) ∧ Same H H' ∧ H' l = some (.lst zs), ⟨rfl, ⟨none, none, rfl⟩, Same.new hl, upd_same⟩, ?_, ?_⟩
 ·rintro i zs σ' H' hi ⟨rfl, ⟨o, o', rfl⟩, s, e⟩
  refine ⟨⟨xs, ys, xs[i], ys[i]'(by omega), SqT.of (s _ _ hx), SqT.of (s _ _ hy), by simp [hi], by simp⟩, fun v H2 z => ?_⟩
  obtain ⟨T, rfl, hT, z⟩ := z
  obtain ⟨x, y, ex, ey, rfl⟩ := z xs ys (SqT.of (s _ _ hx)) (SqT.of (s _ _ hy))
  have sT := Same.new (o := HO.tup [x, y]) hT
  refine rd_gtup upd_same rfl (rd_gcons (rd_name (rd_gcons (rd_name (rd_gnil (rd_true (iteT ?_)))))))
  refine step i x y _ _ ex ey (s.trans sT) fun H5 s5 => ⟨s5 _ _ (sT _ _ e), ?_, ?_⟩
  ·rw [List.length_map, List.length_range]
   exact small1000 (by omega)
  ·refine ⟨?_, ⟨_, _, rfl⟩, ((s.trans sT).trans s5).later hl, upd_same⟩
   rw [List.range_succ, List.map_append]
   rfl
 ·rintro zs σ' H' ⟨rfl, _, s, e⟩
  exact ⟨⟨xs, ys, SqT.of (s _ _ hx), SqT.of (s _ _ hy), Nat.le_refl _⟩, fin H' s e⟩
theorem refs_of {R : Nat → Addr → Prop} {ys : List V} (h : ∀ (i : Nat) v, ys[i]? = some v → ∃ a, v = .ref a ∧ R i a) : ∃ as : List Addr, ys = as.map V.ref ∧ ∀ (i : Nat) a, as[i]? = some a → R i a := by
 refine ⟨ys.map fun v => match v with | .ref a => a | _ => 0, ?_, fun i a e => ?_⟩
 ·rw [List.map_map]
  refine List.ext_getElem? fun i => ?_
  rw [List.getElem?_map]
  cases e : ys[i]? with
  | none => rfl
  | some v => obtain ⟨a, rfl, _⟩ := h i v e; rfl
 ·rw [List.getElem?_map] at e
  cases e2 : ys[i]? with
  | none => rw [e2] at e; cases e
  | some v =>
   obtain ⟨b, rfl, r⟩ := h i v e2
   rw [e2] at e
   cases e
   exact r
theorem cutV_takeG {xs : List V} {k : Nat} : cutV xs none (some (k : Int)) = xs.take k := by
 unfold cutV
 rw [HT.sIx_none, HT.sIx_nat, List.drop_zero, Nat.sub_zero]
 rcases Nat.le_total k xs.length with h | h
 ·rw [Nat.min_eq_left h]
 ·rw [Nat.min_eq_right h, List.take_of_length_le (Nat.le_refl _), List.take_of_length_le h]
end L2
set_option Elab.async false
set_option maxRecDepth 100000
namespace L2
open PySem PySem.Spec PyProof.Rows
end L2
set_option Elab.async false
set_option linter.all false
set_option maxRecDepth 100000
namespace L2
open PySem PySem.Spec PyProof.Rows
section
variable {K : PySem.W.Frag} {σ : St} {H : Hp} {Q : VK} {te : TE} {cap : List (Option Nat)} {l : Addr}
end
end L2
set_option Elab.async false
set_option linter.all false
set_option maxRecDepth 100000
namespace L2
open PySem PySem.Spec PyProof.Rows
section
variable {X : Cx} {elts : List Expr} {kt : Nat} {pt : Pos}
end
theorem lay_ints : ∀ bs : List Int, PyData.canLayAll0 (bs.map PyData.int) = true
 | [] => rfl
 | _ :: r => by simp [PyData.canLayAll0, PyData.canLay0, lay_ints r]
theorem deep_ints : ∀ bs : List Int, PyData.depthAll (bs.map PyData.int) = 0
 | [] => rfl
 | _ :: r => by simp [PyData.depthAll, PyData.depth, deep_ints r]
end L2
set_option Elab.async false
set_option maxHeartbeats 4000000
set_option linter.all false
open PySem PySem.Spec PyProof.Rows
namespace L2
structure ClsFn (K : PySem.W.Frag) (C : Addr) (m : Str) (f : Addr) : Prop where
 ga : PySem.W.specialIn K (.ref C) "__getattribute__" = some (some (.builtin "type.__getattribute__"))
 rd : PySem.W.readsIn K C (.type "type") = true
 at_ : PySem.W.findCls K (.ref C) (.type "type") m = some (.val (.ref f))
 kp : PySem.W.keepIn K (.ref f) = true
section
variable {X : Cx} {CX : CXT} {k : Nat} {f C : Addr} {fd : FuncData} {ps : List Str} {sp : Sp} {dvs : List V} {ds : List Value} {E : XK} {x m : Str} {p pos apos : Pos} {e o : Expr} {es : List Expr} {ta : TE} {t : TA}
theorem pe_callC {pl : Sem Bool} (hg : Gl X x) (hm : X.mg x = some (.ref C)) (c : ClsFn X.K C m f) (F : FnOk X.prog X.w X.K X.mg X.base CX k f fd ps sp) (hr : Room k X.A) (hb : Binds X.K fd ps ds) (hd : Vals dvs ds) (hx : Passes CX X E) (ha : PA X (e :: es) t)
  (hdb : (x == ("__debug__" : Str)) = false := by decide)
  (hst : starEach (e :: es) X.env = (false, eval e X.env) :: starEach es X.env := by rfl) (hpl : (backTo pos (starEach es X.env)).any (·.1) = false := by rfl)
  (ht : eval (.Call (.Attribute (.Name x p) m apos) (e :: es) [] pos) X.env = (do
   let ov ← eval (.Name x p) X.env
   standAt apos.atName
   let (f, first) ← holding [ov] (getMethod ov m pl)
   callWith pos f first (backTo pos (starEach (e :: es) X.env)) (backToKw pos (keywordEach [] X.env))) := by rfl) :
  PE X (.Call (.Attribute (.Name x p) m apos) (e :: es) [] pos) (tCall sp dvs E t) := by
 intro pins s σ H Q I h
 refine PySem.W.methodCall_KW (pl := pl) (thn ((pe_glob (v := .ref C) hg hm rfl hdb) pins s σ H (fun x H1 => x = .ref C ∧ H1 = H) I ⟨rfl, rfl⟩) fun u s1 ⟨x, H1, I1, rx, ex, eh⟩ => ?_) ht
 subst ex; subst eh
 obtain rfl : u = Value.ref C := rx
 refine PySem.W.method_cls I1.kIn c.ga (PySem.W.cls_value I1.kIn c.rd c.at_ rfl ?_)
 have I2 := I1.tok (s1.toks + 1)
 refine PySem.W.callWith_K (first := []) (h₀ := X.base) I.ok.mod.kin c.kp (thn (ha pos pins _ σ H1 _ I2 h) fun us s2 ⟨vs, H2, I3, r, q2⟩ => ⟨I3.kIn, ?_⟩) hst hpl
 exact run_fn (us := us) (vs := vs) F hr hb hd hx I3 r q2
end
end L2
set_option Elab.async false
set_option linter.all false
namespace L2
open PySem PySem.Spec PyProof.Rows
theorem cutC {X : Cx} {s : Stmt} {ss : List Stmt} {r : TS} {C : TS → Prop} (d : PS X s r) (k : ∀ r', r' = r → ∃ ts, PSs X ss ts ∧ C (tSeq r' ts)) : ∃ ts, PSs X (s :: ss) ts ∧ C ts :=
 let ⟨_, h1, h2⟩ := k r rfl
 ⟨_, pss_cons d h1, h2⟩
theorem cutE {X : Cx} {s : Stmt} {r : TS} {C : TS → Prop} (d : PS X s r) (k : ∀ r', r' = r → C r') : ∃ ts, PSs X [s] ts ∧ C ts := ⟨_, pss_one d, k r rfl⟩
theorem rd_cut {r r' : TS} {D : Ends} {σ : St} {H : Hp} (e : r' = r) (h : r D σ H) : r' D σ H := e ▸ h
theorem rd_seqA {t u : TS} {D : Ends} {σ : St} {H : Hp} (k : ∀ u', u' = u → t { D with nx := u' D } σ H) : tSeq t u D σ H := k u rfl
theorem len1 {us : List Value} (h : us.length = 1) : ∃ a0, us = [a0] := match us, h with | [a0], _ => ⟨a0, rfl⟩
theorem len2 {us : List Value} (h : us.length = 2) : ∃ a0 a1, us = [a0, a1] := match us, h with | [a0, a1], _ => ⟨a0, a1, rfl⟩
theorem len3 {us : List Value} (h : us.length = 3) : ∃ a0 a1 a2, us = [a0, a1, a2] := match us, h with | [a0, a1, a2], _ => ⟨a0, a1, a2, rfl⟩
theorem len4 {us : List Value} (h : us.length = 4) : ∃ a0 a1 a2 a3, us = [a0, a1, a2, a3] := match us, h with | [a0, a1, a2, a3], _ => ⟨a0, a1, a2, a3, rfl⟩
theorem len5 {us : List Value} (h : us.length = 5) : ∃ a0 a1 a2 a3 a4, us = [a0, a1, a2, a3, a4] := match us, h with | [a0, a1, a2, a3, a4], _ => ⟨a0, a1, a2, a3, a4, rfl⟩
end L2
set_option Elab.async false
set_option linter.all false
set_option maxRecDepth 100000
set_option maxHeartbeats 4000000
namespace L2
open PySem PySem.Spec PyProof.Rows
section
variable {κ : Type} [DecidableEq κ]
end
section
variable {P : Program} {w : World} {H : Hp} {h : Heap} {a : Addr}
end
section
variable {X : Cx} {pins : List (Addr × Obj)} {σ : St} {H : Hp} {s : Shared} {a : Addr} {y v : V} {u r : Value} {o : Option V} {A : Around} {E : Value → Shared → Prop}
end
section
variable {X : Cx} {pins : List (Addr × Obj)} {σ : St} {H : Hp} {s : Shared} {a : Addr} {kvs : List (Key × V)} {k : Key} {u : Value} {A : Around} {E : Value → Shared → Prop}
end
section
variable {X : Cx} {o i e value : Expr} {pos pos' tpos : Pos} {td ty tv : TE}
end
section
variable {X : Cx} {pos : Pos}
end
section
variable {X : Cx} {pins : List (Addr × Obj)} {σ : St} {H : Hp} {s : Shared} {a : Addr} {y d : V} {u r : Value} {o : Option V} {A : Around} {E : Value → Shared → Prop}
end
section
variable {X : Cx} {o e f : Expr} {apos cpos : Pos} {td ty tx : TE}
end
section
variable {X : Cx} {pins : List (Addr × Obj)} {σ : St} {H : Hp} {s : Shared} {a : Addr} {kvs : List (Key × V)} {A : Around} {E : Value → Shared → Prop}
end
section
variable {X : Cx} {pins : List (Addr × Obj)} {σ : St} {H : Hp} {s : Shared} {a : Addr} {y : V} {u : Value} {A : Around} {E : Value → Shared → Prop}
end
end L2
set_option Elab.async false
set_option linter.all false
set_option maxRecDepth 100000
set_option maxHeartbeats 4000000
namespace L2
open PySem PySem.Spec PyProof.Rows
section
variable {X : Cx} {tg : Expr}
end
end L2
set_option Elab.async false
set_option linter.all false
set_option maxRecDepth 100000
namespace L2
open PySem PySem.Spec PyProof.Rows
section
variable {X : Cx} {pins : List (Addr × Obj)} {σ : St} {H : Hp} {s : Shared} {fp : List Addr} {scope : Scope} {N : List Str} {cap : List (Option Nat)}
end
section
variable {X : Cx} {elt tg iter : Expr} {ifs : List Expr} {scope : Scope} {pos : Pos} {N : List Str} {cap : List (Option Nat)} {wi : TI} {g : TG} {tt : TT} {te : TE}
end
end L2
set_option Elab.async false
set_option linter.all false
set_option maxRecDepth 100000
set_option maxHeartbeats 4000000
namespace L2
open PySem PySem.Spec PyProof.Rows
section
variable {prog : Program} {w : World} {A : Around} {E : Value → Shared → Prop} {s : Shared} {R : Result → Shared → Prop} {I : Addr} {fp wr : List Addr} {G : Array GenState → Array GenState → Prop} {n : Nat} {P : Nat → Value → Prop} {St : Nat → Shared → Prop}
end
section
variable {X : Cx}
end
end L2
set_option Elab.async false
set_option linter.all false
set_option maxHeartbeats 1000000
namespace NR
def sm : Nat → (Nat → Int) → Int
 | 0, _ => 0
 | n + 1, f => sm n f + f n
def ib (p : Prop) [Decidable p] : Int := if p then 1 else 0
section
variable {n : Nat} {e d : Int → Int} {X Y : Nat → Int}
def s1 (X Y : Nat → Int) (i k : Nat) : Int := ib (Y (i + 1) < Y (k + 1) ∨ (Y (i + 1) = Y (k + 1) ∧ X (i + 1) < X (k + 1)))
def s2 (X Y : Nat → Int) (i k : Nat) : Int := ib (Y i < Y k ∨ (Y i = Y k ∧ X (i + 1) < X (k + 1)))
def Up (d : Int → Int) (X : Nat → Int) (i : Nat) : Prop := d (X (i + 1)) = 1
instance (d : Int → Int) (X : Nat → Int) (i : Nat) : Decidable (Up d X i) := inferInstanceAs (Decidable (_ = _))
end
end NR
set_option linter.all false
set_option Elab.async false
set_option maxHeartbeats 4000000
namespace Ts
open PySem PyProof.Rows
def Le (lt : Keyed → Keyed → Bool) (x y : Keyed) : Prop := lt y x = false
section
variable {M : Model} {A : Around} {E : Value → Shared → Prop} {s : Shared}
end
end Ts
set_option linter.all false
set_option Elab.async false
set_option maxHeartbeats 4000000
namespace Ts
open PySem PyProof.Rows
section
variable {M : Model} {A : Around} {E : Value → Shared → Prop} {s : Shared}
end
end Ts
set_option linter.all false
set_option Elab.async false
set_option maxHeartbeats 4000000
namespace Ts
open PySem PyProof.Rows
section
variable {M : Model} {A : Around} {E : Value → Shared → Prop} {s : Shared}
end
end Ts
set_option linter.all false
set_option Elab.async false
set_option maxHeartbeats 4000000
namespace Ts
open PySem PyProof.Rows
section
variable {M : Model} {A : Around} {E : Value → Shared → Prop} {s : Shared}
end
end Ts
set_option linter.all false
set_option Elab.async false
set_option maxHeartbeats 4000000
namespace Ts
open PySem PyProof.Rows
def seg (xs : Array Keyed) (i n : Nat) : List Keyed := (xs.toList.drop i).take n
section
variable {M : Model} {A : Around} {E : Value → Shared → Prop} {s : Shared}
end
end Ts
set_option linter.all false
set_option Elab.async false
set_option maxHeartbeats 4000000
namespace Ts
open PySem PyProof.Rows
def at' (xs : Array Keyed) (i : Nat) : Keyed := (xs[i]?).getD (.none, .none)
def Up (lt : Keyed → Keyed → Bool) (xs : Array Keyed) (lo n : Nat) : Prop := ∀ p q, p ≤ q → q < n → Le lt (at' xs (lo + p)) (at' xs (lo + q))
section
variable {M : Model} {A : Around} {E : Value → Shared → Prop} {s : Shared}
end
end Ts
set_option linter.all false
set_option Elab.async false
set_option maxHeartbeats 4000000
namespace Ts
open PySem PyProof.Rows
section
variable {M : Model} {A : Around} {E : Value → Shared → Prop} {s : Shared}
end
end Ts
set_option linter.all false
set_option Elab.async false
set_option maxHeartbeats 4000000
namespace Ts
open PySem PyProof.Rows
def Runs (lt : Keyed → Keyed → Bool) (xs : Array Keyed) : Nat → List (Nat × Nat) → Nat → Prop
 | i, [], hi => i = hi
 | i, (s, n) :: ps, hi => s = i ∧ 1 ≤ n ∧ (seg xs s n).Pairwise (Le lt) ∧ Runs lt xs (i + n) ps hi
def kys (p : Array (Nat × Nat × Nat)) : List (Nat × Nat) := p.toList.map fun q => (q.1, q.2.1)
section
variable {M : Model} {A : Around} {E : Value → Shared → Prop} {s : Shared}
structure Inv (κ : SortKind) (lt : Keyed → Keyed → Bool) (a0 : Array Keyed) (st : SortSt) (lo : Nat) : Prop where
 kind : kindOf st = κ
 failed : failedOf st = none
 perm : (arrOf st).Perm a0
 runs : Runs lt (arrOf st) 0 (kys (pendingOf st)) lo
end
end Ts
set_option linter.all false
set_option Elab.async false
set_option maxHeartbeats 4000000
set_option maxRecDepth 100000
namespace Ts
open PySem PyProof.Rows PySem.W
section
variable {prog : Program} {w : World} {A : Around} {E : Value → Shared → Prop} {s : Shared}
end
section
variable {prog : Program} {w : World} {s : Shared}
end
end Ts
set_option Elab.async false
set_option linter.all false
set_option maxRecDepth 100000
set_option maxHeartbeats 4000000
namespace L2
open PySem PySem.Spec PyProof.Rows
end L2
set_option linter.all false
set_option Elab.async false
set_option maxHeartbeats 4000000
namespace Sm
abbrev Pnt := Int × Int
def fin : Pnt → Pnt → List Pnt → Pnt × Pnt
 | a, b, [] => (a, b)
 | _, b, c :: l => fin b c l
section
variable {nb : Pnt → List Pnt}
end
end Sm
set_option linter.all false
set_option Elab.async false
set_option maxHeartbeats 4000000
namespace Sm
section
variable {nb : Pnt → List Pnt}
end
end Sm
set_option Elab.async false
set_option linter.all false
set_option maxRecDepth 100000
set_option maxHeartbeats 4000000
namespace Ts
open PySem PyProof.Rows PySem.W
section
variable {prog : Program} {w : World} {A : Around} {E : Value → Shared → Prop} {s : Shared}
end
end Ts
namespace L2
open PySem PySem.Spec PyProof.Rows
section
variable {K : PySem.W.Frag} {σ : St} {H : Hp} {Q : VK} {te : TE} {tt : TT} {cap : List (Option Nat)} {l : Addr}
end
end L2
set_option Elab.async false
set_option linter.all false
set_option maxRecDepth 100000
set_option maxHeartbeats 4000000
namespace Ts
open PySem PyProof.Rows PySem.W
end Ts
namespace L2
open PySem PySem.Spec PyProof.Rows PySem.W
section
variable {X : Cx} {pins : List (Addr × Obj)} {σ : St} {H H1 H2 : Hp} {s0 s s' : Shared}
end
end L2
set_option Elab.async false
set_option linter.all false
set_option maxHeartbeats 4000000
namespace Sm
section
variable {nb : Pnt → List Pnt}
end
end Sm
set_option Elab.async false
set_option linter.all false
set_option maxRecDepth 100000
set_option maxHeartbeats 4000000
namespace L2
open PySem PySem.Spec PyProof.Rows PySem.W
section
variable {prog : Program} {w : World} {κ : Type} [DecidableEq κ] {kd : HeapKind prog w κ} {A : Around} {E : Value → Shared → Prop} {s : Shared} {d a : Addr} {xs : List (κ × Addr × Value)} {k : κ} {v : Value}
end
section
variable {X : Cx} {pins : List (Addr × Obj)} {σ : St} {H : Hp} {s : Shared} {a b : Addr} {z : V} {r : Value} {A : Around} {E : Value → Shared → Prop} {kvs : List (List Key × V)} {k : List Key}
end
end L2
set_option Elab.async false
set_option linter.all false
set_option maxRecDepth 100000
set_option maxHeartbeats 4000000
namespace L2
open PySem PySem.Spec PyProof.Rows PySem.W
section
variable {X : Cx} (K : PySem.W.Frag) (hK : X.K = K) (hc : X.calm = true)
include hK hc
end
end L2
set_option Elab.async false
set_option linter.all false
set_option maxHeartbeats 4000000
namespace NR
def grid (n m : Nat) (F : Int × Int → Int) : Int := sm n fun x => sm m fun y => F ((x : Int), (y : Int))
end NR
namespace Sm
end Sm
set_option Elab.async false
set_option linter.all false
set_option maxRecDepth 100000
set_option maxHeartbeats 4000000
namespace L2
open PySem PySem.Spec PyProof.Rows PySem.W
end L2
set_option Elab.async false
set_option linter.all false
set_option maxHeartbeats 4000000
namespace Sm
section
variable {nb nb' : Pnt → List Pnt}
end
end Sm
set_option Elab.async false
set_option linter.all false
set_option maxRecDepth 100000
set_option maxHeartbeats 4000000
namespace L2
open PySem PySem.Spec PyProof.Rows
end L2
set_option Elab.async false
set_option linter.all false
set_option maxRecDepth 100000
set_option maxHeartbeats 4000000
namespace L2
open PySem PySem.Spec PyProof.Rows PySem.W
section
variable {X : Cx} {pins : List (Addr × Obj)} {σ : St} {H H' : Hp} {s : Shared} {h' : Heap}
end
section
variable {X : Cx}
end
end L2
set_option Elab.async false
set_option linter.all false
set_option maxRecDepth 100000
set_option maxHeartbeats 4000000
namespace L2
open PySem PySem.Spec PyProof.Rows PySem.W
section
variable {prog : Program} {w : World} {A : Around} {E : Value → Shared → Prop} {s : Shared} {d it : Addr} {es : Array DictEntry} {ep i n : Nat}
end
end L2
set_option Elab.async false
set_option linter.all false
set_option maxRecDepth 100000
set_option maxHeartbeats 4000000
namespace L2
open PySem PySem.Spec PyProof.Rows PySem.W
end L2
set_option linter.all false
set_option Elab.async false
set_option maxHeartbeats 4000000
namespace Fm
abbrev Strip := List L2.Key
abbrev Tie := Strip × Strip × Int
inductive Con (F : List Tie) : Strip → Strip → Prop
 | refl (a : Strip) : Con F a a
 | fwd {a b c : Strip} {w : Int} : Con F a b → (b, c, w) ∈ F → Con F a c
 | bwd {a b c : Strip} {w : Int} : Con F a b → (c, b, w) ∈ F → Con F a c
section
variable {F : List Tie} {v : Strip → Int} {G : Strip → Strip × Int} {D : List Strip}
end
end Fm
set_option Elab.async false
set_option linter.all false
set_option maxRecDepth 100000
set_option maxHeartbeats 4000000
namespace L2
open PySem PySem.Spec PyProof.Rows PySem.W
theorem rd_par {i j : Nat} {ta : TA} {D : Ends} {σ : St} {H : Hp} (h : ta σ H fun vs H1 => ∃ v w, vs = [v, w] ∧ D.nx ((σ.set i (some v)).set j (some w)) H1) : tPar i j ta D σ H := h
end L2
set_option Elab.async false
set_option linter.all false
set_option maxRecDepth 100000
set_option maxHeartbeats 4000000
namespace L2
open PySem PySem.Spec PyProof.Rows
end L2
set_option Elab.async false
set_option linter.all false
set_option maxRecDepth 100000
set_option maxHeartbeats 4000000
namespace L2
open PySem PySem.Spec PyProof.Rows PySem.W
section
variable {X : Cx} {pins : List (Addr × Obj)} {σ : St} {H : Hp} {s : Shared} {d : Addr} {kvs : List (Key × V)} {vs : List (Key × Value)} {ep : Nat}
end
end L2
namespace L2
open PySem PySem.Spec PyProof.Rows PySem.W
end L2
namespace L2
open PySem PySem.Spec PyProof.Rows PySem.W
section
variable {K : PySem.W.Frag} {H : Hp} {Q : VK}
theorem rd_slS {a : Addr} {xs : List V} {lo hi : Option Int} (h : H a = some (.lst xs)) (q : ∀ p H1, Same H H1 → H p = none → H1 p = some (.lst (cutV xs lo hi)) → Q (.ref p) H1) : rSlL K (.ref a) lo hi H Q := rd_slL h fun p n => q p _ (Same.new n) n upd_same
end
end L2
set_option Elab.async false
set_option linter.all false
set_option maxRecDepth 100000
set_option maxHeartbeats 4000000
namespace L2
open PySem PySem.Spec PyProof.Rows PySem.W
def rCountI : V → List V → Hp → VK → Prop := fun x vs H Q => ∃ (l : Addr) (ns : List Int) (k : Int), x = .ref l ∧ vs = [.int k] ∧ H l = some (.lst (ns.map V.int)) ∧ Q (.int (ns.count k : Nat)) H
theorem mt_countI {X : Cx} : MtM X "list.count" rCountI := by
 intro pins s σ H x vs v us Q I rx rv h
 obtain ⟨l, ns, k, rfl, rfl, hH, q⟩ := h
 cases rx
 obtain ⟨u, rfl, ru⟩ := rv.one
 obtain ⟨t, rfl⟩ := ru
 obtain ⟨z, its, n, r, hl, e⟩ := I.lstM hH
 refine count_list_ints ⟨_, e, rfl, n, rfl⟩ (intsAre_of r) ?_
 exact ⟨.int _, H, I.tok _, ⟨_, rfl⟩, q⟩
theorem rd_countI {H : Hp} {Q : VK} {l : Addr} {ns : List Int} {k : Int} (h : H l = some (.lst (ns.map V.int))) (q : Q (.int (ns.count k : Nat)) H) : rCountI (.ref l) [.int k] H Q := ⟨l, ns, k, rfl, rfl, h, q⟩
section
variable {K : PySem.W.Frag} {σ : St} {H : Hp} {Q : VK} {te : TE} {tt : TT} {cap : List (Option Nat)} {l : Addr}
theorem compW_listL {a : Addr} {xs : List V} (ys : List V) (hy : ys.length = xs.length) (hs : SqL K H a xs) (hz : xs.length ≤ 1000) (hl : H l = none)
  (step : ∀ (i : Nat) x y o H' (Q' : VK), xs[i]? = some x → ys[i]? = some y → Same H H' → (∀ H5, Same H' H5 → Q' y H5) → te (((capS (none :: cap) σ).set 0 o).set 0 (some x)) H' Q')
  (fin : ∀ H', Same H H' → H' l = some (.lst ys) → Q (.ref l) H') : CompW (Itl K a) (gName 0) tTrue te (none :: cap) l σ H Q := by
 refine ⟨xs.length, fun i zs σ' H' => zs = ys.take i ∧ (∃ o, σ' = (capS (none :: cap) σ).set 0 o) ∧ Same H H' ∧ H' l = some (.lst zs), ⟨rfl, ⟨none, rfl⟩, Same.new hl, upd_same⟩, ?_, ?_⟩
 ·rintro i zs σ' H' hi ⟨rfl, ⟨o, rfl⟩, s, e⟩
  refine ⟨⟨xs, xs[i], s.seq hs, by simp [hi]⟩, fun x H2 y => ?_⟩
  obtain ⟨e2, y⟩ := y
  subst e2
  have hx := y xs (s.seq hs)
  have hyi : i < ys.length := by omega
  refine rd_name (rd_true (iteT ?_))
  refine step i x ys[i] o H2 _ hx (List.getElem?_eq_getElem hyi) s fun H5 s5 => ⟨s5 _ _ e, ?_, ?_⟩
  ·rw [List.length_take]
   exact small1000 (by omega)
  ·exact ⟨List.take_append_getElem hyi, ⟨_, List.set_set ..⟩, (s.trans s5).later hl, upd_same⟩
 ·rintro zs σ' H' ⟨rfl, _, s, e⟩
  rw [List.take_of_length_le (by omega)] at e
  exact ⟨⟨xs, s.seq hs, Nat.le_refl _⟩, fin H' s e⟩
theorem compW_rangeF {n : Nat} (p : Nat → Bool) (R : Nat → V → Hp → Prop) (hz : n ≤ 1000) (hl : H l = none) (mono : ∀ i v H1 H2, SameBut l H1 H2 → R i v H1 → R i v H2)
  (test : ∀ i o H' (Q' : Bool → Hp → Prop), i < n → Same H H' → (∀ H5, Same H' H5 → Q' (p i) H5) → tt (((capS (none :: cap) σ).set 0 o).set 0 (some (.int ((0 : Int) + (i : Nat))))) H' Q')
  (step : ∀ i o H' (Q' : VK), i < n → p i = true → Same H H' → (∃ ys, H' l = some (.lst ys)) → (∀ v H5, Same H' H5 → R i v H5 → Q' v H5) → te (((capS (none :: cap) σ).set 0 o).set 0 (some (.int ((0 : Int) + (i : Nat))))) H' Q')
  (fin : ∀ ys H', Same H H' → H' l = some (.lst ys) → ys.length = ((List.range n).filter p).length → (∀ (j : Nat) v, ys[j]? = some v → ∃ m, ((List.range n).filter p)[j]? = some m ∧ R m v H') → Q (.ref l) H') : CompW (Itr 0 n) (gName 0) tt te (none :: cap) l σ H Q := by
 refine ⟨n, fun i ys σ' H' => (ys.length = ((List.range i).filter p).length ∧ ∀ (j : Nat) v, ys[j]? = some v → ∃ m, ((List.range i).filter p)[j]? = some m ∧ R m v H') ∧ (∃ o, σ' = (capS (none :: cap) σ).set 0 o) ∧ Same H H' ∧ H' l = some (.lst ys), ⟨⟨rfl, fun j v e => by simp at e⟩, ⟨none, rfl⟩, Same.new hl, upd_same⟩, ?_, ?_⟩
 ·rintro i ys σ' H' hi ⟨⟨ly, hR⟩, ⟨o, rfl⟩, s, e⟩
  refine ⟨hi, fun x H2 y => ?_⟩
  obtain ⟨e2, rfl⟩ := y
  subst e2
  have fl : ((List.range i).filter p).length ≤ i := Nat.le_trans (List.length_filter_le _ _) (by rw [List.length_range]; exact Nat.le_refl _)
  have rs : (List.range (i + 1)).filter p = (List.range i).filter p ++ (if p i = true then [i] else []) := by
   rw [List.range_succ, List.filter_append]
   congr 1
   cases hp : p i <;> simp [hp]
  refine rd_name (test i o H2 _ hi s fun H5 s5 => ?_)
  by_cases hp : p i = true
  ·rw [if_pos hp]
   rw [if_pos hp] at rs
   refine step i o H5 _ hi hp (s.trans s5) ⟨ys, s5 _ _ e⟩ fun v H6 s6 r => ⟨s6 _ _ (s5 _ _ e), small1000 (by omega), ?_⟩
   have sb : SameBut l H6 (upd H6 l (.lst (ys ++ [v]))) := fun b u eb hb => by rw [upd_ne hb]; exact eb
   refine ⟨⟨by rw [rs, List.length_append, List.length_append, ly]; rfl, fun j u ej => ?_⟩, ⟨_, List.set_set ..⟩, ((s.trans s5).trans s6).later hl, upd_same⟩
   rw [rs]
   by_cases hj : j < ys.length
   ·rw [List.getElem?_append_left hj] at ej
    obtain ⟨m, hm, q⟩ := hR j u ej
    exact ⟨m, by rw [List.getElem?_append_left (by omega)]; exact hm, mono m u _ _ sb (mono m u _ _ ((s5.trans s6).but l) q)⟩
   ·rw [List.getElem?_append_right (by omega)] at ej
    have : j - ys.length = 0 := by
     have hh := (List.getElem?_eq_some_iff.mp ej).1
     rw [List.length_singleton] at hh
     omega
    rw [this] at ej
    cases ej
    exact ⟨i, by rw [List.getElem?_append_right (by omega), ← ly, this]; rfl, mono i _ _ _ sb r⟩
  ·rw [if_neg hp]
   rw [if_neg hp, List.append_nil] at rs
   refine ⟨⟨by rw [rs]; exact ly, fun j u ej => ?_⟩, ⟨_, List.set_set ..⟩, s.trans s5, s5 _ _ e⟩
   obtain ⟨m, hm, q⟩ := hR j u ej
   exact ⟨m, by rw [rs]; exact hm, mono m u _ _ (s5.but l) q⟩
 ·rintro ys σ' H' ⟨⟨ly, hR⟩, _, s, e⟩
  exact ⟨Nat.le_refl _, fin ys H' s e ly hR⟩
theorem compW_listN {a : Addr} {xs : List V} (R : Nat → Addr → Hp → Prop) (hs : SqL K H a xs) (hz : xs.length ≤ 1000) (hl : H l = none) (mono : ∀ i b H1 H2, SameBut l H1 H2 → b ≠ l → R i b H1 → R i b H2)
  (step : ∀ (i : Nat) x o H' (Q' : VK), xs[i]? = some x → Same H H' → (∀ b H5, Same H' H5 → H' b = none → (∃ u, H5 b = some u) → R i b H5 → Q' (.ref b) H5) → te (((capS (none :: cap) σ).set 0 o).set 0 (some x)) H' Q')
  (fin : ∀ (as : List Addr) H', Same H H' → H' l = some (.lst (as.map V.ref)) → as.length = xs.length → as.Nodup → (∀ (i : Nat) b, as[i]? = some b → b ≠ l ∧ H b = none ∧ R i b H') → Q (.ref l) H') : CompW (Itl K a) (gName 0) tTrue te (none :: cap) l σ H Q := by
 refine ⟨xs.length, fun i ys σ' H' => (∃ as : List Addr, ys = as.map V.ref ∧ as.length = i ∧ as.Nodup ∧ ∀ (j : Nat) b, as[j]? = some b → b ≠ l ∧ H b = none ∧ (∃ u, H' b = some u) ∧ R j b H') ∧ (∃ o, σ' = (capS (none :: cap) σ).set 0 o) ∧ Same H H' ∧ H' l = some (.lst ys), ⟨⟨[], rfl, rfl, List.nodup_nil, fun j b e => by simp at e⟩, ⟨none, rfl⟩, Same.new hl, upd_same⟩, ?_, ?_⟩
 ·rintro i ys σ' H' hi ⟨⟨as, rfl, la, nd, hR⟩, ⟨o, rfl⟩, s, e⟩
  refine ⟨⟨xs, xs[i], s.seq hs, by simp [hi]⟩, fun x H2 y => ?_⟩
  obtain ⟨e2, y⟩ := y
  subst e2
  have hx := y xs (s.seq hs)
  refine rd_name (rd_true (iteT ?_))
  refine step i x o H2 _ hx s fun b H5 s5 nb hb r => ⟨s5 _ _ e, by rw [List.length_map]; exact small1000 (by omega), ?_⟩
  have bl : b ≠ l := (ne_of_none e nb).symm
  have sb : SameBut l H5 (upd H5 l (.lst (as.map V.ref ++ [.ref b]))) := fun c u eb hc => by rw [upd_ne hc]; exact eb
  have nb0 : H b = none := by
   cases z : H b with
   | none => rfl
   | some u => rw [s _ _ z] at nb; cases nb
  have nm : b ∉ as := fun hm => by
   obtain ⟨j, hj⟩ := List.mem_iff_getElem?.mp hm
   obtain ⟨_, _, ⟨u, hu⟩, _⟩ := hR j b hj
   rw [hu] at nb
   cases nb
  refine ⟨⟨as ++ [b], by rw [List.map_append]; rfl, by rw [List.length_append, la]; rfl, ?_, fun j c ej => ?_⟩, ⟨_, List.set_set ..⟩, (s.trans s5).later hl, upd_same⟩
  ·rw [List.nodup_append]
   exact ⟨nd, by simp, fun c hc d hd e => nm (by rw [← List.mem_singleton.mp hd, ← e]; exact hc)⟩
  ·by_cases hj : j < as.length
   ·rw [List.getElem?_append_left hj] at ej
    obtain ⟨q1, q2, ⟨u, hu⟩, q3⟩ := hR j c ej
    exact ⟨q1, q2, ⟨u, sb _ _ (s5 _ _ hu) q1⟩, mono j c _ _ sb q1 (mono j c _ _ (s5.but l) q1 q3)⟩
   ·rw [List.getElem?_append_right (by omega)] at ej
    have hj0 : j - as.length = 0 := by
     have hh := (List.getElem?_eq_some_iff.mp ej).1
     rw [List.length_singleton] at hh
     omega
    have hji : j = i := by omega
    rw [hj0] at ej
    cases ej
    subst hji
    obtain ⟨u, hu⟩ := hb
    exact ⟨bl, nb0, ⟨u, sb _ _ hu bl⟩, mono j b _ _ sb bl r⟩
 ·rintro ys σ' H' ⟨⟨as, rfl, la, nd, hR⟩, _, s, e⟩
  exact ⟨⟨xs, s.seq hs, Nat.le_of_eq rfl⟩, fin as H' s e la nd fun i b h => ⟨(hR i b h).1, (hR i b h).2.1, (hR i b h).2.2.2⟩⟩
end
structure TblF (H0 H : Hp) (l : Addr) (rows : List (List Int)) : Prop where
 nl : H0 l = none
 ob : ∃ as : List Addr, H l = some (.lst (as.map V.ref)) ∧ as.length = rows.length ∧ as.Nodup ∧ (∀ a ∈ as, H0 a = none) ∧ ∀ (i : Nat) a r, as[i]? = some a → rows[i]? = some r → a ≠ l ∧ H a = some (.lst (r.map V.int))
theorem TblF.tbl {H0 H : Hp} {l : Addr} {rows : List (List Int)} (h : TblF H0 H l rows) : TblAt H l rows := by
 obtain ⟨as, h1, h2, _, _, h3⟩ := h.ob
 exact ⟨as, h1, h2, h3⟩
theorem TblF.mono {H0 H H' : Hp} {l : Addr} {rows : List (List Int)} (s : Same H H') (h : TblF H0 H l rows) : TblF H0 H' l rows := by
 obtain ⟨as, h1, h2, nd, h4, h3⟩ := h.ob
 exact ⟨h.nl, as, s _ _ h1, h2, nd, h4, fun i a r e1 e2 => ⟨(h3 i a r e1 e2).1, s _ _ (h3 i a r e1 e2).2⟩⟩
theorem TblF.set {H0 H : Hp} {l : Addr} {rows : List (List Int)} {i : Nat} (h : TblF H0 H l rows) (hi : i < rows.length) (r' : List Int) : ∃ (as : List Addr) (a : Addr), H l = some (.lst (as.map V.ref)) ∧ (as.map V.ref)[i]? = some (.ref a) ∧ H a = some (.lst ((rows.getD i []).map V.int)) ∧ H0 a = none ∧ a ≠ l ∧ TblF H0 (upd H a (.lst (r'.map V.int))) l (rows.set i r') := by
 obtain ⟨as, h1, h2, nd, h4, h3⟩ := h.ob
 have hia : i < as.length := by omega
 have er : rows[i]? = some (rows.getD i []) := by rw [List.getD_eq_getElem?_getD, List.getElem?_eq_getElem hi]; rfl
 obtain ⟨nl, ha⟩ := h3 i as[i] _ (List.getElem?_eq_getElem hia) er
 refine ⟨as, as[i], h1, by rw [List.getElem?_map, List.getElem?_eq_getElem hia]; rfl, ha, h4 _ (List.getElem_mem hia), nl, ⟨h.nl, as, by rw [upd_ne nl.symm]; exact h1, by rw [List.length_set]; exact h2, nd, h4, fun j b r e1 e2 => ?_⟩⟩
 rw [List.getElem?_set] at e2
 by_cases hj : i = j
 ·rw [if_pos hj] at e2
  subst hj
  rw [if_pos hi] at e2
  cases e2
  rw [List.getElem?_eq_getElem hia] at e1
  cases e1
  exact ⟨nl, upd_same⟩
 ·rw [if_neg hj] at e2
  obtain ⟨n2, q⟩ := h3 j b r e1 e2
  refine ⟨n2, ?_⟩
  rw [upd_ne fun z => hj ?_]
  ·exact q
  ·obtain ⟨hjl, ejb⟩ := List.getElem?_eq_some_iff.mp e1
   rw [← ejb] at z
   exact ((List.getElem_inj nd).mp z).symm
end L2
namespace L2
open PySem PySem.Spec PyProof.Rows PySem.W
theorem rd_rng2 {σ : St} {H : Hp} {ta : TA} {R : It → Hp → Prop} (h : ta σ H fun vs H1 => ∃ i j : Int, vs = [.int i, .int j] ∧ (-(2 ^ 62) ≤ i ∧ i < 2 ^ 62 ∧ -(2 ^ 62) ≤ j ∧ j < 2 ^ 62) ∧ R (Itr i (j - i).toNat) H1) : iRng2 ta σ H R := h
end L2
set_option Elab.async false
set_option linter.all false
set_option maxRecDepth 100000
set_option maxHeartbeats 4000000
namespace L2
open PySem PySem.Spec PyProof.Rows PySem.W
end L2
set_option Elab.async false
set_option linter.all false
set_option maxRecDepth 100000
set_option maxHeartbeats 4000000
namespace PySem
end PySem
set_option Elab.async false
set_option linter.all false
set_option maxRecDepth 100000
set_option maxHeartbeats 4000000
namespace PyProof.Rows
open PySem PySem.Spec
section
variable {prog : Program} {w : World} {A : Around} {R : Result → Shared → Prop} {I : Addr} {fp wr : List Addr} {G : Array GenState → Array GenState → Prop} {n : Nat} {P : Nat → Value → Prop} {St : Nat → Shared → Prop} {K : Type} [DecidableEq K] {knd : PySem.KeyKind prog w K}
end
end PyProof.Rows
set_option Elab.async false
set_option linter.all false
set_option maxRecDepth 100000
set_option maxHeartbeats 4000000
namespace PySem
open PySem.Spec PyProof.Rows
section
variable {prog : Program} {w : World} {K : Type} [DecidableEq K] {knd : KeyKind prog w K} {A : Around} {E : Value → Shared → Prop} {s : Shared}
end
end PySem
set_option Elab.async false
set_option linter.all false
set_option maxRecDepth 100000
set_option maxHeartbeats 4000000
namespace L2
open PySem PySem.Spec PyProof.Rows PySem.W
section
variable {X : Cx} {pins : List (Addr × Obj)} {σ : St} {H : Hp} {s : Shared}
end
end L2
set_option Elab.async false
set_option linter.all false
set_option maxRecDepth 100000
set_option maxHeartbeats 4000000
namespace L2
open PySem PySem.Spec PyProof.Rows
end L2
set_option Elab.async false
set_option linter.all false
set_option maxRecDepth 100000
namespace L2
open PySem PySem.Spec PyProof.Rows
section
variable {K : PySem.W.Frag} {x qual : Str} {st : Stmt} {f : Addr} {fd : FuncData}
theorem Fun.b1 {p0 : Str} (F : Fun K x qual st f fd) (h : ∀ (kV doc pm : Value) (an : Option Addr) (cdv ct a0 : Value), bindArgs (PySem.W.fnOf x qual (defArgs st) (defBody st) (defScope st) .none kV doc pm an cdv ct) ⟨[a0], []⟩ = pure [(p0, a0)]) : Binds K fd [p0] [] :=
 F.binds fun kV doc pm an cdv ct us hl => by obtain ⟨a0, rfl⟩ := len1 hl; exact h kV doc pm an cdv ct a0
theorem Fun.b2 {p0 p1 : Str} (F : Fun K x qual st f fd) (h : ∀ (kV doc pm : Value) (an : Option Addr) (cdv ct a0 a1 : Value), bindArgs (PySem.W.fnOf x qual (defArgs st) (defBody st) (defScope st) .none kV doc pm an cdv ct) ⟨[a0, a1], []⟩ = pure [(p0, a0), (p1, a1)]) : Binds K fd [p0, p1] [] :=
 F.binds fun kV doc pm an cdv ct us hl => by obtain ⟨a0, a1, rfl⟩ := len2 hl; exact h kV doc pm an cdv ct a0 a1
theorem Fun.b3 {p0 p1 p2 : Str} (F : Fun K x qual st f fd) (h : ∀ (kV doc pm : Value) (an : Option Addr) (cdv ct a0 a1 a2 : Value), bindArgs (PySem.W.fnOf x qual (defArgs st) (defBody st) (defScope st) .none kV doc pm an cdv ct) ⟨[a0, a1, a2], []⟩ = pure [(p0, a0), (p1, a1), (p2, a2)]) : Binds K fd [p0, p1, p2] [] :=
 F.binds fun kV doc pm an cdv ct us hl => by obtain ⟨a0, a1, a2, rfl⟩ := len3 hl; exact h kV doc pm an cdv ct a0 a1 a2
theorem Fun.b4 {p0 p1 p2 p3 : Str} (F : Fun K x qual st f fd) (h : ∀ (kV doc pm : Value) (an : Option Addr) (cdv ct a0 a1 a2 a3 : Value), bindArgs (PySem.W.fnOf x qual (defArgs st) (defBody st) (defScope st) .none kV doc pm an cdv ct) ⟨[a0, a1, a2, a3], []⟩ = pure [(p0, a0), (p1, a1), (p2, a2), (p3, a3)]) : Binds K fd [p0, p1, p2, p3] [] :=
 F.binds fun kV doc pm an cdv ct us hl => by obtain ⟨a0, a1, a2, a3, rfl⟩ := len4 hl; exact h kV doc pm an cdv ct a0 a1 a2 a3
theorem Fun.b5 {p0 p1 p2 p3 p4 : Str} (F : Fun K x qual st f fd) (h : ∀ (kV doc pm : Value) (an : Option Addr) (cdv ct a0 a1 a2 a3 a4 : Value), bindArgs (PySem.W.fnOf x qual (defArgs st) (defBody st) (defScope st) .none kV doc pm an cdv ct) ⟨[a0, a1, a2, a3, a4], []⟩ = pure [(p0, a0), (p1, a1), (p2, a2), (p3, a3), (p4, a4)]) : Binds K fd [p0, p1, p2, p3, p4] [] :=
 F.binds fun kV doc pm an cdv ct us hl => by obtain ⟨a0, a1, a2, a3, a4, rfl⟩ := len5 hl; exact h kV doc pm an cdv ct a0 a1 a2 a3 a4
theorem Fun.bl {p : Str} (F : Fun K x qual st f fd) (h : ∀ (kV doc pm : Value) (an : Option Addr) (cdv ct a : Value), bindArgs (PySem.W.fnOf x qual (defArgs st) (defBody st) (defScope st) .none kV doc pm an cdv ct) ⟨[a], []⟩ = pure [(p, a)]) (s : Shared) (v : Value) : BindsTo s fd ⟨[v], []⟩ [(p, v)] := by
 obtain ⟨_, _, kV, doc, pm, an, cdv, ct, _, rfl, _, _⟩ := F.ex
 exact .of_eq (h kV doc pm an cdv ct v)
end
theorem FnScope.by {N P : List Str} {sc : Scope} (h1 : sc.kind = .function := by rfl) (h2 : sc.isCoroutine = false := by rfl) (h3 : sc.isGenerator = false := by rfl) (h4 : N.Nodup := by decide +kernel) (h5 : N.take P.length = P := by rfl) (h6 : ∀ x ∈ P, sc.names.lookup x = some .local ∨ sc.names.lookup x = some .cell := by decide +kernel) (h7 : ∀ y ∈ sc.names, y.2 ≠ .free := by decide +kernel) : FnScope N P sc := ⟨h1, h2, h3, h4, h5, h6, h7⟩
end L2
set_option Elab.async false
set_option linter.all false
set_option maxRecDepth 100000
set_option maxHeartbeats 4000000
namespace L2
open PySem PySem.Spec PyProof.Rows PySem.W Builtin Builtin.ObjectAttr Builtin.Getset_descriptor
def exiK (K : PySem.W.Frag) (C : Addr) (line : List Value) (nid : String) : Bool :=
 match K.lookup C with
 | some ⟨.type "type", _, .cls k, ss⟩ =>
  match k.mro, ss.toList with
  | .ref D :: up, [_, _, _, _, some (.builtin m), _] => (D == C) && (m == nid) && !k.hasDel && k.hasDict && tailIn K line up
  | _, _ => false
 | _ => false
theorem exi_of {K : PySem.W.Frag} {C : Addr} {line : List Value} {nid : String} (q : exiK K C line nid = true) : ∃ (nm qn : Str) (N : Addr) (bs up : List Value) (sn : List Str) (sub : List Value) (ab : Bool) (col : Option Bool) (dd : Option Addr) (k0 k1 k2 k3 k5 : Option Value),
  K.lookup C = some (excClassObj nm qn C N bs up true sn sub ab col dd k0 k1 k2 k3 k5 nid) ∧ tailIn K line up = true := by
 unfold exiK at q
 split at q
 case h_2 => cases q
 case h_1 dd k ss ho =>
  split at q
  case h_2 => cases q
  case h_1 D up k0 k1 k2 k3 m k5 hm hs =>
   simp only [Bool.and_eq_true, beq_iff_eq, Bool.not_eq_true'] at q
   obtain ⟨⟨⟨⟨e1, e2⟩, e3⟩, e4⟩, e5⟩ := q
   subst e1 e2
   obtain ⟨nm, bs, mro, ns, qn, hd, sn, sub, ab, col, del⟩ := k
   simp only at hm e3 e4
   subst hm e3 e4
   obtain ⟨l⟩ := ss
   simp only at hs
   subst hs
   exact ⟨nm, qn, ns, bs, up, sn, sub, ab, col, dd, k0, k1, k2, k3, k5, ho, e5⟩
section
variable {prog : Program} {w : World} {A : Around} {E : Value → Shared → Prop} {K : PySem.W.Frag} {h : Heap} {g : Array GenState} {d : Drawn} {t : Nat} {os : OsState} {C fI : Addr} {line : List Value} {B nid iid : String} {rest : List Value}
abbrev xObj (C t : Addr) : Obj := { cls := .ref C, data := .fields #[.ref t, .none, .none, .none, .bool false, .none] }
abbrev xTup (rest : List Value) : Obj := { cls := .type "tuple", data := .seq rest.toArray }
theorem xcall {Q : Value → Shared → Prop} (X : K.In h) (q : exiK K C line nid = true) (F : ExcBaseFacts B nid iid line) (hi : findIn K (.ref C) "__init__" = some (some (.ref fI))) (hf : typeIn K (.ref fI) = some (.type "function")) (hz : rest.length ≤ sizeLine)
  (k : ∀ h' e, Heap.MadeExcOf h h' e (.ref C) rest → wpAny (model prog w) (A.under (.builtin "type.__call__" ⟨.ref C :: rest, []⟩)) (call (.ref fI) (.ref e :: rest)) (fun r s' => r = .none ∧ Q (.ref e) s') E ⟨h', g, d, t, os⟩) :
  wpAny (model prog w) A (call (.ref C) rest) Q E ⟨h, g, d, t, os⟩ := by
 obtain ⟨nm, qn, N, bs, up, sn, sub, ab, col, dd, k0, k1, k2, k3, k5, hl, tl⟩ := exi_of q
 have cl := X _ _ hl
 have T := tail_of_in X tl
 have c1 := tc_lookup
 have c2 := tc_bind (.ref C)
 have ty : (⟨h, g, d, t, os⟩ : Shared).TypeIs (.ref C) "type" := ⟨_, cl, rfl⟩
 refine wpAny_call (codeAny_of_tree ?_)
 show wpAny _ _ (callAny (.ref C) _) _ _ _
 repeat (any_goals (first | assumption | with_reducible refine wpAny_loadPart_at cl ?_ | wp_step))
 refine ⟨rfl, ?_⟩
 refine codeAny_call_builtin_at (Code.quiet_builtin _ (by decide +kernel)) entry_typeCall (wpAny_check_type_call_sub cl ?_)
 show wpAny _ (A.under (.builtin "type.__call__" ⟨.ref C :: rest, []⟩)) (Builtin.«type.__call__» ⟨.ref C :: rest, []⟩) _ _ _
 repeat (first | with_reducible refine wpAny_loadPart_at cl ?_ | with_reducible refine wpAny_madeBy_exc cl ?_ | wp_step)
 refine codeAny_call_builtin_code (Code.quiet_builtin _ F.quiet) (wpAny_check_new_subT F T cl ?_)
 refine codeAny_exc_new_subT F T cl ?_ hz
 show wpAny _ _ _ _ _ _
 have kp : ∀ b o, h.get? b = some o → ((h.push (xTup rest)).push (xObj C h.objs.size)).get? b = some o := fun b o e => Heap.get?_push_of_some _ (Heap.get?_push_of_some _ e)
 have X1 : K.In ((h.push (xTup rest)).push (xObj C h.objs.size)) := X.keeps kp
 have ge : ((h.push (xTup rest)).push (xObj C h.objs.size)).get? (h.objs.size + 1) = some (xObj C h.objs.size) := by
  have := Heap.get?_push_size (h.push (xTup rest)) (o := xObj C h.objs.size) rfl
  rwa [Heap.size_push] at this
 have gt : ((h.push (xTup rest)).push (xObj C h.objs.size)).get? h.objs.size = some (xTup rest) := Heap.get?_push_of_some _ (Heap.get?_push_size h rfl)
 have own : (Value.ref C :: up).contains (.ref C) = true := by simp
 unfold isInstance
 have cl1 := kp _ _ cl
 repeat (first | with_reducible refine wpAny_loadPart_at ge ?_ | (with_reducible refine wpAny_isSubtype_exc cl1 ?_; rw [own]) | wp_step)
 show wpAny _ _ (typeLookup (.ref C) _) _ _ _
 refine (looks_findIn X1 hi).at ?_
 refine wpAny_holding (wpAny_bind ((bind_fn X1 (.ref (h.objs.size + 1)) hf).at ?_))
 refine wpAny_bind (wpAny_mono (k _ (h.objs.size + 1) ⟨kp, Heap.get?_none_of_le (Nat.le_succ _), h.objs.size, ge, Heap.get?_none_of_le (Nat.le_refl _), gt⟩) (fun r s' hr => ?_) fun _ _ z => z)
 obtain ⟨rfl, hQ⟩ := hr
 wp_walk
 exact hQ
end
def ExcMAt (e C : Addr) (xo : Option Addr) (h : Heap) : Prop := ∃ o a0, h.get? e = some o ∧ o.cls = .ref C ∧ o.data = .fields #[a0, .none, .none, .none, .bool false, .none] ∧ o.dict = xo
def ExcM (e C : Addr) (xo : Option Addr) : HO := .ext (ExcMAt e C xo)
def XdAt (d : Addr) (fs : List (Str × V)) (h : Heap) : Prop := ∃ mA, h.Ns1 d mA ∧ (∀ f, RelO (fs.lookup f) (mA f)) ∧ PySem.Within mA (fs.map (·.1))
def XdO (d : Addr) (fs : List (Str × V)) : HO := .ext (XdAt d fs)
theorem ExcMAt.stay {e C : Addr} {xo : Option Addr} : ∀ h1 h2 : Heap, ExcMAt e C xo h1 → (∀ o, h1.get? e = some o → h2.get? e = some o) → ExcMAt e C xo h2 := fun _ _ ⟨o, a0, h1, h2⟩ k => ⟨o, a0, k o h1, h2⟩
theorem XdAt.stay {d : Addr} {fs : List (Str × V)} : ∀ h1 h2 : Heap, XdAt d fs h1 → (∀ o, h1.get? d = some o → h2.get? d = some o) → XdAt d fs h2 := fun _ _ ⟨mA, ⟨o, es, ep, ho, r⟩, q⟩ k => ⟨mA, ⟨o, es, ep, k o ho, r⟩, q⟩
theorem ExcMAt.at {e C : Addr} {xo : Option Addr} {h : Heap} (p : ExcMAt e C xo h) : ExcAt e C h := let ⟨o, _, h1, h2, _⟩ := p; ⟨o, h1, h2⟩
theorem refuse_up {h : Heap} {line up : List Value} {self : Value} (T : OwnTail h line up) (p : refuseLoop self "__setattr__" line = pure ()) : refuseLoop self "__setattr__" up = pure () := by
 induction T with
 | base => exact p
 | _ => rw [refuseLoop_ref]; assumption
structure ExI (K : PySem.W.Frag) (C : Addr) : Prop where
 ex : exiK K C [.type "ValueError", .type "Exception", .type "BaseException", .type "object"] "ValueError.__new__" = true
 sa : findIn K (.ref C) "__setattr__" = some (some (.builtin "object.__setattr__"))
 mo : mroIn K C (.type "object") = some true
section
variable {prog : Program} {w : World} {A : Around} {E : Value → Shared → Prop} {K : PySem.W.Frag} {s : Shared} {C x : Addr} {name : Str} {v : Value}
theorem ExI.cls (e : ExI K C) : ∃ cd up, clsIn K C = some cd ∧ cd.mro = .ref C :: up ∧ cd.hasDict = true ∧ tailIn K [.type "ValueError", .type "Exception", .type "BaseException", .type "object"] up = true := by
 obtain ⟨nm, qn, N, bs, up, sn, sub, ab, col, dd, k0, k1, k2, k3, k5, hl, tl⟩ := exi_of e.ex
 have z : ∃ cd, clsIn K C = some cd ∧ cd.mro = .ref C :: up ∧ cd.hasDict = true := by
  unfold clsIn
  rw [hl]
  exact ⟨_, rfl, rfl, rfl⟩
 obtain ⟨cd, z1, z2, z3⟩ := z
 exact ⟨cd, up, z1, z2, z3, tl⟩
theorem osx {R : Result → Shared → Prop} {tk : Tok} (X : K.In s.heap) (ei : ExI K C) (LT : Looks (model prog w) s.heap (typeOf (.ref x)) (.ref C)) (hn : findIn K (.ref C) name = some none)
  (h : wpAny (model prog w) A.in1 (storeInOwnDict (.ref x) (.ref C) (.str name tk) name v false) (fun fin s' => match fin with | .done f => R (.ok f) s' | .again c' => c'.quiet = true ∧ codeAny (model prog w) A c' R s') (fun e s' => R (.error e) s') s) :
  codeAny (model prog w) A (.call (.builtin "object.__setattr__") ⟨[.ref x, .str name tk, v], []⟩) R s := by
 have SF := PySem.F.store_object
 obtain ⟨cd, up, hc, hm, hd, tl⟩ := ei.cls
 have sub : Looks (model prog w) s.heap (isInstance (.ref x) (.type "object")) true := LT.andThen (looks_mroIn X ei.mo)
 have mr : Looks (model prog w) s.heap (mroOf (.ref C)) cd.mro := (looks_clsIn X hc).andThen .now
 refine codeAny_call_builtin SF.slot.plain SF.entry (@check_slot (model prog w) _ _ s "object.__setattr__" "object" "__setattr__" (.ref x) [.str name tk, v] [] _ SF.kind SF.split sub (SF.args (.ref x) (.str name tk) v) ?_)
 rw [osa_eq, refuse_eq]
 refine wpAny_bind (wpAny_bind (LT.here (wpAny_bind (mr.here ?_))))
 rw [hm, refuseLoop_ref, refuse_up (tail_of_in X tl) (PySem.F.store_ValueError.passes (.ref x))]
 exact wpAny_pure (wpAny_bind (LT.here (wpAny_bind ((looks_findIn X hn).here (wpAny_bind (wpAny_pure h))))))
theorem setx {Q : Unit → Shared → Prop} (X : K.In s.heap) (ei : ExI K C) (LT : Looks (model prog w) s.heap (typeOf (.ref x)) (.ref C)) (hn : findIn K (.ref C) name = some none)
  (h : wpAny (model prog w) A.in1 (storeInOwnDict (.ref x) (.ref C) (.str name s.toks) name v false) (fun fin s' => match fin with | .done (.ret _) => Q () s' | _ => False) E { s with toks := s.toks + 1 }) :
  wpAny (model prog w) A (setAttr (.ref x) name v) Q E s := by
 have c := osx (A := A) (R := fun r s' => match r with | .ok (.ret _) => Q () s' | .ok _ => False | .error e => E e s') (s := { s with toks := s.toks + 1 }) (tk := s.toks) (v := v) X ei LT hn (wpAny_mono h (fun fin s' z => by
  cases fin with
  | done f => cases f <;> exact z
  | again c => exact z.elim) fun _ _ z => z)
 refine wpAny_bind (wpAny_mkText (wpAny_bind (wpAny_bind (wpAny_bind (LT _ _ _ _ (fun _ _ e => e) (looks_findIn X ei.sa _ _ _ _ (fun _ _ e => e) (wpAny_holding ?_)))))))
 rw [PySem.F.store_object.slot.bind]
 refine wpAny_bind (wpAny_pure (wpAny_bind (wpAny_call (codeAny_mono c fun r s' z => ?_))))
 rcases r with e | (v | _ | _ | _) <;> first | exact z | exact wpAny_pure (wpAny_pure z)
end
section
variable {prog : Program} {w : World} {A : Around} {E : Value → Shared → Prop} {K : PySem.W.Frag} {s : Shared} {C x : Addr} {name : Str} {v : Value} {tk : Tok} {o : Obj} {vs : Array Value}
theorem storex_new {Q : Fin → Shared → Prop} (X : K.In s.heap) (ei : ExI K C) (hx : s.heap.get? x = some o) (hc : o.cls = .ref C) (hd : o.data = .fields vs) (hn : o.dict = none)
  (k : ∀ h' t', h'.get? x = some { o with dict := some s.heap.objs.size } → h'.Ns1 s.heap.objs.size (fun y => if y = name then some v else none) → (∀ b u, b ≠ x → s.heap.get? b = some u → h'.get? b = some u) → Q (.done (.ret .none)) { s with heap := h', toks := t' }) :
  wpAny (model prog w) A (storeInOwnDict (.ref x) (.ref C) (.str name tk) name v false) Q E s := by
 obtain ⟨cd, up, hcd, _, hh, _⟩ := ei.cls
 obtain ⟨oc, od, odt, osl⟩ := o
 dsimp only at hc hd hn
 subst hc hd hn
 have ne : s.heap.objs.size ≠ x := Nat.ne_of_gt (Heap.lt_size hx)
 refine wpAny_bind (wpAny_pure (wpAny_bind (wpAny_bind (wpAny_loadPart hx (wpAny_bind ((looks_clsIn X hcd).here ?_))))))
 rw [hh]
 show wpAny _ _ (do let d ← alloc { cls := .type "dict", data := .dict #[] }; update x fun o => { o with dict := some d }; dictMade (.ref C) x d) _ _ _
 refine wpAny_bind (wpAny_alloc' (wpAny_bind (wpAny_update' (Heap.get?_push_of_some _ hx) ?_)))
 refine wpAny_pure (a := some s.heap.objs.size) (wpAny_bind (wpAny_pure (wpAny_bind ?_)))
 have gd : ((s.heap.push { cls := .type "dict", data := .dict #[] }).update x fun o => { o with dict := some s.heap.objs.size }).get? s.heap.objs.size = some { cls := .type "dict", data := .dict #[] } := by
  rw [Heap.get?_update_other _ _ (Ne.symm ne)]
  exact Heap.get?_push_size s.heap rfl
 have nd : ((s.heap.push { cls := .type "dict", data := .dict #[] }).update x fun o => { o with dict := some s.heap.objs.size }).Ns s.heap.objs.size (fun _ => none) := ⟨_, #[], _, gd, rfl, (fun e he => absurd he (by simp)), fun _ => rfl⟩
 refine wpAny_nsSet1 (Heap.Ns1.of_empty nd) fun h' hn' hs => ?_
 obtain ⟨oD, esD, epD, hoD, hdD, hcD⟩ := hn'.count (PySem.Within.cons name v PySem.Within.nil)
 refine wpAny_bind (wpAny_lookBehind hoD (by rw [hdD]; exact pastItsLine_dict (Nat.le_trans hcD (by rw [List.length_cons, List.length_nil, sizeLine_eq]; omega))) ?_)
 refine wpAny_pure (k h' _ ?_ hn' fun b u hb hu => ?_)
 ·refine (hs.2 x (Ne.symm ne)).trans (Heap.get?_update_self _ (Heap.get?_push_of_some _ hx) rfl)
 ·exact (hs.2 b (Nat.ne_of_lt (Heap.lt_size hu))).trans ((Heap.get?_update_other _ _ (Ne.symm hb)).trans (Heap.get?_push_of_some _ hu))
theorem storex_more {Q : Fin → Shared → Prop} {dx : Addr} {mA : Str → Option Value} {ns : List Str} (X : K.In s.heap) (ei : ExI K C) (hx : s.heap.get? x = some o) (hc : o.cls = .ref C) (hd : o.data = .fields vs) (hn : o.dict = some dx) (hns : s.heap.Ns1 dx mA) (hw : PySem.Within mA ns) (hz : ns.length < 1000)
  (k : ∀ h' t', h'.Ns1 dx (fun y => if y = name then some v else mA y) → (∀ b u, b ≠ dx → s.heap.get? b = some u → h'.get? b = some u) → Q (.done (.ret .none)) { s with heap := h', toks := t' }) :
  wpAny (model prog w) A (storeInOwnDict (.ref x) (.ref C) (.str name tk) name v false) Q E s := by
 obtain ⟨cd, up, hcd, _, hh, _⟩ := ei.cls
 obtain ⟨oc, od, odt, osl⟩ := o
 dsimp only at hc hd hn
 subst hc hd hn
 refine wpAny_bind (wpAny_pure (wpAny_bind (wpAny_bind (wpAny_loadPart hx (wpAny_bind ((looks_clsIn X hcd).here ?_))))))
 rw [hh]
 refine wpAny_pure (a := some dx) (wpAny_bind (wpAny_pure (wpAny_bind ?_)))
 refine wpAny_nsSet1 hns fun h' hn' hs => ?_
 obtain ⟨oD, esD, epD, hoD, hdD, hcD⟩ := hn'.count (PySem.Within.cons name v hw)
 refine wpAny_bind (wpAny_lookBehind hoD (by rw [hdD]; exact pastItsLine_dict (Nat.le_trans hcD (by rw [List.length_cons, sizeLine_eq]; omega))) ?_)
 exact wpAny_pure (k h' _ hn' fun b u hb hu => (hs.2 b hb).trans hu)
end
section
variable {X : Cx} {pins : List (Addr × Obj)} {σ : St} {H : Hp} {s : Shared} {e C dx : Addr} {fs : List (Str × V)} {f : Str} {y : V} {u : Value} {A : Around} {E : Value → Shared → Prop} {Q : Unit → Shared → Prop}
theorem setx_new (I : Inv X pins σ H s) (he : H e = some (ExcM e C none)) (ei : ExI X.K C) (hn : findIn X.K (.ref C) f = some none) (ry : RelV y u)
  (k : ∀ d s', H d = none → d ≠ e → Inv X pins σ (upd (upd H d (XdO d [(f, y)])) e (ExcM e C (some d))) s' → Q () s') : wpAny (model X.prog X.w) A (setAttr (.ref e) f u) Q E s := by
 have p : ExcMAt e C none s.heap := (show ObjOk X.prog X.w H s.heap e (.ext (ExcMAt e C none)) from I.hok e _ he).1
 obtain ⟨o, a0, hx, hc, hd, hdn⟩ := id p
 refine setx I.kIn ei (ExcAt.looks p.at) hn (storex_new (s := { s with toks := s.toks + 1 }) I.kIn ei hx hc hd hdn fun h' t' g1 g2 g3 => ?_)
 have ne : s.heap.objs.size ≠ e := Nat.ne_of_gt (Heap.lt_size hx)
 refine k s.heap.objs.size _ (I.hok.fresh (Nat.le_refl _)) ne ?_
 have xd : XdAt s.heap.objs.size [(f, y)] h' := by
  refine ⟨_, g2, fun n => ?_, fun n hn => ?_⟩
  ·show RelO (List.lookup n [(f, y)]) (if n = f then some u else none)
   rw [List.lookup_cons]
   by_cases z : n = f
   ·subst z; simp only [beq_self_eq_true, if_true]; exact ry
   ·rw [if_neg z, show (n == f) = false from beq_eq_false_iff_ne.mpr z]; exact True.intro
  ·by_cases z : n = f
   ·subst z; simp
   ·exact absurd (if_neg z) hn
 obtain ⟨od, es, ep, hod, _⟩ := id g2
 have fr : od.isFreed = false := (Heap.get?_some_iff.mp hod).2
 have gd : (s.heap.push od).get? s.heap.objs.size = some od := Heap.get?_push_size s.heap fr
 have I1 : Inv X pins σ (upd H s.heap.objs.size (XdO s.heap.objs.size [(f, y)])) { s with heap := s.heap.push od, toks := t' } :=
  I.laid (fun b v z => Heap.get?_push_of_some _ z) (Nat.le_refl _) ⟨XdAt.stay _ _ xd fun o z => by rw [hod] at z; cases z; exact gd, ⟨_, gd⟩, XdAt.stay⟩
 refine I1.write (x := e) (e := e) (o := ExcM e C (some s.heap.objs.size)) (h' := h') (t' := t') (by rw [upd_ne (Ne.symm ne), he]; exact True.intro) (.inl rfl) (fun b v hb z => ?_) ⟨_, g1⟩ ⟨⟨_, a0, g1, hc, hd, rfl⟩, ⟨_, g1⟩, ExcMAt.stay⟩
 by_cases q : b = s.heap.objs.size
 ·subst q
  rw [show ({ s with heap := s.heap.push od, toks := t' } : Shared).heap = s.heap.push od from rfl, gd] at z
  cases z
  exact hod
 ·have z' : (s.heap.push od).get? b = some v := z
  rcases Heap.get?_push_cases z' with ⟨r, _⟩ | r
  ·exact absurd r q
  ·exact g3 b v hb r
theorem setx_more (I : Inv X pins σ H s) (he : H e = some (ExcM e C (some dx))) (hD : H dx = some (XdO dx fs)) (ei : ExI X.K C) (hn : findIn X.K (.ref C) f = some none) (hl : fs.length < 1000) (ry : RelV y u)
  (k : ∀ s', Inv X pins σ (upd H dx (XdO dx (putF f y fs))) s' → Q () s') : wpAny (model X.prog X.w) A (setAttr (.ref e) f u) Q E s := by
 have p : ExcMAt e C (some dx) s.heap := (show ObjOk X.prog X.w H s.heap e (.ext (ExcMAt e C (some dx))) from I.hok e _ he).1
 obtain ⟨o, a0, hx, hc, hd, hdn⟩ := id p
 obtain ⟨mA, ns, rel, wi⟩ : XdAt dx fs s.heap := (show ObjOk X.prog X.w H s.heap dx (.ext (XdAt dx fs)) from I.hok dx _ hD).1
 refine setx I.kIn ei (ExcAt.looks p.at) hn (storex_more (s := { s with toks := s.toks + 1 }) I.kIn ei hx hc hd hdn ns wi (by rw [List.length_map]; exact hl) fun h' t' g2 g3 => ?_)
 have hd' : ∃ o, h'.get? dx = some o := let ⟨o, _, _, z, _⟩ := g2; ⟨o, z⟩
 refine k _ (I.write (x := dx) (e := dx) (by rw [hD]; exact True.intro) (.inl rfl) g3 hd' ⟨⟨_, g2, fun n => ?_, fun n hn => ?_⟩, hd', XdAt.stay⟩)
 ·show RelO ((putF f y fs).lookup n) (if n = f then some u else mA n)
  rw [lookup_putF]
  by_cases q : n = f
  ·rw [if_pos q, if_pos q]; exact ry
  ·rw [if_neg q, if_neg q]; exact rel n
 ·by_cases q : n = f
  ·rw [q]; exact (keys_putF f y fs).1
  ·refine (keys_putF f y fs).2 n (wi n fun z => hn ?_)
   show (if n = f then some u else mA n) = none
   rw [if_neg q]; exact z
end
theorem upd_id {H : Hp} {a : Addr} {o : HO} (h : H a = some o) : upd H a o = H := by
 funext b
 unfold upd
 by_cases z : b = a
 ·rw [if_pos z, z, h]
 ·rw [if_neg z]
section
variable {X : Cx} {pins : List (Addr × Obj)} {σ : St} {H : Hp} {s : Shared} {e C : Addr} {xo : Option Addr} {u : Value} {A : Around} {E : Value → Shared → Prop} {Q : Value → Shared → Prop}
theorem xinit (I : Inv X pins σ H s) (he : H e = some (ExcM e C xo)) (ei : ExI X.K C)
  (k : ∀ s', Inv X pins σ H s' → Q .none s') : wpAny (model X.prog X.w) A (call (.builtin "ValueError.__init__") [.ref e, u]) Q E s := by
 have p : ExcMAt e C xo s.heap := (show ObjOk X.prog X.w H s.heap e (.ext (ExcMAt e C xo)) from I.hok e _ he).1
 obtain ⟨o, a0, hx, hc, hd, hdn⟩ := id p
 obtain ⟨nm, qn, N, bs, up, sn, sub, ab, col, dd, k0, k1, k2, k3, k5, hl, tl⟩ := exi_of ei.ex
 have cl := I.kIn _ _ hl
 have T := tail_of_in I.kIn tl
 have F := PySem.F.excBase_ValueError
 obtain ⟨hh, g, d, t, os⟩ := s
 refine wpAny_call (codeAny_call_builtin F.init.plain F.initEntry (wpAny_check_init_subT F T cl hx hc ?_))
 obtain ⟨oc, od, odt, osl⟩ := o
 dsimp only at hc hd hdn
 subst hc hd hdn
 wp_walk
 have fin : Q Value.none ⟨(hh.push { cls := .type "tuple", data := .seq #[u] }).update e (Obj.mapFields fun x => x.setIfInBounds 0 (.ref hh.objs.size)), g, d, t, os⟩ := by
  have g1 := Heap.get?_update_self (Obj.mapFields fun x => x.setIfInBounds 0 (.ref hh.objs.size)) (Heap.get?_push_of_some { cls := .type "tuple", data := .seq #[u] } hx) rfl
  refine k _ ?_
  have J := I.write (x := e) (e := e) (o := ExcM e C od) (h' := (hh.push { cls := .type "tuple", data := .seq #[u] }).update e (Obj.mapFields fun x => x.setIfInBounds 0 (.ref hh.objs.size))) (t' := t) (by rw [he]; exact True.intro) (.inl rfl) (fun b v hb z => ?_) ⟨_, g1⟩ ⟨⟨_, .ref hh.objs.size, g1, rfl, rfl, rfl⟩, ⟨_, g1⟩, ExcMAt.stay⟩
  ·rw [upd_id he] at J
   exact J
  ·rw [Heap.get?_update_other _ _ (Ne.symm hb)]
   exact Heap.get?_push_of_some _ z
 show wpAny _ _ (match a0 with | .ref a => letGo [a0] | _ => pure ()) _ _ _
 cases a0 <;> first | (refine wpAny_pure (wpAny_pure ?_); exact fin) | (wp_walk; exact fin)
end
structure BaseI (K : PySem.W.Frag) (S : Addr) : Prop where
 ga : specialIn K (.ref S) "__getattribute__" = some (some (.builtin "type.__getattribute__"))
 rd : readsIn K S (.type "type") = true
 at_ : findCls K (.ref S) (.type "type") "__init__" = some (.val (.builtin "ValueError.__init__"))
def tInitX (K : PySem.W.Frag) (t : TA) : TE := fun σ H Q => t σ H fun vs H1 => ∃ (e C : Addr) (xo : Option Addr) (y : V), vs = [.ref e, y] ∧ H1 e = some (ExcM e C xo) ∧ ExI K C ∧ Q .non H1
theorem rd_initX {K : PySem.W.Frag} {t : TA} {σ : St} {H : Hp} {Q : VK} (h : t σ H fun vs H1 => ∃ (e C : Addr) (xo : Option Addr) (y : V), vs = [.ref e, y] ∧ H1 e = some (ExcM e C xo) ∧ ExI K C ∧ Q .non H1) : tInitX K t σ H Q := h
section
variable {X : Cx} {S : Addr} {x : Str} {p pos apos : Pos} {e o : Expr} {es : List Expr} {t : TA}
theorem pe_initX {pl : Sem Bool} (hg : Gl X x) (hm : X.mg x = some (.ref S)) (c : BaseI X.K S) (ha : PA X (e :: es) t)
  (hdb : (x == ("__debug__" : Str)) = false := by decide)
  (hst : starEach (e :: es) X.env = (false, eval e X.env) :: starEach es X.env := by rfl) (hpl : (backTo pos (starEach es X.env)).any (·.1) = false := by rfl)
  (ht : eval (.Call (.Attribute (.Name x p) "__init__" apos) (e :: es) [] pos) X.env = (do
   let ov ← eval (.Name x p) X.env
   standAt apos.atName
   let (f, first) ← holding [ov] (getMethod ov "__init__" pl)
   callWith pos f first (backTo pos (starEach (e :: es) X.env)) (backToKw pos (keywordEach [] X.env))) := by rfl) :
  PE X (.Call (.Attribute (.Name x p) "__init__" apos) (e :: es) [] pos) (tInitX X.K t) := by
 intro pins s σ H Q I h
 refine PySem.W.methodCall_KW (pl := pl) (thn ((pe_glob (v := .ref S) hg hm rfl hdb) pins s σ H (fun x H1 => x = .ref S ∧ H1 = H) I ⟨rfl, rfl⟩) fun u s1 ⟨x, H1, I1, rx, ex, eh⟩ => ?_) ht
 subst ex; subst eh
 obtain rfl : u = Value.ref S := rx
 refine PySem.W.method_cls I1.kIn c.ga (PySem.W.cls_value I1.kIn c.rd c.at_ rfl ?_)
 have I2 := I1.tok (s1.toks + 1)
 have hA := ha pos pins _ σ H1 _ I2 h
 rw [hst] at hA ⊢
 refine Calls.callWith_builtin (by show (false || (backTo pos (starEach es X.env)).any (·.1)) = false; rw [hpl] <;> rfl) (Calls.evalArgs_plain ?_)
 refine thn hA fun us s2 ⟨vs, H2, I3, r, q2⟩ => ?_
 obtain ⟨ee, C, xo, y, rfl, he, ei, q⟩ := q2
 obtain ⟨u1, u2, rfl, r1, r2⟩ := r.two
 cases (show u1 = Value.ref ee from r1)
 exact xinit I3 he ei fun s' I' => ⟨.non, H2, I', rfl, q⟩
end
def sFldX (K : PySem.W.Frag) (ta tv : TE) (f : Str) : TS := fun D σ H => tv σ H fun y H1 => ta σ H1 fun x H2 => ∃ (e C : Addr), x = .ref e ∧ ExI K C ∧ findIn K (.ref C) f = some none ∧
  ((H2 e = some (ExcM e C none) ∧ ∀ d, H2 d = none → d ≠ e → D.nx σ (upd (upd H2 d (XdO d [(f, y)])) e (ExcM e C (some d)))) ∨
   ∃ dx fs, H2 e = some (ExcM e C (some dx)) ∧ H2 dx = some (XdO dx fs) ∧ fs.length < 1000 ∧ D.nx σ (upd H2 dx (XdO dx (putF f y fs))))
theorem rd_fldXs {K : PySem.W.Frag} {ta tv : TE} {f : Str} {D : Ends} {σ : St} {H : Hp} (h : tv σ H fun y H1 => ta σ H1 fun x H2 => ∃ (e C : Addr), x = .ref e ∧ ExI K C ∧ findIn K (.ref C) f = some none ∧
  ((H2 e = some (ExcM e C none) ∧ ∀ d, H2 d = none → d ≠ e → D.nx σ (upd (upd H2 d (XdO d [(f, y)])) e (ExcM e C (some d)))) ∨
   ∃ dx fs, H2 e = some (ExcM e C (some dx)) ∧ H2 dx = some (XdO dx fs) ∧ fs.length < 1000 ∧ D.nx σ (upd H2 dx (XdO dx (putF f y fs))))) : sFldX K ta tv f D σ H := h
theorem ps_fldX {X : Cx} {ta tv : TE} {f : Str} {o value : Expr} {pos pos' : Pos} (ha : PE X o ta) (hv : PE X value tv) (hs : swapsWith value (some (.Attribute o f pos')) pos.line X.env = pure false) : PS X (.Assign [.Attribute o f pos'] value pos) (sFldX X.K ta tv f) := by
 intro pins s σ H D I h
 refine plainObj_wpAny_Assign_Attribute (thn (hv pins s σ H _ I h) fun u s1 ⟨y, H1, I1, ry, q⟩ => thn (ha pins s1 σ H1 _ I1 q) fun ov s2 ⟨x, H2, I2, rx, e, C, ex, ei, n, q2⟩ => ?_) hs
 subst ex
 obtain rfl : ov = Value.ref e := rx
 rcases q2 with ⟨he, k⟩ | ⟨dx, fs, he, hD, hl, k⟩
 ·exact setx_new I2 he ei n ry fun d s3 hd hne I3 => ⟨σ, _, I3, k d hd hne⟩
 ·exact setx_more I2 he hD ei n hl ry fun s3 I3 => ⟨σ, _, I3, k⟩
section
variable {prog : Program} {w : World} {A : Around} {E : Value → Shared → Prop} {s : Shared} {K : PySem.W.Frag} {x C : Addr} {name : Str} {v : Value}
theorem exc_get {Q : Value → Shared → Prop} {expr : Bool} (X : K.In s.heap) (xi : ExcIn K C) (LT : Looks (model prog w) s.heap (typeOf (.ref x)) (.ref C)) (L4 : Looks (model prog w) s.heap (find (.ref x) (.ref C) name) (.value v)) (hv : handedIn v = true)
  (h : Q v { s with toks := s.toks + 1 }) : wpAny (model prog w) A (getAttr (.ref x) name expr) Q E s := by
 obtain ⟨hh, g, d, t, os⟩ := s
 have L1 := looks_findIn (M := model prog w) X xi.ga
 have L2 := looks_findIn (M := model prog w) X xi.gt
 have L3 := looks_mroIn (M := model prog w) X xi.mb
 have f3 := (F.attrBase_ValueError).ga.bind (.ref x)
 unfold getAttr getAttrBy
 refine wpAny_bind (wpAny_mkText (wpAny_holding (wpAny_bind (LT.at (wpAny_bind (L1.at ?_))))))
 show wpAny _ _ (getAttrByItsOwn _ _ _ _ _ _) _ _ _
 unfold getAttrByItsOwn hookBefore
 refine wpAny_bind (L2.at ?_)
 refine wpAny_bind (wpAny_attempt (wpAny_holding ?_))
 have ce : callGetattribute (.ref x) (.str name t) (.builtin "BaseException.__getattribute__") expr = boundAndCalled (.builtin "BaseException.__getattribute__") (.ref x) (.str name t) := by cases expr <;> rfl
 rw [ce]
 unfold boundAndCalled
 rw [f3]
 refine wpAny_bind (wpAny_pure (wpAny_call ?_))
 have hk : builtinKind "BaseException.__getattribute__" = some .slot := (by decide +kernel)
 have hsplit : splitId "BaseException.__getattribute__" = some ("BaseException", "__getattribute__") := by decide +kernel
 refine codeAny_call_builtin (F.attrBase_ValueError).ga.plain F.entry_bexc_ga ?_
 have ha := F.args_bexc_ga (.ref x) (.str name t)
 simp only [checkBuiltinCall, hk, hsplit]; refine wpAny_bind ?_
 unfold isInstance
 refine wpAny_bind (LT.at (L3.at ?_))
 simp only [Bool.not_true, Bool.false_eq_true, if_false]; refine wpAny_of_eq (a := ()) ha ?_
 unfold Builtin.«object.__getattribute__»
 repeat (first | lk)
 show wpAny _ _ (handedOut v) _ _ _
 rw [handedOut_of hv]
 exact wpAny_pure h
end
def tFldX (K : PySem.W.Frag) (ta : TE) (f : Str) : TE := fun σ H Q => ta σ H fun x H1 => ∃ e C dx fs v, x = .ref e ∧ H1 e = some (ExcX e C (some dx)) ∧ H1 dx = some (XdO dx fs) ∧ ExcIn K C ∧ ExI K C ∧ findIn K (.ref C) f = some none ∧ fs.lookup f = some v ∧ Q v H1
def rFldX (K : PySem.W.Frag) (f : Str) (x : V) (H1 : Hp) (Q : VK) : Prop := ∃ e C dx fs v, x = .ref e ∧ H1 e = some (ExcX e C (some dx)) ∧ H1 dx = some (XdO dx fs) ∧ ExcIn K C ∧ ExI K C ∧ findIn K (.ref C) f = some none ∧ fs.lookup f = some v ∧ Q v H1
theorem rd_fldX {K : PySem.W.Frag} {ta : TE} {f : Str} {σ : St} {H : Hp} {Q : VK} (h : ta σ H fun x H1 => rFldX K f x H1 Q) : tFldX K ta f σ H Q := h
theorem pe_fldX {X : Cx} {ta : TE} {f : Str} {e : Expr} {pos : Pos} (he : PE X e ta) (hb : attributeBase e f X.env (eval e X.env) = eval e X.env) : PE X (.Attribute e f pos) (tFldX X.K ta f) := by
 intro pins s σ H Q I h
 refine attr_of hb (thn (he pins s σ H _ I h) fun u s1 ⟨x, H1, I1, rx, e, C, dx, fs, v, ex, h1, h2, xi, ei, n, l, q⟩ => ?_)
 subst ex
 obtain rfl : u = Value.ref e := rx
 obtain ⟨o, vs, g1, g2, g3, g4⟩ : ExcAtX e C (some dx) s1.heap := (show ObjOk X.prog X.w H1 s1.heap e (.ext (ExcAtX e C (some dx))) from I1.hok e _ h1).1
 obtain ⟨mA, ns, rel, _⟩ : XdAt dx fs s1.heap := (show ObjOk X.prog X.w H1 s1.heap dx (.ext (XdAt dx fs)) from I1.hok dx _ h2).1
 obtain ⟨u, hu, ru⟩ := RelO.some_of (v := v) (o := mA f) (by rw [← l]; exact rel f)
 obtain ⟨od, ho, hl⟩ := lookIn_ns ns
 obtain ⟨cd, up, hcd, _, hh, _⟩ := ei.cls
 have IA : InstAt s1.heap e o C (some od) := ⟨g1, g2, by unfold notCls; rw [g3], by rw [g4 dx rfl]; exact ho⟩
 have hd : hasDictIn X.K C = true := by unfold hasDictIn; rw [hcd]; exact hh
 exact exc_get I1.kIn xi (ExcAt.looks ⟨o, g1, g2⟩) (looks_find I1.kIn IA (findObj_own hd n rfl (by rw [hl, hu]))) (handed_of ru) ⟨v, H1, I1.tok _, ru, q⟩
def del (H : Hp) (e : Addr) : Hp := fun b => if b = e then none else H b
theorem del_ne {H : Hp} {e b : Addr} (h : b ≠ e) : del H e b = H b := by unfold del; rw [if_neg h]
theorem del_same {H : Hp} {e : Addr} : del H e e = none := by unfold del; rw [if_pos rfl]
theorem Inv.untrack {X : Cx} {pins : List (Addr × Obj)} {σ : St} {H : Hp} {s : Shared} {e : Addr} {φ : Heap → Prop} (I : Inv X pins σ H s) (he : H e = some (.ext φ)) : Inv X pins σ (del H e) s := by
 have nt : ∀ b u, H b = some u → (∀ ψ, u ≠ .ext ψ) → del H e b = some u := fun b u z n => by
  rw [del_ne (fun q => by subst q; rw [he] at z; cases z; exact n φ rfl)]; exact z
 refine ⟨I.ok, I.os, I.bare, ⟨I.base.keep, I.base.slot, fun b o z n hx => ?_, I.base.there, fun b xs z => ?_, fun b o u z => ?_, fun b ps z => ?_⟩, I.loc, I.cell, ?_, fun x c z => ?_, fun p hp => ?_, fun b u z => ?_, I.len⟩
 ·by_cases q : b = e
  ·rw [q, del_same]
  ·rw [del_ne q]; exact I.base.free b o z n hx
 ·exact nt b _ (I.base.tups b xs z) (by intro ψ q; cases q)
 ·exact nt b _ (I.base.frzs b o u z) (by intro ψ q; cases q)
 ·obtain ⟨m, q⟩ := I.base.tbls b ps z
  exact ⟨m, nt b _ q (by intro ψ q; cases q)⟩
 ·by_cases q : X.env.locals = e
  ·rw [q, del_same]
  ·rw [del_ne q]; exact I.free
 ·by_cases q : c = e
  ·rw [q, del_same]
  ·rw [del_ne q]; exact I.freeC x c z
 ·obtain ⟨a, n, r⟩ := I.pin p hp
  refine ⟨a, ?_, r⟩
  by_cases q : p.1 = e
  ·rw [q, del_same]
  ·rw [del_ne q]; exact n
 ·have hb : b ≠ e := fun q => by rw [q, del_same] at z; cases z
  rw [del_ne hb] at z
  exact (I.hok b u z).stay (fun _ _ _ w => w) (fun c w => nt c _ w (by intro ψ q; cases q)) fun c xs w => nt c _ w (by intro ψ q; cases q)
section
variable {M : Model} {A : Around} {E : Value → Shared → Prop} {env : Env} {K : PySem.W.Frag} {C : Addr}
theorem raise_x {s : Shared} {x : Sem Value} {Q : Flow → Shared → Prop} (ei : ExI K C) (hh : A.handled = none)
  (h : wpAny M A x (fun v s₁ => ∃ e oe a0, v = .ref e ∧ K.In s₁.heap ∧ s₁.heap.get? e = some oe ∧ oe.cls = .ref C ∧ oe.data = .fields #[a0, .none, .none, .none, .bool false, .none] ∧ E (.ref e) s₁) E s) : wpAny M A (raiseStmt env (some x) none) Q E s := by
 obtain ⟨nm, qn, N, bs, up, sn, sub, ab, col, dd, k0, k1, k2, k3, k5, hl, tl⟩ := exi_of ei.ex
 unfold raiseStmt
 refine wpAny_bind (wpAny_mono h (fun v s₁ h₁ => ?_) fun _ _ x => x)
 obtain ⟨e, oe, a0, rfl, X, he, hc, hd, hE⟩ := h₁
 have cl := X _ _ hl
 have hb : (Value.ref C :: up).contains (.type "BaseException") = true := by rw [List.contains_cons, (tail_of_in X tl).hasType PySem.F.excBase_ValueError.hasBase, Bool.or_true]
 obtain ⟨oc, od, odt, osl⟩ := oe
 dsimp only at hc hd
 subst hc hd
 obtain ⟨hp, g, d, tk, os⟩ := s₁
 repeat (first | with_reducible refine wpAny_loadPart_at he ?_ | with_reducible refine wpAny_loadPart_at cl ?_ | (with_reducible refine wpAny_isSubtype_exc cl ?_; rw [hb]) | wp_step)
 exact wpAny_raiseNew_none hh hE
end
structure MkX (K : PySem.W.Frag) (C f : Addr) : Prop where
 ei : ExI K C
 init : findIn K (.ref C) "__init__" = some (some (.ref f))
 fn : typeIn K (.ref f) = some (.type "function")
 kp : keepIn K (.ref C) = true
def tRaiseI (C : Addr) (sp : Sp) (E : XK) (t : TA) : TS := fun _ σ H => t σ H fun vs H1 => vs.length ≤ sizeLine ∧ ∀ e, H1 e = none →
 sp (.ref e :: vs) (upd H1 e (ExcM e C none)) (fun v H2 => v = .non ∧ ∃ xo, H2 e = some (ExcM e C xo) ∧ E (.ref C) xo (del H2 e)) E0
theorem rd_raiseI {C : Addr} {sp : Sp} {E : XK} {t : TA} {D : Ends} {σ : St} {H : Hp} (h : t σ H fun vs H1 => vs.length ≤ sizeLine ∧ ∀ e, H1 e = none →
 sp (.ref e :: vs) (upd H1 e (ExcM e C none)) (fun v H2 => v = .non ∧ ∃ xo, H2 e = some (ExcM e C xo) ∧ E (.ref C) xo (del H2 e)) E0) : tRaiseI C sp E t D σ H := h
theorem ps_raiseI {X : Cx} {E : XK} {x : Str} {C f : Addr} {fd : FuncData} {ps : List Str} {sp : Sp} {k : Nat} {np cpos pos : Pos} {e : Expr} {es : List Expr} {t : TA} (M : MkX X.K C f) (F : FnOk X.prog X.w X.K X.mg X.base CX0 k f fd ps sp) (hr : Room (k + 1) X.A)
  (hg : Gl X x) (hm : X.mg x = some (.ref C)) (hb : Binds X.K fd ps []) (hc : X.calm = true) (hex : X.ex = [])
  (hx : ∀ (pins : List (Addr × Obj)) (σ : St) (H : Hp) (s : Shared) (e : Addr) (xo : Option Addr) (oe : Obj) (vs : Array Value), Inv X pins σ H s → s.heap.get? e = some oe → oe.cls = .ref C → oe.data = .fields vs → vs[1]? = some .none → X.s₀.heap.get? e = none → H e = none → (∀ dx, xo = some dx → oe.dict = some dx) → E (.ref C) xo H → X.xe (.ref e) s)
  (ha : PA X (e :: es) t) (hd : (x == ("__debug__" : Str)) = false := by decide) (he : starEach (e :: es) X.env = (false, eval e X.env) :: starEach es X.env := by rfl) (hpl : (backTo cpos (starEach es X.env)).any (·.1) = false := by rfl) :
  PS X (.Raise (some (.Call (.Name x np) (e :: es) [] cpos)) none pos) (tRaiseI C sp E t) := by
 intro pins s σ H D I h
 rw [arm_exec_Raise]
 refine wpAny_bind (wpAny_standAt (raise_x (K := X.K) (C := C) M.ei (I.ok.hd hc) (wpAny_bind (wpAny_mono (wpAny_Call_Name_kw (ld_glob I hg hm ?_ hd)) (fun v s3 h3 => wpAny_bind (wpAny_standAt (wpAny_pure h3))) fun _ _ z => z))))
 refine PySem.W.callWith_K (h₀ := X.base) I.ok.mod.kin M.kp (thn (ha cpos pins s σ H _ I h) fun us s1 ⟨vs, H1, I1, r, hz, q⟩ => ⟨I1.kIn, ?_⟩) he hpl
 obtain ⟨h1, g1, d1, t1, os1⟩ := s1
 rw [List.nil_append]
 refine xcall I1.kIn M.ei.ex PySem.F.excBase_ValueError M.init M.fn (by rw [← r.length]; exact hz) fun h' a mk => ?_
 have nH : H1 a = none := I1.hok.none_of mk.new
 have n0 : X.s₀.heap.get? a = none := by
  cases z : X.s₀.heap.get? a with
  | none => rfl
  | some o => obtain ⟨o', z'⟩ := I1.base.there a o z (by rw [hex]; intro q; cases q); rw [show h1.get? a = none from mk.new] at z'; cases z'
 obtain ⟨tp, ga, _, _⟩ := mk.there
 have I2 : Inv X pins σ (upd H1 a (ExcM a C none)) ⟨h', g1, d1, t1, os1⟩ := by
  refine (I1.kept (t' := t1) mk.keeps).track nH n0 (fun p hp z => ?_) ⟨_, _, ga, rfl⟩ ⟨_, _, ga, rfl, rfl, rfl⟩ ExcMAt.stay
  have hp' := (I1.pin p hp).1
  rw [z, show h1.get? a = none from mk.new] at hp'
  cases hp'
 have hq := q a nH
 have r2 : Vals (V.ref a :: vs) (Value.ref a :: us) := .cons rfl r
 have hl : (Value.ref a :: us ++ []).length = ps.length := by
  rw [List.append_nil]
  have e := r2.length
  rw [F.len _ _ _ _ hq] at e
  exact e.symm
 refine wpAny_call (codeAny_mono (F.run _ X.stack _ _ ⟨Value.ref a :: us, []⟩ (Value.ref a :: us) _ _ E0 (hr.make C us []) (I2.env0.make C us []) (by have := hb _ (Value.ref a :: us) I2.kIn hl; rw [List.append_nil] at this; exact this) r2 hq) fun r s' hq' => ?_)
 cases r with
 | error e => exact False.elim hq'
 | ok fl =>
  cases fl with
  | ret u =>
   obtain ⟨v, H', I3, rv, ev, xo, hM, hE⟩ := I2.after hq'
   subst ev
   refine ⟨rv, ?_⟩
   obtain ⟨o, a0, y1, y2, y3, y4⟩ : ExcMAt a C xo s'.heap := (show ObjOk X.prog X.w H' s'.heap a (.ext (ExcMAt a C xo)) from I3.hok a _ hM).1
   exact ⟨a, o, a0, rfl, I3.kIn, y1, y2, y3, hx pins σ _ s' a xo o _ (I3.untrack hM) y1 y2 y3 rfl n0 del_same (fun dx z => y4.trans z) hE⟩
  | next => exact False.elim hq'
  | brk => exact False.elim hq'
  | cont => exact False.elim hq'
def tFmt (ta : TE) : TE := fun σ H Q => ta σ H fun v H1 => ∃ n : Nat, v = .int (n : Int) ∧ n < 100 ∧ ∀ x : Str, x.length ≤ 100 → Q (.str x) H1
theorem rd_fmt {ta : TE} {σ : St} {H : Hp} {Q : VK} (h : ta σ H fun v H1 => ∃ n : Nat, v = .int (n : Int) ∧ n < 100 ∧ ∀ x : Str, x.length ≤ 100 → Q (.str x) H1) : tFmt ta σ H Q := h
theorem text_small : ∀ n : Fin 100, ((toString ((n.val : Nat) : Int) : String) : Str).length ≤ 100 := by decide +kernel
theorem log_small : ∀ n : Fin 100, (((n.val : Nat) : Int)).natAbs.log2 < 1920 := by decide +kernel
theorem pe_fmt {X : Cx} {e : Expr} {ta : TE} {pos : Pos} (h : PE X e ta) : PE X (.FormattedValue e (-1) none pos) (tFmt ta) := by
 intro pins s σ H Q I q
 refine FormattedValue_plain (thn (h pins s σ H _ I q) fun u s1 ⟨v, H1, I1, r, n, ev, hn, k⟩ => ?_)
 subst ev
 obtain ⟨t, rfl⟩ := r
 exact formatField_int_small (log_small ⟨n, hn⟩) ⟨.str (toString ((n : Nat) : Int) : String), H1, I1.tok _, ⟨_, rfl⟩, k _ (text_small ⟨n, hn⟩)⟩
def tFs : List TE → Nat → St → Hp → (Hp → Prop) → Prop
 | [], _, _, H, R => R H
 | t :: ts, k, σ, H, R => t σ H fun v H1 => ∃ x : Str, v = .str x ∧ x.length ≤ 100 ∧ tFs ts k σ H1 R
def tFstr (ts : List TE) : TE := fun σ H Q => tFs ts 0 σ H fun H1 => ∀ x : Str, Q (.str x) H1
inductive PEs (X : Cx) : List Expr → List TE → Prop
 | nil : PEs X [] []
 | cons {e : Expr} {es : List Expr} {t : TE} {ts : List TE} : PE X e t → PEs X es ts → PEs X (e :: es) (t :: ts)
theorem join_ok {X : Cx} {pins : List (Addr × Obj)} {σ : St} {Q : VK} {k : Nat} : ∀ {es : List Expr} {ts : List TE} {s : Shared} {H : Hp} {out : Str}, PEs X es ts → out.length + 100 * es.length ≤ sizeLine → Inv X pins σ H s →
  tFs ts k σ H (fun H1 => ∀ x : Str, Q (.str x) H1) → wpAny (model X.prog X.w) X.A (joinParts out (evalEach es X.env)) (EP X pins σ Q) X.xe s
 | [], _, s, H, out, .nil, hz, I, h => joinParts_nil ⟨.str out, H, I.tok _, ⟨_, rfl⟩, h _⟩ (by simpa using hz)
 | e :: es, t :: ts, s, H, out, .cons he hs, hz, I, h => by
  rw [List.length_cons] at hz
  show wpAny _ _ (joinParts out (eval e X.env :: evalEach es X.env)) _ _ _
  refine joinParts_cons (thn (he pins s σ H _ I h) fun u s1 ⟨v, H1, I1, r, x, ev, hx, q⟩ => ?_)
  subst ev
  obtain ⟨t, rfl⟩ := r
  have hl : (out ++ x).length = out.length + x.length := strLen_append _ _
  exact ⟨by rw [hl]; omega, join_ok hs (by rw [hl]; omega) I1 q⟩
theorem pe_fstr {X : Cx} {e1 e2 : Expr} {es : List Expr} {ts : List TE} {pos : Pos} (h : PEs X (e1 :: e2 :: es) ts) (hz : es.length ≤ 20) : PE X (.JoinedStr (e1 :: e2 :: es) pos) (tFstr ts) := fun pins s σ H Q I q =>
 JoinedStr_many (join_ok (k := 0) (out := Str.empty) h (by have : (Str.empty).length = 0 := rfl; rw [this, List.length_cons, List.length_cons, sizeLine_eq]; omega) I q)
theorem rd_fstr {ts : List TE} {σ : St} {H : Hp} {Q : VK} (h : tFs ts 0 σ H fun H1 => ∀ x : Str, Q (.str x) H1) : tFstr ts σ H Q := h
end L2
set_option Elab.async false
set_option linter.all false
set_option maxRecDepth 100000
set_option maxHeartbeats 4000000
namespace L2
open PySem PySem.Spec PyProof.Rows PySem.W
theorem exi_mk {K : PySem.W.Frag} {C S : Addr} {line : List Value} {nid : String} {dd : Option Addr} {k : ClassData} {ss : Array (Option Value)} {k0 k1 k2 k3 k5 : Option Value}
  (hl : K.lookup C = some ⟨.type "type", dd, .cls k, ss⟩) (hm : k.mro = .ref C :: .ref S :: line) (hs : ss.toList = [k0, k1, k2, k3, some (.builtin nid), k5]) (hdel : k.hasDel = false) (hd : k.hasDict = true) (xs : excIn K S line nid = true) : exiK K C line nid = true := by
 have tl : tailIn K line (.ref S :: line) = true := by
  have tt : tailIn K line line = true := by
   cases line with
   | nil => rfl
   | cons v r => unfold tailIn; rw [show ((v :: r) == (v :: r)) = true from beq_self_eq_true _]; rfl
  unfold tailIn
  unfold excIn at xs
  split at xs
  case h_2 => cases xs
  case h_1 dd' cd sl ho =>
   split at xs
   case h_2 => cases xs
   case h_1 =>
    simp only [Bool.and_eq_true] at xs
    dsimp only
    rw [ho]
    simp only [Bool.or_eq_true, Bool.and_eq_true]
    exact .inr ⟨⟨xs.1.2, xs.2⟩, tt⟩
 unfold exiK
 simp only [hl, hm, hs]
 simp only [hdel, hd, tl, beq_self_eq_true, Bool.not_false, Bool.and_self]
theorem pe_fldXK {X : Cx} (K : PySem.W.Frag) (hK : X.K = K) {ta : TE} {f : Str} {e : Expr} {pos : Pos} (he : PE X e ta) (hb : attributeBase e f X.env (eval e X.env) = eval e X.env) : PE X (.Attribute e f pos) (tFldX K ta f) := hK ▸ pe_fldX he hb
end L2
set_option Elab.async false
set_option linter.all false
set_option maxRecDepth 100000
set_option maxHeartbeats 4000000
namespace L2
open PySem PySem.Spec PyProof.Rows
theorem rd_neS {H : Hp} {Q : VK} {i j : Str} (h : Q (.bl (!decide (i = j))) H) : rNe (.str i) (.str j) H Q := ⟨rfl, by
 have e : decide (V.str i = V.str j) = decide (i = j) := by by_cases z : i = j <;> simp [z]
 rw [e]; exact h⟩
end L2
set_option Elab.async false
set_option maxHeartbeats 4000000
set_option linter.all false
set_option maxRecDepth 100000
namespace My
open PySem PySem.Spec PyProof.Rows L2
def top (i : Nat) : Stmt := PySem.Challenge.pw_sashiko_k23_whole_pictures_of_cloths.main.body.getD i (.Pass ⟨0, 0, 0, 0⟩)
abbrev s_NoPictureInit : Stmt := (inClass (top 7) 0)
abbrev s_isnumber : Stmt := (top 10)
abbrev s_isbelow : Stmt := (top 11)
abbrev s_isbit : Stmt := (top 12)
abbrev s_allbits : Stmt := (top 13)
abbrev s_isside : Stmt := (top 14)
abbrev s_needcell : Stmt := (top 15)
abbrev s_BoardInit : Stmt := (inClass (top 17) 0)
abbrev s_ClothInit : Stmt := (inClass (top 18) 0)
abbrev s_Clothshade : Stmt := (inClass (top 18) 1)
abbrev s_Clothwide : Stmt := (inClass (top 17) 1)
abbrev s_Clothtall : Stmt := (inClass (top 17) 2)
abbrev s_Clothcols : Stmt := (inClass (top 17) 3)
abbrev s_Clothrows : Stmt := (inClass (top 17) 4)
abbrev s_Clothbitsalong : Stmt := (inClass (top 17) 5)
abbrev s_Clothbit : Stmt := (inClass (top 17) 6)
abbrev s_Clothcolour : Stmt := (inClass (top 18) 2)
abbrev s_coloursacross : Stmt := (top 20)
abbrev s_picture : Stmt := (top 21)
abbrev s_needtable : Stmt := (top 22)
abbrev s_iseven : Stmt := (top 23)
abbrev s_evenblocks : Stmt := (top 24)
abbrev s_unlike : Stmt := (top 25)
abbrev s_clothof : Stmt := (top 26)
abbrev s_Ldraws : Stmt := (top 28)
abbrev s_Lbits : Stmt := (top 29)
abbrev s_Lrow : Stmt := (top 30)
abbrev s_Lplan : Stmt := (top 31)
abbrev s_Lsewn : Stmt := (top 32)
abbrev s_Ltable : Stmt := (top 33)
abbrev s_Lspots : Stmt := (top 34)
abbrev s_Leven : Stmt := (top 35)
abbrev s_Lsame : Stmt := (top 36)
abbrev s_Ltried : Stmt := (top 37)
abbrev s_law : Stmt := (top 38)
theorem sc_NoPictureInit : FnScope ["self", "x", "y"] ["self", "x", "y"] (defScope s_NoPictureInit) := .by
theorem sc_isnumber : FnScope ["value"] ["value"] (defScope s_isnumber) := .by
theorem sc_isbelow : FnScope ["value", "bound"] ["value", "bound"] (defScope s_isbelow) := .by
theorem sc_isbit : FnScope ["value"] ["value"] (defScope s_isbit) := .by
theorem sc_allbits : FnScope ["values"] ["values"] (defScope s_allbits) := .by
theorem sc_isside : FnScope ["count"] ["count"] (defScope s_isside) := .by
theorem sc_needcell : FnScope ["board", "x", "y"] ["board", "x", "y"] (defScope s_needcell) := .by
theorem sc_BoardInit : FnScope ["self", "wide", "tall", "cols", "rows"] ["self", "wide", "tall", "cols", "rows"] (defScope s_BoardInit) := .by
theorem sc_ClothInit : FnScope ["self", "shade", "cols", "rows"] ["self", "shade", "cols", "rows"] (defScope s_ClothInit) := .by
theorem sc_Clothshade : FnScope ["self"] ["self"] (defScope s_Clothshade) := .by
theorem sc_Clothwide : FnScope ["self"] ["self"] (defScope s_Clothwide) := .by
theorem sc_Clothtall : FnScope ["self"] ["self"] (defScope s_Clothtall) := .by
theorem sc_Clothcols : FnScope ["self"] ["self"] (defScope s_Clothcols) := .by
theorem sc_Clothrows : FnScope ["self"] ["self"] (defScope s_Clothrows) := .by
theorem sc_Clothcolour : FnScope ["self", "x", "y", "stitches"] ["self", "x", "y"] (defScope s_Clothcolour) := .by
theorem sc_coloursacross : FnScope ["cloth", "y"] ["cloth", "y"] (defScope s_coloursacross) := .by
theorem sc_picture : FnScope ["cloth"] ["cloth"] (defScope s_picture) := .by
theorem sc_needtable : FnScope ["table", "lengths"] ["table"] (defScope s_needtable) := .by
theorem sc_iseven : FnScope ["table", "x", "y"] ["table", "x", "y"] (defScope s_iseven) := .by
theorem sc_evenblocks : FnScope ["table", "found", "y"] ["table"] (defScope s_evenblocks) := .by
theorem sc_unlike : FnScope ["numbers"] ["numbers"] (defScope s_unlike) := .by
theorem sc_clothof : FnScope ["table", "blocks", "first"] ["table"] (defScope s_clothof) := .by
theorem sc_Ldraws : FnScope ["_law_script", "_law_many", "_law_rows", "_law_mix", "_law_cell", "_law_rest"] ["_law_script", "_law_many"] (defScope s_Ldraws) := .by
theorem sc_Lbits : FnScope ["_law_number", "_law_many", "_law_row_here", "_law_k"] ["_law_number", "_law_many"] (defScope s_Lbits) := .by
theorem sc_Lrow : FnScope ["_law_some", "_law_many", "_law_raw", "_law_row_here"] ["_law_some", "_law_many"] (defScope s_Lrow) := .by
theorem sc_Lplan : FnScope ["_law_some", "_law_wide", "_law_tall"] ["_law_some"] (defScope s_Lplan) := .by
theorem sc_Lsewn : FnScope ["_law_plan_here", "_law_way", "_law_k", "_law_step", "_law_bits_here"] ["_law_plan_here", "_law_way", "_law_k", "_law_step"] (defScope s_Lsewn) := .by
theorem sc_Ltable : FnScope ["_law_plan_here", "_law_table_here", "_law_left", "_law_y", "_law_row_here", "_law_k"] ["_law_plan_here"] (defScope s_Ltable) := .by
theorem sc_Lspots : FnScope ["_law_some", "_law_table_here", "_law_many", "_law_k", "_law_x", "_law_y"] ["_law_some", "_law_table_here", "_law_many"] (defScope s_Lspots) := .by
theorem sc_Leven : FnScope ["_law_table_here", "_law_found", "_law_y", "_law_x", "_law_four"] ["_law_table_here"] (defScope s_Leven) := .by
theorem sc_Lsame : FnScope ["_law_told", "_law_due"] ["_law_told", "_law_due"] (defScope s_Lsame) := .by
theorem sc_Ltried : FnScope ["_law_table_here", "_law_cloth", "e"] ["_law_table_here"] (defScope s_Ltried) := .by
theorem sc_law : FnScope ["_law_script", "_law_some", "_law_plan_here", "_law_table_here", "_law_changed", "_law_bad", "_law_handed", "_law_found", "_law_cloth", "_law_x", "_law_y"] ["_law_script"] (defScope s_law) := .by
set_option genInjectivity false in
set_option genSizeOf false in
structure Ad where
 a_Board : Addr
 a_Cloth : Addr
 f_NoPictureInit : Addr
 d_NoPictureInit : FuncData
 f_isnumber : Addr
 d_isnumber : FuncData
 f_isbelow : Addr
 d_isbelow : FuncData
 f_isbit : Addr
 d_isbit : FuncData
 f_allbits : Addr
 d_allbits : FuncData
 f_isside : Addr
 d_isside : FuncData
 f_needcell : Addr
 d_needcell : FuncData
 f_BoardInit : Addr
 d_BoardInit : FuncData
 f_ClothInit : Addr
 d_ClothInit : FuncData
 f_Clothshade : Addr
 d_Clothshade : FuncData
 f_Clothwide : Addr
 d_Clothwide : FuncData
 f_Clothtall : Addr
 d_Clothtall : FuncData
 f_Clothcols : Addr
 d_Clothcols : FuncData
 f_Clothrows : Addr
 d_Clothrows : FuncData
 f_Clothbitsalong : Addr
 d_Clothbitsalong : FuncData
 f_Clothbit : Addr
 d_Clothbit : FuncData
 f_Clothcolour : Addr
 d_Clothcolour : FuncData
 f_coloursacross : Addr
 d_coloursacross : FuncData
 f_picture : Addr
 d_picture : FuncData
 f_needtable : Addr
 d_needtable : FuncData
 f_iseven : Addr
 d_iseven : FuncData
 f_evenblocks : Addr
 d_evenblocks : FuncData
 f_unlike : Addr
 d_unlike : FuncData
 f_clothof : Addr
 d_clothof : FuncData
 f_Ldraws : Addr
 d_Ldraws : FuncData
 f_Lbits : Addr
 d_Lbits : FuncData
 f_Lrow : Addr
 d_Lrow : FuncData
 f_Lplan : Addr
 d_Lplan : FuncData
 f_Lsewn : Addr
 d_Lsewn : FuncData
 f_Ltable : Addr
 d_Ltable : FuncData
 f_Lspots : Addr
 d_Lspots : FuncData
 f_Leven : Addr
 d_Leven : FuncData
 f_Lsame : Addr
 d_Lsame : FuncData
 f_Ltried : Addr
 d_Ltried : FuncData
 f_law : Addr
 d_law : FuncData
 a_SewError : Addr
 a_NoPicture : Addr
 a_BadSize : Addr
 a_BadBit : Addr
 a_NoCell : Addr
 a_NoLine : Addr
 tk_LONGEST_SIDE : Tok
structure Txt (K : PySem.W.Frag) (mg : Str → Option Value) (t : Ad) : Prop where
 mg_Board : mg "Board" = some (.ref t.a_Board)
 mg_Cloth : mg "Cloth" = some (.ref t.a_Cloth)
 cl_Cloth : Cls K t.a_Cloth
 mk_Cloth : Mk K t.a_Cloth t.f_ClothInit
 na_columns_count : NoAttr K t.a_Cloth "columns_count"
 na_rows_count : NoAttr K t.a_Cloth "rows_count"
 na_col_bits : NoAttr K t.a_Cloth "col_bits"
 na_row_bits : NoAttr K t.a_Cloth "row_bits"
 na_first_colour : NoAttr K t.a_Cloth "first_colour"
 F_NoPictureInit : Fun K "__init__" "NoPicture.__init__" s_NoPictureInit t.f_NoPictureInit t.d_NoPictureInit
 b_NoPictureInit : Binds K t.d_NoPictureInit ["self", "x", "y"] []
 mx_NoPicture : MkX K t.a_NoPicture t.f_NoPictureInit
 F_isnumber : Fun K "is_number" "is_number" s_isnumber t.f_isnumber t.d_isnumber
 b_isnumber : Binds K t.d_isnumber ["value"] []
 mg_isnumber : mg "is_number" = some (.ref t.f_isnumber)
 F_isbelow : Fun K "is_below" "is_below" s_isbelow t.f_isbelow t.d_isbelow
 b_isbelow : Binds K t.d_isbelow ["value", "bound"] []
 mg_isbelow : mg "is_below" = some (.ref t.f_isbelow)
 F_isbit : Fun K "is_bit" "is_bit" s_isbit t.f_isbit t.d_isbit
 b_isbit : Binds K t.d_isbit ["value"] []
 mg_isbit : mg "is_bit" = some (.ref t.f_isbit)
 F_allbits : Fun K "all_bits" "all_bits" s_allbits t.f_allbits t.d_allbits
 b_allbits : Binds K t.d_allbits ["values"] []
 mg_allbits : mg "all_bits" = some (.ref t.f_allbits)
 F_isside : Fun K "is_side" "is_side" s_isside t.f_isside t.d_isside
 b_isside : Binds K t.d_isside ["count"] []
 mg_isside : mg "is_side" = some (.ref t.f_isside)
 F_needcell : Fun K "need_cell" "need_cell" s_needcell t.f_needcell t.d_needcell
 b_needcell : Binds K t.d_needcell ["board", "x", "y"] []
 mg_needcell : mg "need_cell" = some (.ref t.f_needcell)
 F_BoardInit : Fun K "__init__" "Board.__init__" s_BoardInit t.f_BoardInit t.d_BoardInit
 b_BoardInit : Binds K t.d_BoardInit ["self", "wide", "tall", "cols", "rows"] []
 cf_BoardInit : ClsFn K t.a_Board "__init__" t.f_BoardInit
 F_ClothInit : Fun K "__init__" "Cloth.__init__" s_ClothInit t.f_ClothInit t.d_ClothInit
 b_ClothInit : Binds K t.d_ClothInit ["self", "shade", "cols", "rows"] []
 F_Clothshade : Fun K "shade" "Cloth.shade" s_Clothshade t.f_Clothshade t.d_Clothshade
 b_Clothshade : Binds K t.d_Clothshade ["self"] []
 m_Clothshade : Meth K t.a_Cloth "shade" t.f_Clothshade
 F_Clothwide : Fun K "wide" "Board.wide" s_Clothwide t.f_Clothwide t.d_Clothwide
 b_Clothwide : Binds K t.d_Clothwide ["self"] []
 m_Clothwide : Meth K t.a_Cloth "wide" t.f_Clothwide
 F_Clothtall : Fun K "tall" "Board.tall" s_Clothtall t.f_Clothtall t.d_Clothtall
 b_Clothtall : Binds K t.d_Clothtall ["self"] []
 m_Clothtall : Meth K t.a_Cloth "tall" t.f_Clothtall
 F_Clothcols : Fun K "cols" "Board.cols" s_Clothcols t.f_Clothcols t.d_Clothcols
 b_Clothcols : Binds K t.d_Clothcols ["self"] []
 m_Clothcols : Meth K t.a_Cloth "cols" t.f_Clothcols
 F_Clothrows : Fun K "rows" "Board.rows" s_Clothrows t.f_Clothrows t.d_Clothrows
 b_Clothrows : Binds K t.d_Clothrows ["self"] []
 m_Clothrows : Meth K t.a_Cloth "rows" t.f_Clothrows
 F_Clothbitsalong : Fun K "bits_along" "Board.bits_along" s_Clothbitsalong t.f_Clothbitsalong t.d_Clothbitsalong
 b_Clothbitsalong : Binds K t.d_Clothbitsalong ["self", "way"] []
 m_Clothbitsalong : Meth K t.a_Cloth "bits_along" t.f_Clothbitsalong
 F_Clothbit : Fun K "bit" "Board.bit" s_Clothbit t.f_Clothbit t.d_Clothbit
 b_Clothbit : Binds K t.d_Clothbit ["self", "way", "k"] []
 m_Clothbit : Meth K t.a_Cloth "bit" t.f_Clothbit
 F_Clothcolour : Fun K "colour" "Cloth.colour" s_Clothcolour t.f_Clothcolour t.d_Clothcolour
 b_Clothcolour : Binds K t.d_Clothcolour ["self", "x", "y"] []
 m_Clothcolour : Meth K t.a_Cloth "colour" t.f_Clothcolour
 F_coloursacross : Fun K "colours_across" "colours_across" s_coloursacross t.f_coloursacross t.d_coloursacross
 b_coloursacross : Binds K t.d_coloursacross ["cloth", "y"] []
 mg_coloursacross : mg "colours_across" = some (.ref t.f_coloursacross)
 F_picture : Fun K "picture" "picture" s_picture t.f_picture t.d_picture
 b_picture : Binds K t.d_picture ["cloth"] []
 mg_picture : mg "picture" = some (.ref t.f_picture)
 F_needtable : Fun K "need_table" "need_table" s_needtable t.f_needtable t.d_needtable
 b_needtable : Binds K t.d_needtable ["table"] []
 mg_needtable : mg "need_table" = some (.ref t.f_needtable)
 F_iseven : Fun K "is_even" "is_even" s_iseven t.f_iseven t.d_iseven
 b_iseven : Binds K t.d_iseven ["table", "x", "y"] []
 mg_iseven : mg "is_even" = some (.ref t.f_iseven)
 F_evenblocks : Fun K "even_blocks" "even_blocks" s_evenblocks t.f_evenblocks t.d_evenblocks
 b_evenblocks : Binds K t.d_evenblocks ["table"] []
 mg_evenblocks : mg "even_blocks" = some (.ref t.f_evenblocks)
 F_unlike : Fun K "unlike" "unlike" s_unlike t.f_unlike t.d_unlike
 b_unlike : Binds K t.d_unlike ["numbers"] []
 mg_unlike : mg "unlike" = some (.ref t.f_unlike)
 F_clothof : Fun K "cloth_of" "cloth_of" s_clothof t.f_clothof t.d_clothof
 b_clothof : Binds K t.d_clothof ["table"] []
 mg_clothof : mg "cloth_of" = some (.ref t.f_clothof)
 F_Ldraws : Fun K "_law_draws" "_law_draws" s_Ldraws t.f_Ldraws t.d_Ldraws
 b_Ldraws : Binds K t.d_Ldraws ["_law_script", "_law_many"] []
 mg_Ldraws : mg "_law_draws" = some (.ref t.f_Ldraws)
 F_Lbits : Fun K "_law_bits" "_law_bits" s_Lbits t.f_Lbits t.d_Lbits
 b_Lbits : Binds K t.d_Lbits ["_law_number", "_law_many"] []
 mg_Lbits : mg "_law_bits" = some (.ref t.f_Lbits)
 F_Lrow : Fun K "_law_row" "_law_row" s_Lrow t.f_Lrow t.d_Lrow
 b_Lrow : Binds K t.d_Lrow ["_law_some", "_law_many"] []
 mg_Lrow : mg "_law_row" = some (.ref t.f_Lrow)
 F_Lplan : Fun K "_law_plan" "_law_plan" s_Lplan t.f_Lplan t.d_Lplan
 b_Lplan : Binds K t.d_Lplan ["_law_some"] []
 mg_Lplan : mg "_law_plan" = some (.ref t.f_Lplan)
 F_Lsewn : Fun K "_law_sewn" "_law_sewn" s_Lsewn t.f_Lsewn t.d_Lsewn
 b_Lsewn : Binds K t.d_Lsewn ["_law_plan_here", "_law_way", "_law_k", "_law_step"] []
 mg_Lsewn : mg "_law_sewn" = some (.ref t.f_Lsewn)
 F_Ltable : Fun K "_law_table" "_law_table" s_Ltable t.f_Ltable t.d_Ltable
 b_Ltable : Binds K t.d_Ltable ["_law_plan_here"] []
 mg_Ltable : mg "_law_table" = some (.ref t.f_Ltable)
 F_Lspots : Fun K "_law_spots" "_law_spots" s_Lspots t.f_Lspots t.d_Lspots
 b_Lspots : Binds K t.d_Lspots ["_law_some", "_law_table_here", "_law_many"] []
 mg_Lspots : mg "_law_spots" = some (.ref t.f_Lspots)
 F_Leven : Fun K "_law_even" "_law_even" s_Leven t.f_Leven t.d_Leven
 b_Leven : Binds K t.d_Leven ["_law_table_here"] []
 mg_Leven : mg "_law_even" = some (.ref t.f_Leven)
 F_Lsame : Fun K "_law_same" "_law_same" s_Lsame t.f_Lsame t.d_Lsame
 b_Lsame : Binds K t.d_Lsame ["_law_told", "_law_due"] []
 mg_Lsame : mg "_law_same" = some (.ref t.f_Lsame)
 F_Ltried : Fun K "_law_tried" "_law_tried" s_Ltried t.f_Ltried t.d_Ltried
 b_Ltried : Binds K t.d_Ltried ["_law_table_here"] []
 mg_Ltried : mg "_law_tried" = some (.ref t.f_Ltried)
 F_law : Fun K "law" "law" s_law t.f_law t.d_law
 b_law : Binds K t.d_law ["_law_script"] []
 mg_law : mg "law" = some (.ref t.f_law)
 mg_SewError : mg "SewError" = some (.ref t.a_SewError)
 mg_NoPicture : mg "NoPicture" = some (.ref t.a_NoPicture)
 mg_BadSize : mg "BadSize" = some (.ref t.a_BadSize)
 mg_BadBit : mg "BadBit" = some (.ref t.a_BadBit)
 mg_NoCell : mg "NoCell" = some (.ref t.a_NoCell)
 mg_NoLine : mg "NoLine" = some (.ref t.a_NoLine)
 x_BadSize : PySem.W.excIn K t.a_BadSize [.type "ValueError", .type "Exception", .type "BaseException", .type "object"] "ValueError.__new__" = true
 xi_BadSize : ExcIn K t.a_BadSize
 cat_BadSize : PySem.W.exmOne K (.ref t.a_BadSize) (.ref t.a_SewError) = some true
 x_BadBit : PySem.W.excIn K t.a_BadBit [.type "ValueError", .type "Exception", .type "BaseException", .type "object"] "ValueError.__new__" = true
 xi_BadBit : ExcIn K t.a_BadBit
 cat_BadBit : PySem.W.exmOne K (.ref t.a_BadBit) (.ref t.a_SewError) = some true
 x_NoCell : PySem.W.excIn K t.a_NoCell [.type "ValueError", .type "Exception", .type "BaseException", .type "object"] "ValueError.__new__" = true
 xi_NoCell : ExcIn K t.a_NoCell
 cat_NoCell : PySem.W.exmOne K (.ref t.a_NoCell) (.ref t.a_SewError) = some true
 x_NoLine : PySem.W.excIn K t.a_NoLine [.type "ValueError", .type "Exception", .type "BaseException", .type "object"] "ValueError.__new__" = true
 xi_NoLine : ExcIn K t.a_NoLine
 cat_NoLine : PySem.W.exmOne K (.ref t.a_NoLine) (.ref t.a_SewError) = some true
 bi_SewError : BaseI K t.a_SewError
 nx_NoPicture_x : PySem.W.findIn K (.ref t.a_NoPicture) "x" = some none
 nx_NoPicture_y : PySem.W.findIn K (.ref t.a_NoPicture) "y" = some none
 xi_NoPicture : ExcIn K t.a_NoPicture
 cat_NoPicture : PySem.W.exmOne K (.ref t.a_NoPicture) (.ref t.a_SewError) = some true
 ct_NoPicture : PySem.W.exmOne K (.ref t.a_NoPicture) (.ref t.a_NoPicture) = some true
 kt_NoPicture_SewError : PySem.W.kitOne K (.ref t.a_NoPicture) (.ref t.a_SewError) = some true
 kt_NoPicture_ValueError : PySem.W.kitOne K (.ref t.a_NoPicture) (.type "ValueError") = some true
 mg_LONGEST_SIDE : mg "LONGEST_SIDE" = some (.int 40 t.tk_LONGEST_SIDE)
 no_isinstance : mg "isinstance" = none
 no_int : mg "int" = none
 no_bool : mg "bool" = none
 no_all : mg "all" = none
 no_len : mg "len" = none
 no_tuple : mg "tuple" = none
 no_list : mg "list" = none
 no_range : mg "range" = none
 no_abs : mg "abs" = none
 no_sum : mg "sum" = none
 no_min : mg "min" = none
 no_str : mg "str" = none
 no_zip : mg "zip" = none
 no_ValueError : mg "ValueError" = none
theorem txt_mk {K : PySem.W.Frag} {h : Heap} {mg : Str → Option Value} (X : K.In h) (G : h.Ns mainGlobals mg) {C_Board : Addr} {C_Cloth : Addr} {f_NoPictureInit : Addr} {d_NoPictureInit : FuncData} {f_isnumber : Addr} {d_isnumber : FuncData} {f_isbelow : Addr} {d_isbelow : FuncData} {f_isbit : Addr} {d_isbit : FuncData} {f_allbits : Addr} {d_allbits : FuncData} {f_isside : Addr} {d_isside : FuncData} {f_needcell : Addr} {d_needcell : FuncData} {f_BoardInit : Addr} {d_BoardInit : FuncData} {f_ClothInit : Addr} {d_ClothInit : FuncData} {f_Clothshade : Addr} {d_Clothshade : FuncData} {f_Clothwide : Addr} {d_Clothwide : FuncData} {f_Clothtall : Addr} {d_Clothtall : FuncData} {f_Clothcols : Addr} {d_Clothcols : FuncData} {f_Clothrows : Addr} {d_Clothrows : FuncData} {f_Clothbitsalong : Addr} {d_Clothbitsalong : FuncData} {f_Clothbit : Addr} {d_Clothbit : FuncData} {f_Clothcolour : Addr} {d_Clothcolour : FuncData} {f_coloursacross : Addr} {d_coloursacross : FuncData} {f_picture : Addr} {d_picture : FuncData} {f_needtable : Addr} {d_needtable : FuncData} {f_iseven : Addr} {d_iseven : FuncData} {f_evenblocks : Addr} {d_evenblocks : FuncData} {f_unlike : Addr} {d_unlike : FuncData} {f_clothof : Addr} {d_clothof : FuncData} {f_Ldraws : Addr} {d_Ldraws : FuncData} {f_Lbits : Addr} {d_Lbits : FuncData} {f_Lrow : Addr} {d_Lrow : FuncData} {f_Lplan : Addr} {d_Lplan : FuncData} {f_Lsewn : Addr} {d_Lsewn : FuncData} {f_Ltable : Addr} {d_Ltable : FuncData} {f_Lspots : Addr} {d_Lspots : FuncData} {f_Leven : Addr} {d_Leven : FuncData} {f_Lsame : Addr} {d_Lsame : FuncData} {f_Ltried : Addr} {d_Ltried : FuncData} {f_law : Addr} {d_law : FuncData} {C_SewError : Addr} {C_NoPicture : Addr} {C_BadSize : Addr} {C_BadBit : Addr} {C_NoCell : Addr} {C_NoLine : Addr} {tk_LONGEST_SIDE : Tok}
  (aC_Board : PySem.W.nsIn K mainGlobals "Board" = some (some (.ref C_Board)))
  (ga_Board : PySem.W.specialIn K (.ref C_Board) "__getattribute__" = some (some (.builtin "type.__getattribute__")))
  (rd_Board : PySem.W.readsIn K C_Board (.type "type") = true)
  (aC_Cloth : PySem.W.nsIn K mainGlobals "Cloth" = some (some (.ref C_Cloth)))
  (pg_Cloth : PySem.W.plainGet K C_Cloth Str.empty = true)
  (hd_Cloth : PySem.W.hasDictIn K C_Cloth = true)
  (po_Cloth : PySem.W.plainOver K C_Cloth = true)
  (sa_Cloth : PySem.W.findIn K (.ref C_Cloth) "__setattr__" = some (some (.builtin "object.__setattr__")))
  (mk_Cloth : PySem.W.makesIn K C_Cloth = true)
  (kc_Cloth : PySem.W.keepIn K (.ref C_Cloth) = true)
  (na_columns_count : PySem.W.findIn K (.ref C_Cloth) "columns_count" = some none)
  (na_rows_count : PySem.W.findIn K (.ref C_Cloth) "rows_count" = some none)
  (na_col_bits : PySem.W.findIn K (.ref C_Cloth) "col_bits" = some none)
  (na_row_bits : PySem.W.findIn K (.ref C_Cloth) "row_bits" = some none)
  (na_first_colour : PySem.W.findIn K (.ref C_Cloth) "first_colour" = some none)
  (F_NoPictureInit : Fun K "__init__" "NoPicture.__init__" s_NoPictureInit f_NoPictureInit d_NoPictureInit)
  (oi_NoPicture : PySem.W.findIn K (.ref C_NoPicture) "__init__" = some (some (.ref f_NoPictureInit)))
  (of_NoPicture : PySem.W.typeIn K (.ref f_NoPictureInit) = some (.type "function"))
  (ok_NoPicture : PySem.W.keepIn K (.ref C_NoPicture) = true)
  (os_NoPicture : PySem.W.findIn K (.ref C_NoPicture) "__setattr__" = some (some (.builtin "object.__setattr__")))
  (om_NoPicture : PySem.W.mroIn K C_NoPicture (.type "object") = some true)
  (ox_NoPicture : exiK K C_NoPicture [.type "ValueError", .type "Exception", .type "BaseException", .type "object"] "ValueError.__new__" = true)
  (a_isnumber : PySem.W.nsIn K mainGlobals "is_number" = some (some (.ref f_isnumber)))
  (F_isnumber : Fun K "is_number" "is_number" s_isnumber f_isnumber d_isnumber)
  (a_isbelow : PySem.W.nsIn K mainGlobals "is_below" = some (some (.ref f_isbelow)))
  (F_isbelow : Fun K "is_below" "is_below" s_isbelow f_isbelow d_isbelow)
  (a_isbit : PySem.W.nsIn K mainGlobals "is_bit" = some (some (.ref f_isbit)))
  (F_isbit : Fun K "is_bit" "is_bit" s_isbit f_isbit d_isbit)
  (a_allbits : PySem.W.nsIn K mainGlobals "all_bits" = some (some (.ref f_allbits)))
  (F_allbits : Fun K "all_bits" "all_bits" s_allbits f_allbits d_allbits)
  (a_isside : PySem.W.nsIn K mainGlobals "is_side" = some (some (.ref f_isside)))
  (F_isside : Fun K "is_side" "is_side" s_isside f_isside d_isside)
  (a_needcell : PySem.W.nsIn K mainGlobals "need_cell" = some (some (.ref f_needcell)))
  (F_needcell : Fun K "need_cell" "need_cell" s_needcell f_needcell d_needcell)
  (fc_BoardInit : PySem.W.findCls K (.ref C_Board) (.type "type") "__init__" = some (.val (.ref f_BoardInit)))
  (F_BoardInit : Fun K "__init__" "Board.__init__" s_BoardInit f_BoardInit d_BoardInit)
  (a_ClothInit : PySem.W.findIn K (.ref C_Cloth) "__init__" = some (some (.ref f_ClothInit)))
  (i_ClothInit : PySem.W.isFn K (.ref f_ClothInit) = true)
  (F_ClothInit : Fun K "__init__" "Cloth.__init__" s_ClothInit f_ClothInit d_ClothInit)
  (a_Clothshade : PySem.W.findIn K (.ref C_Cloth) "shade" = some (some (.ref f_Clothshade)))
  (i_Clothshade : PySem.W.isFn K (.ref f_Clothshade) = true)
  (F_Clothshade : Fun K "shade" "Cloth.shade" s_Clothshade f_Clothshade d_Clothshade)
  (a_Clothwide : PySem.W.findIn K (.ref C_Cloth) "wide" = some (some (.ref f_Clothwide)))
  (i_Clothwide : PySem.W.isFn K (.ref f_Clothwide) = true)
  (F_Clothwide : Fun K "wide" "Board.wide" s_Clothwide f_Clothwide d_Clothwide)
  (a_Clothtall : PySem.W.findIn K (.ref C_Cloth) "tall" = some (some (.ref f_Clothtall)))
  (i_Clothtall : PySem.W.isFn K (.ref f_Clothtall) = true)
  (F_Clothtall : Fun K "tall" "Board.tall" s_Clothtall f_Clothtall d_Clothtall)
  (a_Clothcols : PySem.W.findIn K (.ref C_Cloth) "cols" = some (some (.ref f_Clothcols)))
  (i_Clothcols : PySem.W.isFn K (.ref f_Clothcols) = true)
  (F_Clothcols : Fun K "cols" "Board.cols" s_Clothcols f_Clothcols d_Clothcols)
  (a_Clothrows : PySem.W.findIn K (.ref C_Cloth) "rows" = some (some (.ref f_Clothrows)))
  (i_Clothrows : PySem.W.isFn K (.ref f_Clothrows) = true)
  (F_Clothrows : Fun K "rows" "Board.rows" s_Clothrows f_Clothrows d_Clothrows)
  (a_Clothbitsalong : PySem.W.findIn K (.ref C_Cloth) "bits_along" = some (some (.ref f_Clothbitsalong)))
  (i_Clothbitsalong : PySem.W.isFn K (.ref f_Clothbitsalong) = true)
  (F_Clothbitsalong : Fun K "bits_along" "Board.bits_along" s_Clothbitsalong f_Clothbitsalong d_Clothbitsalong)
  (a_Clothbit : PySem.W.findIn K (.ref C_Cloth) "bit" = some (some (.ref f_Clothbit)))
  (i_Clothbit : PySem.W.isFn K (.ref f_Clothbit) = true)
  (F_Clothbit : Fun K "bit" "Board.bit" s_Clothbit f_Clothbit d_Clothbit)
  (a_Clothcolour : PySem.W.findIn K (.ref C_Cloth) "colour" = some (some (.ref f_Clothcolour)))
  (i_Clothcolour : PySem.W.isFn K (.ref f_Clothcolour) = true)
  (F_Clothcolour : Fun K "colour" "Cloth.colour" s_Clothcolour f_Clothcolour d_Clothcolour)
  (a_coloursacross : PySem.W.nsIn K mainGlobals "colours_across" = some (some (.ref f_coloursacross)))
  (F_coloursacross : Fun K "colours_across" "colours_across" s_coloursacross f_coloursacross d_coloursacross)
  (a_picture : PySem.W.nsIn K mainGlobals "picture" = some (some (.ref f_picture)))
  (F_picture : Fun K "picture" "picture" s_picture f_picture d_picture)
  (a_needtable : PySem.W.nsIn K mainGlobals "need_table" = some (some (.ref f_needtable)))
  (F_needtable : Fun K "need_table" "need_table" s_needtable f_needtable d_needtable)
  (a_iseven : PySem.W.nsIn K mainGlobals "is_even" = some (some (.ref f_iseven)))
  (F_iseven : Fun K "is_even" "is_even" s_iseven f_iseven d_iseven)
  (a_evenblocks : PySem.W.nsIn K mainGlobals "even_blocks" = some (some (.ref f_evenblocks)))
  (F_evenblocks : Fun K "even_blocks" "even_blocks" s_evenblocks f_evenblocks d_evenblocks)
  (a_unlike : PySem.W.nsIn K mainGlobals "unlike" = some (some (.ref f_unlike)))
  (F_unlike : Fun K "unlike" "unlike" s_unlike f_unlike d_unlike)
  (a_clothof : PySem.W.nsIn K mainGlobals "cloth_of" = some (some (.ref f_clothof)))
  (F_clothof : Fun K "cloth_of" "cloth_of" s_clothof f_clothof d_clothof)
  (a_Ldraws : PySem.W.nsIn K mainGlobals "_law_draws" = some (some (.ref f_Ldraws)))
  (F_Ldraws : Fun K "_law_draws" "_law_draws" s_Ldraws f_Ldraws d_Ldraws)
  (a_Lbits : PySem.W.nsIn K mainGlobals "_law_bits" = some (some (.ref f_Lbits)))
  (F_Lbits : Fun K "_law_bits" "_law_bits" s_Lbits f_Lbits d_Lbits)
  (a_Lrow : PySem.W.nsIn K mainGlobals "_law_row" = some (some (.ref f_Lrow)))
  (F_Lrow : Fun K "_law_row" "_law_row" s_Lrow f_Lrow d_Lrow)
  (a_Lplan : PySem.W.nsIn K mainGlobals "_law_plan" = some (some (.ref f_Lplan)))
  (F_Lplan : Fun K "_law_plan" "_law_plan" s_Lplan f_Lplan d_Lplan)
  (a_Lsewn : PySem.W.nsIn K mainGlobals "_law_sewn" = some (some (.ref f_Lsewn)))
  (F_Lsewn : Fun K "_law_sewn" "_law_sewn" s_Lsewn f_Lsewn d_Lsewn)
  (a_Ltable : PySem.W.nsIn K mainGlobals "_law_table" = some (some (.ref f_Ltable)))
  (F_Ltable : Fun K "_law_table" "_law_table" s_Ltable f_Ltable d_Ltable)
  (a_Lspots : PySem.W.nsIn K mainGlobals "_law_spots" = some (some (.ref f_Lspots)))
  (F_Lspots : Fun K "_law_spots" "_law_spots" s_Lspots f_Lspots d_Lspots)
  (a_Leven : PySem.W.nsIn K mainGlobals "_law_even" = some (some (.ref f_Leven)))
  (F_Leven : Fun K "_law_even" "_law_even" s_Leven f_Leven d_Leven)
  (a_Lsame : PySem.W.nsIn K mainGlobals "_law_same" = some (some (.ref f_Lsame)))
  (F_Lsame : Fun K "_law_same" "_law_same" s_Lsame f_Lsame d_Lsame)
  (a_Ltried : PySem.W.nsIn K mainGlobals "_law_tried" = some (some (.ref f_Ltried)))
  (F_Ltried : Fun K "_law_tried" "_law_tried" s_Ltried f_Ltried d_Ltried)
  (a_law : PySem.W.nsIn K mainGlobals "law" = some (some (.ref f_law)))
  (F_law : Fun K "law" "law" s_law f_law d_law)
  (aX_SewError : PySem.W.nsIn K mainGlobals "SewError" = some (some (.ref C_SewError)))
  (aX_NoPicture : PySem.W.nsIn K mainGlobals "NoPicture" = some (some (.ref C_NoPicture)))
  (aX_BadSize : PySem.W.nsIn K mainGlobals "BadSize" = some (some (.ref C_BadSize)))
  (aX_BadBit : PySem.W.nsIn K mainGlobals "BadBit" = some (some (.ref C_BadBit)))
  (aX_NoCell : PySem.W.nsIn K mainGlobals "NoCell" = some (some (.ref C_NoCell)))
  (aX_NoLine : PySem.W.nsIn K mainGlobals "NoLine" = some (some (.ref C_NoLine)))
  (bb : PySem.W.subIn K (.ref C_SewError) (.type "BaseException") = some true)
  (bm : PySem.W.mroIn K C_SewError (.type "object") = some true)
  (bt : PySem.W.typeIn K (.ref C_SewError) = some (.type "type"))
  (nb : PySem.W.subIn K (.ref C_NoPicture) (.type "BaseException") = some true)
  (nm : PySem.W.mroIn K C_NoPicture (.type "object") = some true)
  (nt : PySem.W.typeIn K (.ref C_NoPicture) = some (.type "type"))
  (ogs : PySem.W.specialIn K (.builtin "object.__class__") "__get__" = some (some (.builtin "getset_descriptor.__get__")))
  (otk : PySem.W.takesIn K (.builtin "object.__class__") = some true)
  (x_BadSize : PySem.W.excIn K C_BadSize [.type "ValueError", .type "Exception", .type "BaseException", .type "object"] "ValueError.__new__" = true)
  (ga_BadSize : PySem.W.findIn K (.ref C_BadSize) "__getattribute__" = some (some (.builtin "BaseException.__getattribute__")))
  (gt_BadSize : PySem.W.findIn K (.ref C_BadSize) "__getattr__" = some none)
  (gc_BadSize : PySem.W.findIn K (.ref C_BadSize) "__class__" = some (some (.builtin "object.__class__")))
  (go_BadSize : PySem.W.mroIn K C_BadSize (.type "object") = some true)
  (gb_BadSize : PySem.W.mroIn K C_BadSize (.type "BaseException") = some true)
  (sb_BadSize : PySem.W.subIn K (.ref C_BadSize) (.ref C_SewError) = some true)
  (x_BadBit : PySem.W.excIn K C_BadBit [.type "ValueError", .type "Exception", .type "BaseException", .type "object"] "ValueError.__new__" = true)
  (ga_BadBit : PySem.W.findIn K (.ref C_BadBit) "__getattribute__" = some (some (.builtin "BaseException.__getattribute__")))
  (gt_BadBit : PySem.W.findIn K (.ref C_BadBit) "__getattr__" = some none)
  (gc_BadBit : PySem.W.findIn K (.ref C_BadBit) "__class__" = some (some (.builtin "object.__class__")))
  (go_BadBit : PySem.W.mroIn K C_BadBit (.type "object") = some true)
  (gb_BadBit : PySem.W.mroIn K C_BadBit (.type "BaseException") = some true)
  (sb_BadBit : PySem.W.subIn K (.ref C_BadBit) (.ref C_SewError) = some true)
  (x_NoCell : PySem.W.excIn K C_NoCell [.type "ValueError", .type "Exception", .type "BaseException", .type "object"] "ValueError.__new__" = true)
  (ga_NoCell : PySem.W.findIn K (.ref C_NoCell) "__getattribute__" = some (some (.builtin "BaseException.__getattribute__")))
  (gt_NoCell : PySem.W.findIn K (.ref C_NoCell) "__getattr__" = some none)
  (gc_NoCell : PySem.W.findIn K (.ref C_NoCell) "__class__" = some (some (.builtin "object.__class__")))
  (go_NoCell : PySem.W.mroIn K C_NoCell (.type "object") = some true)
  (gb_NoCell : PySem.W.mroIn K C_NoCell (.type "BaseException") = some true)
  (sb_NoCell : PySem.W.subIn K (.ref C_NoCell) (.ref C_SewError) = some true)
  (x_NoLine : PySem.W.excIn K C_NoLine [.type "ValueError", .type "Exception", .type "BaseException", .type "object"] "ValueError.__new__" = true)
  (ga_NoLine : PySem.W.findIn K (.ref C_NoLine) "__getattribute__" = some (some (.builtin "BaseException.__getattribute__")))
  (gt_NoLine : PySem.W.findIn K (.ref C_NoLine) "__getattr__" = some none)
  (gc_NoLine : PySem.W.findIn K (.ref C_NoLine) "__class__" = some (some (.builtin "object.__class__")))
  (go_NoLine : PySem.W.mroIn K C_NoLine (.type "object") = some true)
  (gb_NoLine : PySem.W.mroIn K C_NoLine (.type "BaseException") = some true)
  (sb_NoLine : PySem.W.subIn K (.ref C_NoLine) (.ref C_SewError) = some true)
  (bg : PySem.W.specialIn K (.ref C_SewError) "__getattribute__" = some (some (.builtin "type.__getattribute__")))
  (br : PySem.W.readsIn K C_SewError (.type "type") = true)
  (ba : PySem.W.findCls K (.ref C_SewError) (.type "type") "__init__" = some (.val (.builtin "ValueError.__init__")))
  (nx_NoPicture_x : PySem.W.findIn K (.ref C_NoPicture) "x" = some none)
  (nx_NoPicture_y : PySem.W.findIn K (.ref C_NoPicture) "y" = some none)
  (ga_NoPicture : PySem.W.findIn K (.ref C_NoPicture) "__getattribute__" = some (some (.builtin "BaseException.__getattribute__")))
  (gt_NoPicture : PySem.W.findIn K (.ref C_NoPicture) "__getattr__" = some none)
  (gc_NoPicture : PySem.W.findIn K (.ref C_NoPicture) "__class__" = some (some (.builtin "object.__class__")))
  (go_NoPicture : PySem.W.mroIn K C_NoPicture (.type "object") = some true)
  (gb_NoPicture : PySem.W.mroIn K C_NoPicture (.type "BaseException") = some true)
  (sb_NoPicture : PySem.W.subIn K (.ref C_NoPicture) (.ref C_SewError) = some true)
  (sc_NoPicture : PySem.W.subIn K (.ref C_NoPicture) (.ref C_NoPicture) = some true)
  (kt_NoPicture_SewError : PySem.W.kitOne K (.ref C_NoPicture) (.ref C_SewError) = some true)
  (kt_NoPicture_ValueError : PySem.W.kitOne K (.ref C_NoPicture) (.type "ValueError") = some true)
  (v_LONGEST_SIDE : PySem.W.nsIn K mainGlobals "LONGEST_SIDE" = some (some (.int 40 tk_LONGEST_SIDE)))
  (z_isinstance : PySem.W.nsIn K mainGlobals "isinstance" = some none)
  (z_int : PySem.W.nsIn K mainGlobals "int" = some none)
  (z_bool : PySem.W.nsIn K mainGlobals "bool" = some none)
  (z_all : PySem.W.nsIn K mainGlobals "all" = some none)
  (z_len : PySem.W.nsIn K mainGlobals "len" = some none)
  (z_tuple : PySem.W.nsIn K mainGlobals "tuple" = some none)
  (z_list : PySem.W.nsIn K mainGlobals "list" = some none)
  (z_range : PySem.W.nsIn K mainGlobals "range" = some none)
  (z_abs : PySem.W.nsIn K mainGlobals "abs" = some none)
  (z_sum : PySem.W.nsIn K mainGlobals "sum" = some none)
  (z_min : PySem.W.nsIn K mainGlobals "min" = some none)
  (z_str : PySem.W.nsIn K mainGlobals "str" = some none)
  (z_zip : PySem.W.nsIn K mainGlobals "zip" = some none)
  (z_ValueError : PySem.W.nsIn K mainGlobals "ValueError" = some none) : ∃ t : Ad, Txt K mg t :=
 ⟨{ a_Board := C_Board, a_Cloth := C_Cloth, f_NoPictureInit := f_NoPictureInit, d_NoPictureInit := d_NoPictureInit, f_isnumber := f_isnumber, d_isnumber := d_isnumber, f_isbelow := f_isbelow, d_isbelow := d_isbelow, f_isbit := f_isbit, d_isbit := d_isbit, f_allbits := f_allbits, d_allbits := d_allbits, f_isside := f_isside, d_isside := d_isside, f_needcell := f_needcell, d_needcell := d_needcell, f_BoardInit := f_BoardInit, d_BoardInit := d_BoardInit, f_ClothInit := f_ClothInit, d_ClothInit := d_ClothInit, f_Clothshade := f_Clothshade, d_Clothshade := d_Clothshade, f_Clothwide := f_Clothwide, d_Clothwide := d_Clothwide, f_Clothtall := f_Clothtall, d_Clothtall := d_Clothtall, f_Clothcols := f_Clothcols, d_Clothcols := d_Clothcols, f_Clothrows := f_Clothrows, d_Clothrows := d_Clothrows, f_Clothbitsalong := f_Clothbitsalong, d_Clothbitsalong := d_Clothbitsalong, f_Clothbit := f_Clothbit, d_Clothbit := d_Clothbit, f_Clothcolour := f_Clothcolour, d_Clothcolour := d_Clothcolour, f_coloursacross := f_coloursacross, d_coloursacross := d_coloursacross, f_picture := f_picture, d_picture := d_picture, f_needtable := f_needtable, d_needtable := d_needtable, f_iseven := f_iseven, d_iseven := d_iseven, f_evenblocks := f_evenblocks, d_evenblocks := d_evenblocks, f_unlike := f_unlike, d_unlike := d_unlike, f_clothof := f_clothof, d_clothof := d_clothof, f_Ldraws := f_Ldraws, d_Ldraws := d_Ldraws, f_Lbits := f_Lbits, d_Lbits := d_Lbits, f_Lrow := f_Lrow, d_Lrow := d_Lrow, f_Lplan := f_Lplan, d_Lplan := d_Lplan, f_Lsewn := f_Lsewn, d_Lsewn := d_Lsewn, f_Ltable := f_Ltable, d_Ltable := d_Ltable, f_Lspots := f_Lspots, d_Lspots := d_Lspots, f_Leven := f_Leven, d_Leven := d_Leven, f_Lsame := f_Lsame, d_Lsame := d_Lsame, f_Ltried := f_Ltried, d_Ltried := d_Ltried, f_law := f_law, d_law := d_law, a_SewError := C_SewError, a_NoPicture := C_NoPicture, a_BadSize := C_BadSize, a_BadBit := C_BadBit, a_NoCell := C_NoCell, a_NoLine := C_NoLine, tk_LONGEST_SIDE := tk_LONGEST_SIDE }, ⟨PySem.W.mg_of X G aC_Board, PySem.W.mg_of X G aC_Cloth, ⟨pg_Cloth, hd_Cloth, po_Cloth, sa_Cloth⟩, ⟨mk_Cloth, a_ClothInit, i_ClothInit, kc_Cloth⟩, na_columns_count, na_rows_count, na_col_bits, na_row_bits, na_first_colour, F_NoPictureInit, F_NoPictureInit.b3 fun _ _ _ _ _ _ _ _ _ => rfl, ⟨⟨ox_NoPicture, os_NoPicture, om_NoPicture⟩, oi_NoPicture, of_NoPicture, ok_NoPicture⟩, F_isnumber, F_isnumber.b1 fun _ _ _ _ _ _ _ => rfl, PySem.W.mg_of X G a_isnumber, F_isbelow, F_isbelow.b2 fun _ _ _ _ _ _ _ _ => rfl, PySem.W.mg_of X G a_isbelow, F_isbit, F_isbit.b1 fun _ _ _ _ _ _ _ => rfl, PySem.W.mg_of X G a_isbit, F_allbits, F_allbits.b1 fun _ _ _ _ _ _ _ => rfl, PySem.W.mg_of X G a_allbits, F_isside, F_isside.b1 fun _ _ _ _ _ _ _ => rfl, PySem.W.mg_of X G a_isside, F_needcell, F_needcell.b3 fun _ _ _ _ _ _ _ _ _ => rfl, PySem.W.mg_of X G a_needcell, F_BoardInit, F_BoardInit.b5 fun _ _ _ _ _ _ _ _ _ _ _ => rfl, ⟨ga_Board, rd_Board, fc_BoardInit, F_BoardInit.kp⟩, F_ClothInit, F_ClothInit.b4 fun _ _ _ _ _ _ _ _ _ _ => rfl, F_Clothshade, F_Clothshade.b1 fun _ _ _ _ _ _ _ => rfl, ⟨a_Clothshade, i_Clothshade, F_Clothshade.kp⟩, F_Clothwide, F_Clothwide.b1 fun _ _ _ _ _ _ _ => rfl, ⟨a_Clothwide, i_Clothwide, F_Clothwide.kp⟩, F_Clothtall, F_Clothtall.b1 fun _ _ _ _ _ _ _ => rfl, ⟨a_Clothtall, i_Clothtall, F_Clothtall.kp⟩, F_Clothcols, F_Clothcols.b1 fun _ _ _ _ _ _ _ => rfl, ⟨a_Clothcols, i_Clothcols, F_Clothcols.kp⟩, F_Clothrows, F_Clothrows.b1 fun _ _ _ _ _ _ _ => rfl, ⟨a_Clothrows, i_Clothrows, F_Clothrows.kp⟩, F_Clothbitsalong, F_Clothbitsalong.b2 fun _ _ _ _ _ _ _ _ => rfl, ⟨a_Clothbitsalong, i_Clothbitsalong, F_Clothbitsalong.kp⟩, F_Clothbit, F_Clothbit.b3 fun _ _ _ _ _ _ _ _ _ => rfl, ⟨a_Clothbit, i_Clothbit, F_Clothbit.kp⟩, F_Clothcolour, F_Clothcolour.b3 fun _ _ _ _ _ _ _ _ _ => rfl, ⟨a_Clothcolour, i_Clothcolour, F_Clothcolour.kp⟩, F_coloursacross, F_coloursacross.b2 fun _ _ _ _ _ _ _ _ => rfl, PySem.W.mg_of X G a_coloursacross, F_picture, F_picture.b1 fun _ _ _ _ _ _ _ => rfl, PySem.W.mg_of X G a_picture, F_needtable, F_needtable.b1 fun _ _ _ _ _ _ _ => rfl, PySem.W.mg_of X G a_needtable, F_iseven, F_iseven.b3 fun _ _ _ _ _ _ _ _ _ => rfl, PySem.W.mg_of X G a_iseven, F_evenblocks, F_evenblocks.b1 fun _ _ _ _ _ _ _ => rfl, PySem.W.mg_of X G a_evenblocks, F_unlike, F_unlike.b1 fun _ _ _ _ _ _ _ => rfl, PySem.W.mg_of X G a_unlike, F_clothof, F_clothof.b1 fun _ _ _ _ _ _ _ => rfl, PySem.W.mg_of X G a_clothof, F_Ldraws, F_Ldraws.b2 fun _ _ _ _ _ _ _ _ => rfl, PySem.W.mg_of X G a_Ldraws, F_Lbits, F_Lbits.b2 fun _ _ _ _ _ _ _ _ => rfl, PySem.W.mg_of X G a_Lbits, F_Lrow, F_Lrow.b2 fun _ _ _ _ _ _ _ _ => rfl, PySem.W.mg_of X G a_Lrow, F_Lplan, F_Lplan.b1 fun _ _ _ _ _ _ _ => rfl, PySem.W.mg_of X G a_Lplan, F_Lsewn, F_Lsewn.b4 fun _ _ _ _ _ _ _ _ _ _ => rfl, PySem.W.mg_of X G a_Lsewn, F_Ltable, F_Ltable.b1 fun _ _ _ _ _ _ _ => rfl, PySem.W.mg_of X G a_Ltable, F_Lspots, F_Lspots.b3 fun _ _ _ _ _ _ _ _ _ => rfl, PySem.W.mg_of X G a_Lspots, F_Leven, F_Leven.b1 fun _ _ _ _ _ _ _ => rfl, PySem.W.mg_of X G a_Leven, F_Lsame, F_Lsame.b2 fun _ _ _ _ _ _ _ _ => rfl, PySem.W.mg_of X G a_Lsame, F_Ltried, F_Ltried.b1 fun _ _ _ _ _ _ _ => rfl, PySem.W.mg_of X G a_Ltried, F_law, F_law.b1 fun _ _ _ _ _ _ _ => rfl, PySem.W.mg_of X G a_law, PySem.W.mg_of X G aX_SewError, PySem.W.mg_of X G aX_NoPicture, PySem.W.mg_of X G aX_BadSize, PySem.W.mg_of X G aX_BadBit, PySem.W.mg_of X G aX_NoCell, PySem.W.mg_of X G aX_NoLine, x_BadSize, ⟨ga_BadSize, gt_BadSize, gc_BadSize, ogs, otk, go_BadSize, gb_BadSize⟩, exm_of bb bm bt sb_BadSize, x_BadBit, ⟨ga_BadBit, gt_BadBit, gc_BadBit, ogs, otk, go_BadBit, gb_BadBit⟩, exm_of bb bm bt sb_BadBit, x_NoCell, ⟨ga_NoCell, gt_NoCell, gc_NoCell, ogs, otk, go_NoCell, gb_NoCell⟩, exm_of bb bm bt sb_NoCell, x_NoLine, ⟨ga_NoLine, gt_NoLine, gc_NoLine, ogs, otk, go_NoLine, gb_NoLine⟩, exm_of bb bm bt sb_NoLine, ⟨bg, br, ba⟩, nx_NoPicture_x, nx_NoPicture_y, ⟨ga_NoPicture, gt_NoPicture, gc_NoPicture, ogs, otk, go_NoPicture, gb_NoPicture⟩, exm_of bb bm bt sb_NoPicture, exm_of nb nm nt sc_NoPicture, kt_NoPicture_SewError, kt_NoPicture_ValueError, PySem.W.mg_of X G v_LONGEST_SIDE, PySem.W.mg_none_of X G z_isinstance, PySem.W.mg_none_of X G z_int, PySem.W.mg_none_of X G z_bool, PySem.W.mg_none_of X G z_all, PySem.W.mg_none_of X G z_len, PySem.W.mg_none_of X G z_tuple, PySem.W.mg_none_of X G z_list, PySem.W.mg_none_of X G z_range, PySem.W.mg_none_of X G z_abs, PySem.W.mg_none_of X G z_sum, PySem.W.mg_none_of X G z_min, PySem.W.mg_none_of X G z_str, PySem.W.mg_none_of X G z_zip, PySem.W.mg_none_of X G z_ValueError⟩⟩
local macro_rules | `(tactic| walk_at "rd1") => `(tactic| first
 | ((with_reducible refine' rd_var (v := ?kv) ?ke ?kh); (case ke => exact rfl))
 | (with_reducible refine rd_seqA fun _ _ => ?_) | (with_reducible refine rd_asg ?_) | (with_reducible refine rd_name ?_) | (with_reducible refine rd_ret ?_) | (with_reducible refine rd_retN ?_) | (with_reducible refine rd_drop ?_)
 | (with_reducible refine rd_ifS ?_) | (with_reducible refine rd_tB ?_) | (with_reducible refine rd_tTest ?_) | (with_reducible refine rd_exbl ?_) | (with_reducible refine rd_c ?_) | (with_reducible refine rd_op ?_) | (with_reducible refine rd_un ?_)
 | (with_reducible refine rd_andV ?_) | (with_reducible refine rd_orV ?_) | (with_reducible refine rd_notV ?_) | (with_reducible refine rd_and ?_) | (with_reducible refine rd_or ?_) | (with_reducible refine rd_not ?_) | (with_reducible refine rd_if ?_) | (with_reducible refine rd_true ?_)
 | (with_reducible refine rd_I0 ?_) | (with_reducible refine rd_U ?_) | (with_reducible refine rd_eqI ?_) | (with_reducible refine rd_neI ?_) | (with_reducible refine rd_eqS ?_) | (with_reducible refine rd_eqB ?_) | (with_reducible refine rd_neB ?_)
 | (with_reducible refine rd_chain ?_) | (with_reducible refine rd_call ?_) | (with_reducible refine rd_nil ?_) | (with_reducible refine rd_cons ?_) | (with_reducible refine rd_CB ?_) | (with_reducible refine rd_tup ?_) | (with_reducible refine rd_lst ?_)
 | (with_reducible refine rd_next ?_) | ((with_reducible refine' rd_aug (x := ?kv) ?ke ?kh); (case ke => exact rfl)) | (with_reducible refine rd_ipI ?_) | (with_reducible refine rd_gcons ?_) | (with_reducible refine rd_gnil ?_) | (with_reducible refine rd_gsub ?_) | (with_reducible refine rd_sfld ?_) | (with_reducible refine rd_while ?_) | (with_reducible refine rd_comp ?_) | (with_reducible refine rd_fld ?_) | (with_reducible refine rd_meth ?_) | (with_reducible refine rd_make ?_) | (with_reducible refine rd_raise ?_) | (with_reducible refine rd_try ?_) | (with_reducible refine rd_callS ?_) | (with_reducible refine rd_methS ?_) | (with_reducible refine rd_makeS ?_) | (with_reducible refine rd_bm ?_) | (with_reducible refine rd_bm0 ?_) | (with_reducible refine rd_sl ?_) | (with_reducible refine rd_nopart ?_) | (with_reducible refine rd_part ?_) | (with_reducible refine rd_exint ?_) | (with_reducible refine rd_exref ?_)
 | (with_reducible refine rd_abs ?_) | (with_reducible refine rd_min2 ?_) | (with_reducible refine rd_max2 ?_) | (with_reducible refine rd_intB ?_) | (with_reducible refine rd_for ?_) | (with_reducible refine rd_rng1 ?_) | (with_reducible refine rd_ilist ?_) | (with_reducible refine rd_itup ?_) | (with_reducible refine rd_izipS ?_) | (with_reducible refine iteT ?_) | (with_reducible refine iteF ?_) | (with_reducible refine if_true_do ?_) | (with_reducible refine iteNN ?_) | (with_reducible refine iteTA ?_) | (with_reducible refine iteFA ?_) | ((with_reducible refine' rd_cut (r := ?kr) ?ke ?kh); (case ke => assumption)) | (dsimp only))
local macro_rules | `(tactic| walk_at "rd") => `(tactic| repeat walk_at "rd1")
section
variable {P : Program} {w : World} {K : PySem.W.Frag} {mg : Str → Option Value} {base : Heap} {t : Ad}
def isBit (i : Int) : Bool := decide (0 ≤ i) && decide (i < 2)
def sp_isnumber : Sp := fun vs H Q _ => ∃ i, vs = [.int i] ∧ Q (.bl true) H
theorem ok_isnumber (T : Txt K mg t) : FnOk P w K mg base CX0 1 t.f_isnumber t.d_isnumber ["value"] sp_isnumber := by
 refine T.F_isnumber.ok sc_isnumber (fun vs H Q E h => ?_) (fun cdv A outer s H vs Q E hr h => ?_)
 ·obtain ⟨i, rfl, _⟩ := h; rfl
 ·obtain ⟨i, rfl, k⟩ := h
  refine ⟨_, (pss_one (ps_ret (pe_and (pe_callB (cI_isinstK K rfl) rfl T.no_isinstance (by rfl) (pa_cons (pv 0) (pa_cons (pe_bltn (v := .ty "int") rfl T.no_int (by rfl : bootBuiltins "int" = some (.type "int")) rfl) pa_nil))) (pe_one (pe_not (pe_callB (cI_isinstK K rfl) rfl T.no_isinstance (by rfl) (pa_cons (pv 0) (pa_cons (pe_bltn (v := .ty "bool") rfl T.no_bool (by rfl : bootBuiltins "bool" = some (.type "bool")) rfl) pa_nil)))))))), ?_⟩
  walk_at "rd"
  refine rd_isi (.int i) kit_ii ?_
  walk_at "rd"
  refine rd_isi (.int i) kit_ib ?_
  walk_at "rd"
  exact k
def sp_isbelow : Sp := fun vs H Q _ => ∃ i b, vs = [.int i, .int b] ∧ Q (.bl (decide (0 ≤ i) && decide (i < b))) H
theorem ok_isbelow (T : Txt K mg t) : FnOk P w K mg base CX0 2 t.f_isbelow t.d_isbelow ["value", "bound"] sp_isbelow := by
 have G_isnumber := ok_isnumber (P := P) (w := w) (base := base) T
 refine T.F_isbelow.ok sc_isbelow (fun vs H Q E h => ?_) (fun cdv A outer s H vs Q E hr h => ?_)
 ·obtain ⟨i, b, rfl, _⟩ := h; rfl
 ·obtain ⟨i, b, rfl, k⟩ := h
  refine ⟨_, (pss_one (ps_ret (pe_and (pe_call G_isnumber (hr.mono (by first | decide | omega)) rfl T.mg_isnumber T.F_isnumber.kp T.b_isnumber .nil pass0 (pa_cons (pv 0) pa_nil)) (pe_one (pe_chain op_le op_lt pe_int (pv 0) (pv 1)))))), ?_⟩
  walk_at "rd"
  refine ⟨i, rfl, ?_⟩
  walk_at "rd"
  refine ite2 (fun h0 => ?_) (fun h0 => ?_)
  ·walk_at "rd"
   rw [h0] at k
   exact k
  ·rw [Bool.not_eq_true] at h0
   rw [h0] at k
   exact k
def sp_isbit : Sp := fun vs H Q _ => ∃ i, vs = [.int i] ∧ Q (.bl (isBit i)) H
theorem ok_isbit (T : Txt K mg t) : FnOk P w K mg base CX0 3 t.f_isbit t.d_isbit ["value"] sp_isbit := by
 have G_isbelow := ok_isbelow (P := P) (w := w) (base := base) T
 refine T.F_isbit.ok sc_isbit (fun vs H Q E h => ?_) (fun cdv A outer s H vs Q E hr h => ?_)
 ·obtain ⟨i, rfl, _⟩ := h; rfl
 ·obtain ⟨i, rfl, k⟩ := h
  refine ⟨_, (pss_one (ps_ret (pe_call G_isbelow (hr.mono (by first | decide | omega)) rfl T.mg_isbelow T.F_isbelow.kp T.b_isbelow .nil pass0 (pa_cons (pv 0) (pa_cons pe_int pa_nil))))), ?_⟩
  walk_at "rd"
  exact ⟨i, 2, rfl, k⟩
def isSide (n : Int) : Bool := decide (0 < n) && decide (n < 41)
def sp_isside : Sp := fun vs H Q _ => ∃ i, vs = [.int i] ∧ Q (.bl (isSide i)) H
theorem ok_isside (T : Txt K mg t) : FnOk P w K mg base CX0 3 t.f_isside t.d_isside ["count"] sp_isside := by
  have G_isbelow := ok_isbelow (P := P) (w := w) (base := base) T
  refine T.F_isside.ok sc_isside (fun vs H Q E h => ?_) (fun cdv A outer s H vs Q E hr h => ?_)
  · obtain ⟨i, rfl, _⟩ := h; rfl
  · obtain ⟨i, rfl, k⟩ := h
    refine ⟨_, (pss_one (ps_ret (pe_and (pe_call G_isbelow (hr.mono (by first | decide | omega)) rfl T.mg_isbelow T.F_isbelow.kp T.b_isbelow .nil pass0 (pa_cons (pv 0) (pa_cons (pe_op op_add (pe_glob (v := .int 40) rfl T.mg_LONGEST_SIDE ⟨_, rfl⟩) pe_int) pa_nil))) (pe_one (pe_cmpR op_gt (pv 0) pe_int (nomark _)))))), ?_⟩
    walk_at "rd"
    refine ⟨i, _, rfl, ?_⟩
    walk_at "rd"
    refine ite2 (fun h0 => ?_) (fun h0 => ?_)
    · walk_at "rd"
      have e : isSide i = decide (0 < i) := by
        rw [Bool.and_eq_true, decide_eq_true_eq, decide_eq_true_eq] at h0
        unfold isSide
        rw [decide_eq_true (by omega : i < 41), Bool.and_true]
      rw [e] at k
      exact k
    · have e : isSide i = false := by
        rw [Bool.and_eq_true, decide_eq_true_eq, decide_eq_true_eq] at h0
        unfold isSide
        by_cases hi : 0 < i
        · rw [decide_eq_false (by omega : ¬ i < 41), Bool.and_false]
        · rw [decide_eq_false hi, Bool.false_and]
      rw [e] at k
      exact k
theorem side_len {n : Nat} : isSide ((n : Int) + 1) = decide (n ≤ 39) := by
 unfold isSide
 rw [decide_eq_true (by omega : (0 : Int) < (n : Int) + 1), Bool.true_and]
 exact decide_eq_decide.mpr (by omega)
end
section
variable {P : Program} {w : World} {K : PySem.W.Frag} {mg : Str → Option Value} {base : Heap} {t : Ad}
def sp_allbits : Sp := fun vs H Q _ => ∃ (p : Addr) (ns : List Int), vs = [.ref p] ∧ H p = some (.lst (ns.map V.int)) ∧ ns.length ≤ 1000 ∧ ∀ H', Same H H' → Q (.bl (ns.all isBit)) H'
theorem ok_allbits (T : Txt K mg t) : FnOk P w K mg base CX0 4 t.f_allbits t.d_allbits ["values"] sp_allbits := by
 have G_isbit := ok_isbit (P := P) (w := w) (base := base) T
 refine T.F_allbits.ok sc_allbits (fun vs H Q E h => ?_) (fun cdv A outer s H vs Q E hr h => ?_)
 ·obtain ⟨p, ns, rfl, _⟩ := h; rfl
 ·obtain ⟨p, ns, rfl, hp, hl, k⟩ := h
  refine ⟨_, (pss_one (ps_ret (pe_callB (cI_allK K rfl rfl) rfl T.no_all (by rfl) (pa_cons (pe_comp (N := ["value"]) (cap := [none]) rfl ⟨rfl, rfl, rfl, rfl, rfl, rfl⟩ (pi_list (pv 0)) (fun _ _ _ => (pg_name (i := 0) (show (["value"] : List Str).Nodup by decide +kernel) rfl (Or.inl rfl))) (fun _ _ _ => pts_nil) (fun _ _ _ => (pe_call G_isbit (hr.mono (by first | decide | omega)) rfl T.mg_isbit T.F_isbit.kp T.b_isbit .nil pass0 (pa_cons (pv 0) pa_nil)))) pa_nil)))), ?_⟩
  walk_at "rd"
  refine ⟨⟨_, SqL.of hp⟩, fun l hn => ?_⟩
  refine compW_list (fun v => match v with | .int i => .bl (isBit i) | _ => .non) (SqL.of hp) (by rw [List.length_map]; exact hl) hn (fun x o H' Q' hx s1 q => ?_) (fun H' s1 e => ?_)
  ·obtain ⟨i, _, rfl⟩ := List.mem_map.mp hx
   walk_at "rd"
   exact ⟨i, rfl, q H' (Same.refl _)⟩
  ·walk_at "rd"
   have e' : H' l = some (.lst ((ns.map isBit).map V.bl)) := by rw [e, List.map_map, List.map_map]; rfl
   refine rd_all e' ?_
   rw [List.all_map]
   exact k H' s1
def bfl (a b : Addr) (w h : Int) : List (Str × V) := putF "row_bits" (.ref b) (putF "col_bits" (.ref a) (putF "rows_count" (.int h) (putF "columns_count" (.int w) [])))
def cfl (s : Int) (a b : Addr) (w h : Int) : List (Str × V) := putF "first_colour" (.int s) (bfl a b w h)
abbrev NoF (m : Str) : Prop := ((¬ m = "first_colour") ∧ ¬ m = "col_bits") ∧ (¬ m = "row_bits") ∧ (¬ m = "columns_count") ∧ ¬ m = "rows_count"
theorem bfl_w {w h : Int} (a b : Addr) : (bfl a b w h).lookup ("columns_count" : Str) = some (.int w) := by
 unfold bfl; rw [lookup_putF, if_neg (by decide +kernel), lookup_putF, if_neg (by decide +kernel), lookup_putF, if_neg (by decide +kernel), lookup_putF, if_pos rfl]
theorem bfl_h {w h : Int} (a b : Addr) : (bfl a b w h).lookup ("rows_count" : Str) = some (.int h) := by
 unfold bfl; rw [lookup_putF, if_neg (by decide +kernel), lookup_putF, if_neg (by decide +kernel), lookup_putF, if_pos rfl]
theorem bfl_c {w h : Int} (a b : Addr) : (bfl a b w h).lookup ("col_bits" : Str) = some (.ref a) := by
 unfold bfl; rw [lookup_putF, if_neg (by decide +kernel), lookup_putF, if_pos rfl]
theorem bfl_r {w h : Int} (a b : Addr) : (bfl a b w h).lookup ("row_bits" : Str) = some (.ref b) := by
 unfold bfl; rw [lookup_putF, if_pos rfl]
theorem bfl_no {w h : Int} (a b : Addr) {m : Str} (n : NoF m) : (bfl a b w h).lookup m = none := by
 obtain ⟨⟨n1, n2⟩, n3, n4, n5⟩ := n
 unfold bfl; rw [lookup_putF, if_neg n3, lookup_putF, if_neg n2, lookup_putF, if_neg n5, lookup_putF, if_neg n4]; rfl
theorem cfl_f {w h : Int} (s : Int) (a b : Addr) : (cfl s a b w h).lookup ("first_colour" : Str) = some (.int s) := by
 unfold cfl; rw [lookup_putF, if_pos rfl]
theorem cfl_w {w h : Int} (s : Int) (a b : Addr) : (cfl s a b w h).lookup ("columns_count" : Str) = some (.int w) := by
 unfold cfl; rw [lookup_putF, if_neg (by decide +kernel), bfl_w]
theorem cfl_h {w h : Int} (s : Int) (a b : Addr) : (cfl s a b w h).lookup ("rows_count" : Str) = some (.int h) := by
 unfold cfl; rw [lookup_putF, if_neg (by decide +kernel), bfl_h]
theorem cfl_c {w h : Int} (s : Int) (a b : Addr) : (cfl s a b w h).lookup ("col_bits" : Str) = some (.ref a) := by
 unfold cfl; rw [lookup_putF, if_neg (by decide +kernel), bfl_c]
theorem cfl_r {w h : Int} (s : Int) (a b : Addr) : (cfl s a b w h).lookup ("row_bits" : Str) = some (.ref b) := by
 unfold cfl; rw [lookup_putF, if_neg (by decide +kernel), bfl_r]
theorem cfl_no {w h : Int} (s : Int) (a b : Addr) {m : Str} (n : NoF m) : (cfl s a b w h).lookup m = none := by
 unfold cfl; rw [lookup_putF, if_neg n.1.1, bfl_no _ _ n]
structure BoardAt (C : Addr) (H : Hp) (p : Addr) (w h : Int) (cs rs : List Int) : Prop where
 ob : ∃ dx a b, H p = some (.ins C dx (bfl a b w h)) ∧ H a = some (.tup (cs.map V.int)) ∧ H b = some (.tup (rs.map V.int))
structure ClothAt (C : Addr) (H : Hp) (p : Addr) (s : Int) (cs rs : List Int) : Prop where
 ob : ∃ dx a b, H p = some (.ins C dx (cfl s a b ((cs.length : Int) + 1) ((rs.length : Int) + 1))) ∧ H a = some (.tup (cs.map V.int)) ∧ H b = some (.tup (rs.map V.int))
theorem ClothAt.mono {C : Addr} {H H' : Hp} {p : Addr} {s : Int} {cs rs : List Int} (e : Same H H') (c : ClothAt C H p s cs rs) : ClothAt C H' p s cs rs := by
 obtain ⟨dx, a, b, h1, h2, h3⟩ := c.ob
 exact ⟨dx, a, b, e _ _ h1, e _ _ h2, e _ _ h3⟩
def Bits (l : List Int) : Prop := l.length ≤ 39 ∧ ∀ z ∈ l, z = 0 ∨ z = 1
theorem Bits.all {l : List Int} (h : Bits l) : l.all isBit = true := by
 rw [List.all_eq_true]
 intro z hz
 rcases h.2 z hz with rfl | rfl <;> rfl
def KpBut (H : Hp) (p : Addr) (H' : Hp) : Prop := ∀ b o, H b = some o → b ≠ p → H' b = some o
def bitsOk (s : Int) (cs rs : List Int) : Bool := isBit s && (cs.all isBit && rs.all isBit)
theorem Bits.ok {s : Int} {cs rs : List Int} (hs : s = 0 ∨ s = 1) (bc : Bits cs) (br : Bits rs) : bitsOk s cs rs = true := by
 unfold bitsOk
 rw [bc.all, br.all]
 rcases hs with rfl | rfl <;> rfl
def spx_BoardInit (C BB : Addr) : Sp := fun vs H Q E => ∃ (p dx c r : Addr) (w h : Int) (cs rs : List Int), vs = [.ref p, .int w, .int h, .ref c, .ref r] ∧ H p = some (.ins C dx []) ∧ H c = some (.lst (cs.map V.int)) ∧ H r = some (.lst (rs.map V.int)) ∧
 cs.length ≤ 1000 ∧ rs.length ≤ 1000 ∧ (((cs.all isBit && rs.all isBit) = false ∧ ∀ H', Same H H' → E (.ref BB) none H') ∨
  ((cs.all isBit && rs.all isBit) = true ∧ ∀ H', KpBut H p H' → BoardAt C H' p w h cs rs → Q .non H'))
theorem okx_BoardInit (T : Txt K mg t) : FnOk P w K mg base (CX1 P w) 5 t.f_BoardInit t.d_BoardInit ["self", "wide", "tall", "cols", "rows"] (spx_BoardInit t.a_Cloth t.a_BadBit) := by
 have G_allbits := ok_allbits (P := P) (w := w) (base := base) T
 refine T.F_BoardInit.ok1 sc_BoardInit (fun vs H Q E h => ?_) (fun cdv A outer s H vs Q E hr h => ?_)
 ·obtain ⟨p, dx, c, r, wd, ht, cs, rs, rfl, _⟩ := h; rfl
 ·obtain ⟨p, dx, c, r, wd, ht, cs, rs, rfl, hp, hc, hr', lc, lr, k⟩ := h
  refine cutC (ps_if (pt_not (PW.pt (pw_and (pt_val (pe_call G_allbits.up (hr.mono (by first | decide | omega)) rfl T.mg_allbits T.F_allbits.kp T.b_allbits .nil pass1 (pa_cons (pv 3) pa_nil))) (pw_and1 (pt_val (pe_call G_allbits.up (hr.mono (by first | decide | omega)) rfl T.mg_allbits T.F_allbits.kp T.b_allbits .nil pass1 (pa_cons (pv 4) pa_nil))))))) (pss_one (ps_raiseK T.mg_BadBit T.x_BadBit PySem.F.excBase_ValueError rfl rfl (fun _ _ _ _ _ _ _ _ I m q => xe_new I m q) (pa_cons pe_str pa_nil))) pss_nil) fun _ _ => cutC (ps_fld (pv 0) (pv 1) rfl) fun _ _ => cutC (ps_fld (pv 0) (pv 2) rfl) fun _ _ => cutC (ps_fld (pv 0) (pe_callTy (cI_tupleK K rfl) rfl T.no_tuple (by rfl) (pa_cons (pv 3) pa_nil)) rfl) fun _ _ => cutE (ps_fld (pv 0) (pe_callTy (cI_tupleK K rfl) rfl T.no_tuple (by rfl) (pa_cons (pv 4) pa_nil)) rfl) fun _ _ => ?_
  walk_at "rd"
  refine ⟨c, cs, rfl, hc, lc, fun H1 s1 => ?_⟩
  cases b2 : cs.all isBit with
  | false =>
   walk_at "rd"
   refine ⟨by show 1 ≤ sizeLine; decide, ?_⟩
   rcases k with ⟨_, e⟩ | ⟨y, _⟩
   ·exact e _ s1
   ·rw [b2] at y; cases y
  | true =>
   walk_at "rd"
   refine ⟨r, rs, rfl, s1 _ _ hr', lr, fun H2 s2 => ?_⟩
   have s12 := s1.trans s2
   cases b3 : rs.all isBit with
   | false =>
    walk_at "rd"
    refine ⟨by show 1 ≤ sizeLine; decide, ?_⟩
    rcases k with ⟨_, e⟩ | ⟨y, _⟩
    ·exact e _ s12
    ·rw [b2, b3] at y; cases y
   | true =>
    walk_at "rd"
    have k : ∀ H', KpBut H p H' → BoardAt t.a_Cloth H' p wd ht cs rs → Q .non H' := by
     rcases k with ⟨y, _⟩ | ⟨_, z⟩
     ·rw [b2, b3] at y; cases y
     ·exact z
    have npc : c ≠ p := ne_of hc hp (by intro z; cases z)
    have npr : r ≠ p := ne_of hr' hp (by intro z; cases z)
    refine rd_sfldv (s12 _ _ hp) T.cl_Cloth T.na_columns_count (by show 0 < 1000; decide) ?_
    walk_at "rd"
    refine rd_sfldv upd_same T.cl_Cloth T.na_rows_count (Nat.lt_of_le_of_lt (length_putF _ _ _) (by show 1 < 1000; decide)) ?_
    rw [upd_upd]
    walk_at "rd"
    refine rd_tupleL (by rw [upd_ne npc]; exact s12 _ _ hc) fun a ha => ?_
    have pa : p ≠ a := by intro z; subst z; rw [upd_same] at ha; cases ha
    walk_at "rd"
    refine rd_sfldv (by rw [upd_ne pa, upd_same]) T.cl_Cloth T.na_col_bits (Nat.lt_of_le_of_lt (length_putF _ _ _) (Nat.lt_of_le_of_lt (Nat.succ_le_succ (length_putF _ _ _)) (by show 2 < 1000; decide))) ?_
    walk_at "rd"
    have ra : r ≠ a := by intro z; subst z; rw [upd_ne npr, s12 _ _ hr'] at ha; cases ha
    refine rd_tupleL (by rw [upd_ne npr, upd_ne ra, upd_ne npr]; exact s12 _ _ hr') fun b hb => ?_
    have pb : p ≠ b := by intro z; subst z; rw [upd_same] at hb; cases hb
    have ab : a ≠ b := by intro z; subst z; rw [upd_ne pa.symm, upd_same] at hb; cases hb
    walk_at "rd"
    refine rd_sfldv (by rw [upd_ne pb, upd_same]) T.cl_Cloth T.na_row_bits (Nat.lt_of_le_of_lt (length_putF _ _ _) (Nat.lt_of_le_of_lt (Nat.succ_le_succ (length_putF _ _ _)) (Nat.lt_of_le_of_lt (Nat.succ_le_succ (Nat.succ_le_succ (length_putF _ _ _))) (by show 3 < 1000; decide)))) ?_
    walk_at "rd"
    refine k _ (fun x o e hx => ?_) ⟨⟨dx, a, b, upd_same, ?_, ?_⟩⟩
    ·have e2 := s12 _ _ e
     have xa : x ≠ a := by intro z; subst z; rw [upd_ne hx, e2] at ha; cases ha
     have xb : x ≠ b := by intro z; subst z; rw [upd_ne hx, upd_ne xa, upd_ne hx, e2] at hb; cases hb
     rw [upd_ne hx, upd_ne xb, upd_ne hx, upd_ne xa, upd_ne hx]
     exact e2
    ·rw [upd_ne pa.symm, upd_ne ab, upd_ne pa.symm, upd_same]
    ·rw [upd_ne pb.symm, upd_same]
def spx_ClothInit (C BS BB : Addr) : Sp := fun vs H Q E => ∃ (p dx c r : Addr) (s : Int) (cs rs : List Int), vs = [.ref p, .int s, .ref c, .ref r] ∧ H p = some (.ins C dx []) ∧ H c = some (.lst (cs.map V.int)) ∧ H r = some (.lst (rs.map V.int)) ∧
 cs.length ≤ 1000 ∧ rs.length ≤ 1000 ∧ ((¬ (cs.length ≤ 39 ∧ rs.length ≤ 39) ∧ E (.ref BS) none H) ∨ ((cs.length ≤ 39 ∧ rs.length ≤ 39) ∧ bitsOk s cs rs = false ∧ ∀ H', KpBut H p H' → E (.ref BB) none H') ∨
  ((cs.length ≤ 39 ∧ rs.length ≤ 39) ∧ bitsOk s cs rs = true ∧ ∀ H', KpBut H p H' → ClothAt C H' p s cs rs → Q .non H'))
theorem okx_ClothInit (T : Txt K mg t) : FnOk P w K mg base (CX1 P w) 6 t.f_ClothInit t.d_ClothInit ["self", "shade", "cols", "rows"] (spx_ClothInit t.a_Cloth t.a_BadSize t.a_BadBit) := by
 have G_isbit := ok_isbit (P := P) (w := w) (base := base) T
 have GX_BoardInit := okx_BoardInit (P := P) (w := w) (base := base) T
 have G_isside := ok_isside (P := P) (w := w) (base := base) T
 refine T.F_ClothInit.ok1 sc_ClothInit (fun vs H Q E h => ?_) (fun cdv A outer s H vs Q E hr h => ?_)
 ·obtain ⟨p, dx, c, r, s, cs, rs, rfl, _⟩ := h; rfl
 ·obtain ⟨p, dx, c, r, s, cs, rs, rfl, hp, hc, hr', lc, lr, k⟩ := h
  refine cutC (ps_if (pt_not (PW.pt (pw_and (pt_val (pe_call G_isside.up (hr.mono (by first | decide | omega)) rfl T.mg_isside T.F_isside.kp T.b_isside .nil pass1 (pa_cons (pe_op op_add (pe_callB (cI_lenK K rfl) rfl T.no_len (by rfl) (pa_cons (pv 2) pa_nil)) pe_int) pa_nil))) (pw_and1 (pt_val (pe_call G_isside.up (hr.mono (by first | decide | omega)) rfl T.mg_isside T.F_isside.kp T.b_isside .nil pass1 (pa_cons (pe_op op_add (pe_callB (cI_lenK K rfl) rfl T.no_len (by rfl) (pa_cons (pv 3) pa_nil)) pe_int) pa_nil))))))) (pss_one (ps_raiseK T.mg_BadSize T.x_BadSize PySem.F.excBase_ValueError rfl rfl (fun _ _ _ _ _ _ _ _ I m q => xe_new I m q) (pa_cons pe_str pa_nil))) pss_nil) fun _ _ => cutC (ps_if (pt_not (pt_val (pe_call G_isbit.up (hr.mono (by first | decide | omega)) rfl T.mg_isbit T.F_isbit.kp T.b_isbit .nil pass1 (pa_cons (pv 1) pa_nil)))) (pss_one (ps_raiseK T.mg_BadBit T.x_BadBit PySem.F.excBase_ValueError rfl rfl (fun _ _ _ _ _ _ _ _ I m q => xe_new I m q) (pa_cons pe_str pa_nil))) pss_nil) fun _ _ => cutC (ps_expr (pe_callC rfl T.mg_Board T.cf_BoardInit GX_BoardInit (hr.mono (by first | decide | omega)) T.b_BoardInit .nil pass1 (pa_cons (pv 0) (pa_cons (pe_op op_add (pe_callB (cI_lenK K rfl) rfl T.no_len (by rfl) (pa_cons (pv 2) pa_nil)) pe_int) (pa_cons (pe_op op_add (pe_callB (cI_lenK K rfl) rfl T.no_len (by rfl) (pa_cons (pv 3) pa_nil)) pe_int) (pa_cons (pv 2) (pa_cons (pv 3) pa_nil))))))) fun _ _ => cutE (ps_fld (pv 0) (pv 1) rfl) fun _ _ => ?_
  walk_at "rd"
  refine rd_lenL hc ?_
  walk_at "rd"
  refine ⟨_, rfl, ?_⟩
  rw [List.length_map, side_len]
  have sz : (¬ (cs.length ≤ 39 ∧ rs.length ≤ 39) → E (.ref t.a_BadSize) none H) := fun n => by
   rcases k with ⟨_, e⟩ | ⟨z, _⟩ | ⟨z, _⟩
   ·exact e
   ·exact absurd z n
   ·exact absurd z n
  by_cases c1 : cs.length ≤ 39
  ·rw [decide_eq_true c1]
   walk_at "rd"
   refine rd_lenL hr' ?_
   walk_at "rd"
   refine ⟨_, rfl, ?_⟩
   rw [List.length_map, side_len]
   by_cases c2 : rs.length ≤ 39
   ·rw [decide_eq_true c2]
    walk_at "rd"
    have k : (bitsOk s cs rs = false ∧ ∀ H', KpBut H p H' → E (.ref t.a_BadBit) none H') ∨ (bitsOk s cs rs = true ∧ ∀ H', KpBut H p H' → ClothAt t.a_Cloth H' p s cs rs → Q .non H') := by
     rcases k with ⟨z, _⟩ | ⟨_, z⟩ | ⟨_, z⟩
     ·exact absurd ⟨c1, c2⟩ z
     ·exact .inl z
     ·exact .inr z
    have bad : ∀ H', bitsOk s cs rs = false → Same H H' → E (.ref t.a_BadBit) none H' := fun H' z sm => by
     rcases k with ⟨_, e⟩ | ⟨y, _⟩
     ·exact e H' fun b o eb _ => sm b o eb
     ·rw [z] at y; cases y
    refine ⟨s, rfl, ?_⟩
    cases b1 : isBit s with
    | false =>
     walk_at "rd"
     refine ⟨by show 1 ≤ sizeLine; decide, ?_⟩
     exact bad _ (by unfold bitsOk; rw [b1]; rfl) (Same.refl _)
    | true =>
     walk_at "rd"
     refine rd_lenL hc ?_
     walk_at "rd"
     refine rd_lenL hr' ?_
     walk_at "rd"
     rw [List.length_map, List.length_map]
     refine ⟨p, dx, c, r, _, _, cs, rs, rfl, hp, hc, hr', lc, lr, ?_⟩
     cases b2 : (cs.all isBit && rs.all isBit) with
     | false => exact .inl ⟨rfl, fun H' s1 => bad _ (by unfold bitsOk; rw [b2, Bool.and_false]) s1⟩
     | true =>
      refine .inr ⟨rfl, fun H' kp ⟨dx', a, b, h1, h2, h3⟩ => ?_⟩
      have k : ∀ H', KpBut H p H' → ClothAt t.a_Cloth H' p s cs rs → Q .non H' := by
       rcases k with ⟨y, _⟩ | ⟨_, z⟩
       ·unfold bitsOk at y; rw [b1, b2] at y; cases y
       ·exact z
      walk_at "rd"
      refine rd_sfldv h1 T.cl_Cloth T.na_first_colour (by unfold bfl; exact Nat.lt_of_le_of_lt (length_putF _ _ _) (Nat.lt_of_le_of_lt (Nat.succ_le_succ (length_putF _ _ _)) (Nat.lt_of_le_of_lt (Nat.succ_le_succ (Nat.succ_le_succ (length_putF _ _ _))) (Nat.lt_of_le_of_lt (Nat.succ_le_succ (Nat.succ_le_succ (Nat.succ_le_succ (length_putF _ _ _)))) (by show 4 < 1000; decide))))) ?_
      walk_at "rd"
      have pa : a ≠ p := ne_of h2 h1 (by intro z; cases z)
      have pb : b ≠ p := ne_of h3 h1 (by intro z; cases z)
      refine k _ (fun x o e hx => ?_) ⟨⟨dx', a, b, upd_same, ?_, ?_⟩⟩
      ·rw [upd_ne hx]; exact kp x o e hx
      ·rw [upd_ne pa]; exact h2
      ·rw [upd_ne pb]; exact h3
   ·rw [decide_eq_false c2]
    walk_at "rd"
    exact ⟨by show 1 ≤ sizeLine; decide, sz fun z => c2 z.2⟩
  ·rw [decide_eq_false c1]
   walk_at "rd"
   exact ⟨by show 1 ≤ sizeLine; decide, sz fun z => c1 z.1⟩
end
section
variable {P : Program} {w : World} {K : PySem.W.Frag} {mg : Str → Option Value} {base : Heap} {t : Ad}
def sp_Clothwide (C : Addr) : Sp := fun vs H Q _ => ∃ (p : Addr) (s : Int) (cs rs : List Int), vs = [.ref p] ∧ ClothAt C H p s cs rs ∧ Q (.int ((cs.length : Int) + 1)) H
theorem ok_Clothwide (T : Txt K mg t) : FnOk P w K mg base CX0 1 t.f_Clothwide t.d_Clothwide ["self"] (sp_Clothwide t.a_Cloth) := by
 refine T.F_Clothwide.ok sc_Clothwide (fun vs H Q E h => ?_) (fun cdv A outer s H vs Q E hr h => ?_)
 ·obtain ⟨p, s, cs, rs, rfl, _⟩ := h; rfl
 ·obtain ⟨p, s, cs, rs, rfl, ⟨dx, a, b, h1, h2, h3⟩, k⟩ := h
  refine ⟨_, (pss_one (ps_ret (pe_fldK K rfl (pv 0) rfl))), ?_⟩
  walk_at "rd"
  refine rd_fldv h1 T.cl_Cloth T.na_columns_count (cfl_w _ _ _) ?_
  walk_at "rd"
  exact k
def sp_Clothtall (C : Addr) : Sp := fun vs H Q _ => ∃ (p : Addr) (s : Int) (cs rs : List Int), vs = [.ref p] ∧ ClothAt C H p s cs rs ∧ Q (.int ((rs.length : Int) + 1)) H
theorem ok_Clothtall (T : Txt K mg t) : FnOk P w K mg base CX0 1 t.f_Clothtall t.d_Clothtall ["self"] (sp_Clothtall t.a_Cloth) := by
 refine T.F_Clothtall.ok sc_Clothtall (fun vs H Q E h => ?_) (fun cdv A outer s H vs Q E hr h => ?_)
 ·obtain ⟨p, s, cs, rs, rfl, _⟩ := h; rfl
 ·obtain ⟨p, s, cs, rs, rfl, ⟨dx, a, b, h1, h2, h3⟩, k⟩ := h
  refine ⟨_, (pss_one (ps_ret (pe_fldK K rfl (pv 0) rfl))), ?_⟩
  walk_at "rd"
  refine rd_fldv h1 T.cl_Cloth T.na_rows_count (cfl_h _ _ _) ?_
  walk_at "rd"
  exact k
def IsWay (w : Str) (cs rs bs : List Int) : Prop := (w = "col" ∧ bs = cs) ∨ (w = "row" ∧ bs = rs)
end
section
variable {P : Program} {w : World} {K : PySem.W.Frag} {mg : Str → Option Value} {base : Heap} {t : Ad}
theorem bits_sum {l : List Int} (h : ∀ z ∈ l, z = 0 ∨ z = 1) : 0 ≤ l.sum ∧ l.sum ≤ l.length := by
 induction l with
 | nil => exact ⟨Int.le_refl 0, Int.le_refl 0⟩
 | cons z r ih =>
  have := ih fun y hy => h y (List.mem_cons_of_mem _ hy)
  rw [List.sum_cons, List.length_cons]
  rcases h z List.mem_cons_self with rfl | rfl <;> omega
theorem bits_small {l : List Int} (h : ∀ z ∈ l, z = 0 ∨ z = 1) (hl : l.length ≤ 1000) : SmallSum l := fun k hk => by
 refine ⟨?_, fun n hn => ?_⟩
 ·have := bits_sum (l := l.take k) fun z hz => h z (List.mem_of_mem_take hz)
  rw [List.length_take] at this
  unfold InLong
  omega
 ·unfold InLong
  rcases h n hn with rfl | rfl <;> decide
theorem cutV_take {zs : List Int} {x : Int} (h : 0 ≤ x) : cutV (zs.map V.int) none (some x) = (zs.take x.toNat).map V.int := by
 obtain ⟨k, rfl⟩ : ∃ k : Nat, x = (k : Int) := ⟨x.toNat, by omega⟩
 unfold cutV
 rw [HT.sIx_none, HT.sIx_nat, List.drop_zero, Nat.sub_zero, Int.toNat_natCast, ← List.map_take]
 congr 1
 rw [List.length_map]
 rcases Nat.le_total k zs.length with h | h
 ·rw [Nat.min_eq_left h]
 ·rw [Nat.min_eq_right h, List.take_of_length_le (Nat.le_refl _), List.take_of_length_le h]
end
section
variable {P : Program} {w : World} {K : PySem.W.Frag} {mg : Str → Option Value} {base : Heap} {t : Ad}
def inCl (x y : Int) (cs rs : List Int) : Prop := (0 ≤ x ∧ x < (cs.length : Int) + 1) ∧ 0 ≤ y ∧ y < (rs.length : Int) + 1
def spx_needcell (C NC : Addr) : Sp := fun vs H Q E => ∃ (p : Addr) (x y s : Int) (cs rs : List Int), vs = [.ref p, .int x, .int y] ∧ ClothAt C H p s cs rs ∧ ((inCl x y cs rs ∧ Q .non H) ∨ (¬ inCl x y cs rs ∧ E (.ref NC) none H))
theorem below_t {x b : Int} (h : 0 ≤ x ∧ x < b) : (decide (0 ≤ x) && decide (x < b)) = true := by rw [decide_eq_true h.1, decide_eq_true h.2]; rfl
theorem below_f {x b : Int} (h : ¬ (0 ≤ x ∧ x < b)) : (decide (0 ≤ x) && decide (x < b)) = false := by
 rw [Bool.eq_false_iff]
 intro z
 rw [Bool.and_eq_true, decide_eq_true_eq, decide_eq_true_eq] at z
 exact h z
theorem okx_needcell (T : Txt K mg t) : FnOk P w K mg base (CX1 P w) 3 t.f_needcell t.d_needcell ["board", "x", "y"] (spx_needcell t.a_Cloth t.a_NoCell) := by
 have G_isbelow := ok_isbelow (P := P) (w := w) (base := base) T
 have G_Clothwide := ok_Clothwide (P := P) (w := w) (base := base) T
 have G_Clothtall := ok_Clothtall (P := P) (w := w) (base := base) T
 refine T.F_needcell.ok1 sc_needcell (fun vs H Q E h => ?_) (fun cdv A outer s H vs Q E hr h => ?_)
 ·obtain ⟨p, x, y, s, cs, rs, rfl, _⟩ := h; rfl
 ·obtain ⟨p, x, y, s, cs, rs, rfl, hc, h⟩ := h
  obtain ⟨dx, a, b, e1, e2, e3⟩ := hc.ob
  have nl : ∀ {w h : Int} {m : Str}, NoF m → (cfl s a b w h).lookup m = none := fun x => cfl_no _ _ _ x
  refine ⟨_, (pss_one (ps_if (PW.pt (pw_or (pt_not (pt_val (pe_call G_isbelow.up (hr.mono (by first | decide | omega)) rfl T.mg_isbelow T.F_isbelow.kp T.b_isbelow .nil pass1 (pa_cons (pv 1) (pa_cons (pe_meth0 (pv 0) T.cl_Cloth T.m_Clothwide G_Clothwide.up (hr.mono (by first | decide | omega)) T.b_Clothwide .nil pass1) pa_nil))))) (pw_or1 (pt_not (pt_val (pe_call G_isbelow.up (hr.mono (by first | decide | omega)) rfl T.mg_isbelow T.F_isbelow.kp T.b_isbelow .nil pass1 (pa_cons (pv 2) (pa_cons (pe_meth0 (pv 0) T.cl_Cloth T.m_Clothtall G_Clothtall.up (hr.mono (by first | decide | omega)) T.b_Clothtall .nil pass1) pa_nil)))))))) (pss_one (ps_raiseK T.mg_NoCell T.x_NoCell PySem.F.excBase_ValueError rfl rfl (fun _ _ _ _ _ _ _ _ I m q => xe_new I m q) (pa_cons pe_str pa_nil))) pss_nil)), ?_⟩
  walk_at "rd"
  refine rd_methv e1 (nl (by decide +kernel)) ?_
  walk_at "rd"
  refine ⟨p, s, cs, rs, rfl, hc, ?_⟩
  walk_at "rd"
  refine ⟨x, _, rfl, ?_⟩
  by_cases hx : 0 ≤ x ∧ x < (cs.length : Int) + 1
  ·rw [below_t hx]
   walk_at "rd"
   refine rd_methv e1 (nl (by decide +kernel)) ?_
   walk_at "rd"
   refine ⟨p, s, cs, rs, rfl, hc, ?_⟩
   walk_at "rd"
   refine ⟨y, _, rfl, ?_⟩
   by_cases hy : 0 ≤ y ∧ y < (rs.length : Int) + 1
   ·rw [below_t hy]
    walk_at "rd"
    rcases h with ⟨_, q⟩ | ⟨n, _⟩
    ·exact q
    ·exact absurd ⟨hx, hy⟩ n
   ·rw [below_f hy]
    walk_at "rd"
    rcases h with ⟨n, _⟩ | ⟨_, q⟩
    ·exact absurd n.2 hy
    ·exact ⟨by show 1 ≤ sizeLine; decide, q⟩
  ·rw [below_f hx]
   walk_at "rd"
   rcases h with ⟨n, _⟩ | ⟨_, q⟩
   ·exact absurd n.1 hx
   ·exact ⟨by show 1 ≤ sizeLine; decide, q⟩
def colr (s : Int) (cs rs : List Int) (x y : Int) : Int := (s + ((cs.take x.toNat).sum + (rs.take y.toNat).sum + x * y)) % 2
def spx_Clothcolour (C NC : Addr) : Sp := fun vs H Q E => ∃ (p : Addr) (x y s : Int) (cs rs : List Int), vs = [.ref p, .int x, .int y] ∧ ClothAt C H p s cs rs ∧ Bits cs ∧ Bits rs ∧
 ((inCl x y cs rs ∧ ∀ H', Same H H' → Q (.int (colr s cs rs x y)) H') ∨ (¬ inCl x y cs rs ∧ E (.ref NC) none H))
theorem okx_Clothcolour (T : Txt K mg t) : FnOk P w K mg base (CX1 P w) 4 t.f_Clothcolour t.d_Clothcolour ["self", "x", "y"] (spx_Clothcolour t.a_Cloth t.a_NoCell) := by
 have GX_needcell := okx_needcell (P := P) (w := w) (base := base) T
 refine T.F_Clothcolour.ok1 sc_Clothcolour (fun vs H Q E h => ?_) (fun cdv A outer s H vs Q E hr h => ?_)
 ·obtain ⟨p, x, y, s, cs, rs, rfl, _⟩ := h; rfl
 ·obtain ⟨p, x, y, s, cs, rs, rfl, hc, bc, br, h⟩ := h
  obtain ⟨dx, a, b, e1, e2, e3⟩ := hc.ob
  refine cutC (ps_expr (pe_call GX_needcell (hr.mono (by first | decide | omega)) rfl T.mg_needcell T.F_needcell.kp T.b_needcell .nil pass1 (pa_cons (pv 0) (pa_cons (pv 1) (pa_cons (pv 2) pa_nil))))) fun _ _ => cutC (ps_set (i := 3) sc_Clothcolour.nd rfl (Or.inl rfl) (pe_op op_add (pe_op op_add (pe_callB (cI_sumK K rfl rfl) rfl T.no_sum (by rfl) (pa_cons (pe_slice (sl_tupK K rfl) (pe_fldK K rfl (pv 0) rfl) po_none (po_some (pv 1))) pa_nil)) (pe_callB (cI_sumK K rfl rfl) rfl T.no_sum (by rfl) (pa_cons (pe_slice (sl_tupK K rfl) (pe_fldK K rfl (pv 0) rfl) po_none (po_some (pv 2))) pa_nil))) (pe_op op_mul (pv 1) (pv 2)))) fun _ _ => cutE (ps_ret (pe_op op_mod (pe_op op_add (pe_fldK K rfl (pv 0) rfl) (pv 3)) pe_int)) fun _ _ => ?_
  walk_at "rd"
  rcases h with ⟨i, k⟩ | ⟨n, q⟩
  ·obtain ⟨⟨x0, x1⟩, y0, y1⟩ := id i
   refine ⟨p, x, y, s, cs, rs, rfl, hc, .inl ⟨i, ?_⟩⟩
   walk_at "rd"
   refine rd_fldv e1 T.cl_Cloth T.na_col_bits (cfl_c _ _ _) ?_
   walk_at "rd"
   refine rd_slT e2 fun H1 u s1 hu => ?_
   rw [cutV_take x0] at hu
   walk_at "rd"
   refine rd_sumT hu (bits_small (fun z hz => bc.2 z (List.mem_of_mem_take hz)) (by rw [List.length_take]; have := bc.1; omega)) ?_
   walk_at "rd"
   refine rd_fldv (s1 _ _ e1) T.cl_Cloth T.na_row_bits (cfl_r _ _ _) ?_
   walk_at "rd"
   refine rd_slT (s1 _ _ e3) fun H2 v s2 hv => ?_
   rw [cutV_take y0] at hv
   walk_at "rd"
   refine rd_sumT hv (bits_small (fun z hz => br.2 z (List.mem_of_mem_take hz)) (by rw [List.length_take]; have := br.1; omega)) ?_
   walk_at "rd"
   refine rd_I (.inl ⟨by omega, by have := bc.1; omega⟩) ?_
   walk_at "rd"
   refine rd_fldv (s2 _ _ (s1 _ _ e1)) T.cl_Cloth T.na_first_colour (cfl_f _ _ _) ?_
   walk_at "rd"
   refine rd_I (by decide) ?_
   exact k H2 (s1.trans s2)
  ·exact ⟨p, x, y, s, cs, rs, rfl, hc, .inr ⟨n, q⟩⟩
def sp_Clothcolour (C : Addr) : Sp := fun vs H Q _ => ∃ (p : Addr) (x y s : Int) (cs rs : List Int), vs = [.ref p, .int x, .int y] ∧ ClothAt C H p s cs rs ∧ Bits cs ∧ Bits rs ∧ 0 ≤ x ∧ x < cs.length + 1 ∧ 0 ≤ y ∧ y < rs.length + 1 ∧
 ∀ H', Same H H' → Q (.int (colr s cs rs x y)) H'
theorem ok_Clothcolour (T : Txt K mg t) : FnOk P w K mg base CX0 4 t.f_Clothcolour t.d_Clothcolour ["self", "x", "y"] (sp_Clothcolour t.a_Cloth) :=
 (okx_Clothcolour T).down fun vs H Q E hh => by
  obtain ⟨p, x, y, s, cs, rs, e, hc, bc, br, x0, x1, y0, y1, k⟩ := hh
  exact ⟨p, x, y, s, cs, rs, e, hc, bc, br, .inl ⟨⟨⟨x0, x1⟩, y0, y1⟩, k⟩⟩
end
section
variable {P : Program} {w : World} {K : PySem.W.Frag} {mg : Str → Option Value} {base : Heap} {t : Ad}
def sp_Clothshade (C : Addr) : Sp := fun vs H Q _ => ∃ (p : Addr) (s : Int) (cs rs : List Int), vs = [.ref p] ∧ ClothAt C H p s cs rs ∧ Q (.int s) H
theorem ok_Clothshade (T : Txt K mg t) : FnOk P w K mg base CX0 1 t.f_Clothshade t.d_Clothshade ["self"] (sp_Clothshade t.a_Cloth) := by
 refine T.F_Clothshade.ok sc_Clothshade (fun vs H Q E h => ?_) (fun cdv A outer s H vs Q E hr h => ?_)
 ·obtain ⟨p, s, cs, rs, rfl, _⟩ := h; rfl
 ·obtain ⟨p, s, cs, rs, rfl, ⟨dx, a, b, h1, h2, h3⟩, k⟩ := h
  refine ⟨_, (pss_one (ps_ret (pe_fldK K rfl (pv 0) rfl))), ?_⟩
  walk_at "rd"
  refine rd_fldv h1 T.cl_Cloth T.na_first_colour (cfl_f _ _ _) ?_
  exact k
def sp_Clothcols (C : Addr) : Sp := fun vs H Q _ => ∃ (p : Addr) (s : Int) (cs rs : List Int), vs = [.ref p] ∧ ClothAt C H p s cs rs ∧ ∀ l, H l = none → Q (.ref l) (upd H l (.lst (cs.map V.int)))
theorem ok_Clothcols (T : Txt K mg t) : FnOk P w K mg base CX0 1 t.f_Clothcols t.d_Clothcols ["self"] (sp_Clothcols t.a_Cloth) := by
 refine T.F_Clothcols.ok sc_Clothcols (fun vs H Q E h => ?_) (fun cdv A outer s H vs Q E hr h => ?_)
 ·obtain ⟨p, s, cs, rs, rfl, _⟩ := h; rfl
 ·obtain ⟨p, s, cs, rs, rfl, ⟨dx, a, b, h1, h2, h3⟩, k⟩ := h
  refine ⟨_, (pss_one (ps_ret (pe_callTy (cI_listK K rfl) rfl T.no_list (by rfl) (pa_cons (pe_fldK K rfl (pv 0) rfl) pa_nil)))), ?_⟩
  walk_at "rd"
  refine rd_fldv h1 T.cl_Cloth T.na_col_bits (cfl_c _ _ _) ?_
  walk_at "rd"
  exact rd_listT h2 k
def sp_Clothrows (C : Addr) : Sp := fun vs H Q _ => ∃ (p : Addr) (s : Int) (cs rs : List Int), vs = [.ref p] ∧ ClothAt C H p s cs rs ∧ ∀ l, H l = none → Q (.ref l) (upd H l (.lst (rs.map V.int)))
theorem ok_Clothrows (T : Txt K mg t) : FnOk P w K mg base CX0 1 t.f_Clothrows t.d_Clothrows ["self"] (sp_Clothrows t.a_Cloth) := by
 refine T.F_Clothrows.ok sc_Clothrows (fun vs H Q E h => ?_) (fun cdv A outer s H vs Q E hr h => ?_)
 ·obtain ⟨p, s, cs, rs, rfl, _⟩ := h; rfl
 ·obtain ⟨p, s, cs, rs, rfl, ⟨dx, a, b, h1, h2, h3⟩, k⟩ := h
  refine ⟨_, (pss_one (ps_ret (pe_callTy (cI_listK K rfl) rfl T.no_list (by rfl) (pa_cons (pe_fldK K rfl (pv 0) rfl) pa_nil)))), ?_⟩
  walk_at "rd"
  refine rd_fldv h1 T.cl_Cloth T.na_row_bits (cfl_r _ _ _) ?_
  walk_at "rd"
  exact rd_listT h3 k
end
section
variable {P : Program} {w : World} {K : PySem.W.Frag} {mg : Str → Option Value} {base : Heap} {t : Ad}
def Sm (z : Int) : Prop := -1000000000000000000 < z ∧ z < 1000000000000000000
theorem sm_snoc {zs : List Int} {z : Int} (h : ∀ y ∈ zs, Sm y) (hz : Sm z) : ∀ y ∈ zs ++ [z], Sm y := fun y hy => by
 rcases List.mem_append.mp hy with q | q
 ·exact h y q
 ·rw [List.mem_singleton.mp q]; exact hz
theorem sm_mod (r : Int) {m : Int} (h0 : 0 < m) (h1 : m ≤ 1000003) : Sm (r % m) := by
 have := Int.emod_nonneg r (by omega : m ≠ 0)
 have := Int.emod_lt_of_pos r h0
 unfold Sm; omega
def sp_Ldraws (K : PySem.W.Frag) : Sp := fun vs H Q _ => ∃ (a : Addr) (m : Nat) (ns : List Int), vs = [.ref a, .int m] ∧ SqL K H a (ns.map V.int) ∧ ns.length ≤ 63 ∧ m ≤ 200 ∧
 ∀ (l : Addr) (zs : List Int) (H' : Hp), Same H H' → H' l = some (.lst (zs.map V.int)) → m ≤ zs.length → zs.length ≤ 300 → (∀ z ∈ zs, Sm z) → Q (.ref l) H'
theorem map_snoc (zs : List Int) (z : Int) : zs.map V.int ++ [V.int z] = (zs ++ [z]).map V.int := by simp
theorem ok_Ldraws (T : Txt K mg t) : FnOk P w K mg base CX0 1 t.f_Ldraws t.d_Ldraws ["_law_script", "_law_many"] (sp_Ldraws K) := by
 refine T.F_Ldraws.ok sc_Ldraws (fun vs H Q E h => ?_) (fun cdv A outer s H vs Q E hr h => ?_)
 ·obtain ⟨a, m, ns, rfl, _⟩ := h; rfl
 ·obtain ⟨a, m, ns, rfl, hS, hl, hm, k⟩ := h
  refine cutC (ps_set (i := 2) sc_Ldraws.nd rfl (Or.inl rfl) (pe_lst pa_nil)) fun _ _ => cutC (ps_set (i := 3) sc_Ldraws.nd rfl (Or.inl rfl) pe_int) fun _ _ => cutC (ps_for PassesOwn.never rfl (pi_list (pv 0)) (pg_name (i := 4) sc_Ldraws.nd rfl (Or.inl rfl)) (pss_cons (ps_set (i := 3) sc_Ldraws.nd rfl (Or.inl rfl) (pe_op op_mod (pe_op op_add (pe_op op_mul (pv 3) pe_int) (pv 4)) pe_int)) (pss_cons (ps_set (i := 5) sc_Ldraws.nd rfl (Or.inl rfl) (pe_callB cI_abs rfl T.no_abs (by rfl) (pa_cons (pv 4) pa_nil))) (pss_cons (ps_if (pt_cmpR op_lt (pv 5) (pe_op op_pow pe_int pe_int) (nomark _)) (pss_cons (ps_expr (pe_bm PySem.F.plainAttrs_list PySem.F.slot_list_append PySem.F.type_list_append mt_append (pv 2) (pa_cons (pv 4) pa_nil))) (pss_one (ps_set (i := 5) sc_Ldraws.nd rfl (Or.inl rfl) pe_int))) pss_nil) (pss_one (ps_while PassesOwn.never (PW.pt (pw_and (pt_cmpR op_gt (pv 5) pe_int (nomark _)) (pw_and1 (pt_cmpR op_lt (pe_callB (cI_lenK K rfl) rfl T.no_len (by rfl) (pa_cons (pv 2) pa_nil)) (pv 1) (nomark _))))) (pss_cons (ps_expr (pe_bm PySem.F.plainAttrs_list PySem.F.slot_list_append PySem.F.type_list_append mt_append (pv 2) (pa_cons (pe_op op_mod (pv 5) pe_int) pa_nil))) (pss_one (ps_set (i := 5) sc_Ldraws.nd rfl (Or.inl rfl) (pe_op op_fdiv (pv 5) pe_int)))))))))) fun _ _ => cutC (ps_while PassesOwn.never (pt_cmpR op_lt (pe_callB (cI_lenK K rfl) rfl T.no_len (by rfl) (pa_cons (pv 2) pa_nil)) (pv 1) (nomark _)) (pss_cons (ps_set (i := 3) sc_Ldraws.nd rfl (Or.inl rfl) (pe_op op_mod (pe_op op_add (pe_op op_mul (pv 3) pe_int) pe_int) pe_int)) (pss_one (ps_expr (pe_bm PySem.F.plainAttrs_list PySem.F.slot_list_append PySem.F.type_list_append mt_append (pv 2) (pa_cons (pe_op op_mod (pe_op op_mul (pv 3) (pv 3)) pe_int) pa_nil)))))) fun _ _ => cutE (ps_ret (pv 2)) fun _ _ => ?_
  walk_at "rd"
  refine ⟨Nat.zero_le _, fun l hn => ?_⟩
  walk_at "rd"
  have hz : ∀ {zs : List Int}, zs.length ≤ 300 → (zs.map V.int).length < sizeLine := fun h => by rw [List.length_map]; exact small1000 (by omega)
  refine ⟨⟨_, (Same.new hn).seq hS⟩, forW_list (K := K) (a := a) (xs := ns.map V.int) (fun i σ' H' => ∃ (zs : List Int) (mix : Int) (c r : Option V), σ' = [some (.ref a), some (.int m), some (.ref l), some (.int mix), c, r] ∧ Same H H' ∧ H' l = some (.lst (zs.map V.int)) ∧ zs.length ≤ i + m ∧ ∀ z ∈ zs, Sm z)
   ⟨[], 1, none, none, rfl, Same.new hn, upd_same, Nat.zero_le _, fun z hz => by cases hz⟩ (fun i σ' H' _ ⟨_, _, _, _, _, s, _⟩ => s.seq hS) ?_ ?_⟩
  ·rintro i y σ' H' hi ⟨zs, mix, c, r, rfl, s1, e1, lz, sm⟩
   have hil : i < ns.length := by have := (List.getElem?_eq_some_iff.mp hi).1; rwa [List.length_map] at this
   obtain ⟨z, rfl⟩ : ∃ z, y = V.int z := by
    rw [List.getElem?_map] at hi
    cases e : ns[i]? with
    | none => rw [e] at hi; cases hi
    | some z => rw [e] at hi; exact ⟨z, (Option.some.inj hi).symm⟩
   walk_at "rd"
   refine rd_I (.inr ⟨by decide, by decide⟩) ?_
   walk_at "rd"
   refine rd_I (by decide) ?_
   walk_at "rd"
   refine rd_I ⟨by decide, by decide, by decide⟩ ?_
   walk_at "rd"
   refine ite2 (fun hc => ?_) (fun _ => ?_)
   ·have hc := of_decide_eq_true hc
    have hcz : Sm z := by
     unfold Sm
     have e18 : (10 : Int) ^ 18 = 1000000000000000000 := by decide
     by_cases hz0 : z < 0
     ·rw [if_pos hz0] at hc; change -z < (10 : Int) ^ 18 at hc; omega
     ·rw [if_neg hz0] at hc; change z < (10 : Int) ^ 18 at hc; omega
    walk_at "rd"
    refine rd_bmL e1 ?_
    walk_at "rd"
    refine rd_append e1 (hz (by omega)) ?_
    rw [map_snoc]
    walk_at "rd"
    refine ⟨fun n σ' H' => ∃ (zs : List Int) (mix : Int) (r : Int), σ' = [some (.ref a), some (.int m), some (.ref l), some (.int mix), some (.int z), some (.int r)] ∧ Same H H' ∧ H' l = some (.lst (zs.map V.int)) ∧ zs.length ≤ i + 1 + m ∧ n = m - zs.length ∧ ∀ z ∈ zs, Sm z,
     ⟨_, zs ++ [z], _, _, rfl, s1.later hn, upd_same, by rw [List.length_append, List.length_singleton]; omega, rfl, sm_snoc sm hcz⟩, ?_⟩
    rintro n σ' H' ⟨zs, mix, r, rfl, s1, e1, lz, rfl, sm⟩
    walk_at "rd"
    refine ite2 (fun _ => ?_) (fun _ => ?_)
    ·walk_at "rd"
     refine rd_lenL e1 ?_
     walk_at "rd"
     rw [List.length_map]
     refine ite2 (fun h2 => ?_) (fun h2 => ?_)
     ·have h2 := of_decide_eq_true h2
      refine ⟨fun σ' H' => ∃ (zs' : List Int) (mix : Int) (r : Int), σ' = [some (.ref a), some (.int m), some (.ref l), some (.int mix), some (.int z), some (.int r)] ∧ Same H H' ∧ H' l = some (.lst (zs'.map V.int)) ∧ zs'.length = zs.length + 1 ∧ ∀ z ∈ zs', Sm z, ?_, ?_⟩
      ·rintro σ' H' ⟨zs', mix, r, rfl, s1, e1, lz', sm'⟩
       exact ⟨m - zs'.length, by omega, zs', mix, r, rfl, s1, e1, by omega, rfl, sm'⟩
      ·walk_at "rd"
       refine rd_bmL e1 ?_
       walk_at "rd"
       refine rd_I (by decide) ?_
       walk_at "rd"
       refine rd_append e1 (hz (by omega)) ?_
       rw [map_snoc]
       walk_at "rd"
       refine rd_I ⟨by decide, by decide⟩ ?_
       walk_at "rd"
       exact ⟨zs ++ [r % 1000003], mix, _, rfl, s1.later hn, upd_same, by rw [List.length_append, List.length_singleton], sm_snoc sm (sm_mod r (by decide) (by decide))⟩
     ·walk_at "rd"
      exact ⟨zs, mix, _, _, rfl, s1, e1, lz, sm⟩
    ·walk_at "rd"
     exact ⟨zs, mix, _, _, rfl, s1, e1, lz, sm⟩
   ·walk_at "rd"
    refine ⟨fun n σ' H' => ∃ (zs : List Int) (mix : Int) (r : Int), σ' = [some (.ref a), some (.int m), some (.ref l), some (.int mix), some (.int z), some (.int r)] ∧ Same H H' ∧ H' l = some (.lst (zs.map V.int)) ∧ zs.length ≤ i + 1 + m ∧ n = m - zs.length ∧ ∀ z ∈ zs, Sm z,
     ⟨_, zs, _, _, rfl, s1, e1, by omega, rfl, sm⟩, ?_⟩
    rintro n σ' H' ⟨zs, mix, r, rfl, s1, e1, lz, rfl, sm⟩
    walk_at "rd"
    refine ite2 (fun _ => ?_) (fun _ => ?_)
    ·walk_at "rd"
     refine rd_lenL e1 ?_
     walk_at "rd"
     rw [List.length_map]
     refine ite2 (fun h2 => ?_) (fun h2 => ?_)
     ·have h2 := of_decide_eq_true h2
      refine ⟨fun σ' H' => ∃ (zs' : List Int) (mix : Int) (r : Int), σ' = [some (.ref a), some (.int m), some (.ref l), some (.int mix), some (.int z), some (.int r)] ∧ Same H H' ∧ H' l = some (.lst (zs'.map V.int)) ∧ zs'.length = zs.length + 1 ∧ ∀ z ∈ zs', Sm z, ?_, ?_⟩
      ·rintro σ' H' ⟨zs', mix, r, rfl, s1, e1, lz', sm'⟩
       exact ⟨m - zs'.length, by omega, zs', mix, r, rfl, s1, e1, by omega, rfl, sm'⟩
      ·walk_at "rd"
       refine rd_bmL e1 ?_
       walk_at "rd"
       refine rd_I (by decide) ?_
       walk_at "rd"
       refine rd_append e1 (hz (by omega)) ?_
       rw [map_snoc]
       walk_at "rd"
       refine rd_I ⟨by decide, by decide⟩ ?_
       walk_at "rd"
       exact ⟨zs ++ [r % 1000003], mix, _, rfl, s1.later hn, upd_same, by rw [List.length_append, List.length_singleton], sm_snoc sm (sm_mod r (by decide) (by decide))⟩
     ·walk_at "rd"
      exact ⟨zs, mix, _, _, rfl, s1, e1, lz, sm⟩
    ·walk_at "rd"
     exact ⟨zs, mix, _, _, rfl, s1, e1, lz, sm⟩
  ·rintro σ' H' ⟨zs, mix, c, r, rfl, s1, e1, lz, sm⟩
   rw [List.length_map] at lz
   walk_at "rd"
   refine ⟨fun n σ' H' => ∃ (zs : List Int) (mix : Int), σ' = [some (.ref a), some (.int m), some (.ref l), some (.int mix), c, r] ∧ (-(2 ^ 64) < mix ∧ mix < 2 ^ 64 ∨ True) ∧ Same H H' ∧ H' l = some (.lst (zs.map V.int)) ∧ zs.length ≤ 300 ∧ n = m - zs.length ∧ ∀ z ∈ zs, Sm z,
    ⟨_, zs, mix, rfl, .inr trivial, s1, e1, by omega, rfl, sm⟩, ?_⟩
   rintro n σ' H' ⟨zs, mix, rfl, _, s1, e1, lz, rfl, sm⟩
   walk_at "rd"
   refine rd_lenL e1 ?_
   walk_at "rd"
   rw [List.length_map]
   refine ite2 (fun h2 => ?_) (fun h2 => ?_)
   ·have h2 := of_decide_eq_true h2
    refine ⟨fun σ' H' => ∃ (zs' : List Int) (mix : Int), σ' = [some (.ref a), some (.int m), some (.ref l), some (.int mix), c, r] ∧ Same H H' ∧ H' l = some (.lst (zs'.map V.int)) ∧ zs'.length = zs.length + 1 ∧ ∀ z ∈ zs', Sm z, ?_, ?_⟩
    ·rintro σ' H' ⟨zs', mix, rfl, s1, e1, lz', sm'⟩
     exact ⟨m - zs'.length, by omega, zs', mix, rfl, .inr trivial, s1, e1, by omega, rfl, sm'⟩
    ·walk_at "rd"
     refine rd_I (.inr ⟨by decide, by decide⟩) ?_
     walk_at "rd"
     refine rd_I (by decide) ?_
     walk_at "rd"
     refine rd_bmL e1 ?_
     walk_at "rd"
     refine rd_I (.inl ⟨by omega, by omega⟩) ?_
     walk_at "rd"
     refine rd_I (by decide) ?_
     walk_at "rd"
     refine rd_append e1 (hz (by omega)) ?_
     rw [map_snoc]
     walk_at "rd"
     exact ⟨zs ++ [_], _, rfl, s1.later hn, upd_same, by rw [List.length_append, List.length_singleton], sm_snoc sm (sm_mod _ (by decide) (by decide))⟩
   ·have h2 : ¬ ((zs.length : Int) < m) := fun z => h2 (decide_eq_true z)
    walk_at "rd"
    exact k l zs H' s1 e1 (by omega) (by omega) sm
end
section
variable {P : Program} {w : World} {K : PySem.W.Frag} {mg : Str → Option Value} {base : Heap} {t : Ad}
def sp_Lbits : Sp := fun vs H Q _ => ∃ (n : Int) (m : Nat), vs = [.int n, .int m] ∧ m ≤ 100 ∧ ∀ (l : Addr) (bs : List Int) (H' : Hp), Same H H' → H' l = some (.lst (bs.map V.int)) → bs.length = m → (∀ z ∈ bs, z = 0 ∨ z = 1) → Q (.ref l) H'
theorem emod_le {a b : Int} (ha : 0 ≤ a) (hb : 0 < b) : a % b ≤ a := by
 obtain ⟨m, rfl⟩ := Int.eq_ofNat_of_zero_le ha
 obtain ⟨n, rfl⟩ := Int.eq_ofNat_of_zero_le (Int.le_of_lt hb)
 rw [← Int.natCast_emod]
 exact Int.ofNat_le.mpr (Nat.mod_le _ _)
theorem mod2 (n : Int) : n % 2 = 0 ∨ n % 2 = 1 := by omega
theorem ok_Lbits (T : Txt K mg t) : FnOk P w K mg base CX0 1 t.f_Lbits t.d_Lbits ["_law_number", "_law_many"] sp_Lbits := by
 refine T.F_Lbits.ok sc_Lbits (fun vs H Q E h => ?_) (fun cdv A outer s H vs Q E hr h => ?_)
 ·obtain ⟨n, m, rfl, _⟩ := h; rfl
 ·obtain ⟨n, m, rfl, hm, k⟩ := h
  refine cutC (ps_set (i := 2) sc_Lbits.nd rfl (Or.inl rfl) (pe_lst pa_nil)) fun _ _ => cutC (ps_for PassesOwn.never rfl (pi_range1 rfl T.no_range (pa_cons (pv 1) pa_nil)) (pg_name (i := 3) sc_Lbits.nd rfl (Or.inl rfl)) (pss_cons (ps_expr (pe_bm PySem.F.plainAttrs_list PySem.F.slot_list_append PySem.F.type_list_append mt_append (pv 2) (pa_cons (pe_op op_mod (pv 0) pe_int) pa_nil))) (pss_one (ps_set (i := 0) sc_Lbits.nd rfl (Or.inl rfl) (pe_op op_fdiv (pv 0) pe_int))))) fun _ _ => cutE (ps_ret (pv 2)) fun _ _ => ?_
  walk_at "rd"
  refine ⟨Nat.zero_le _, fun l hn => ?_⟩
  walk_at "rd"
  refine ⟨m, rfl, by omega, by omega, ?_⟩
  rw [Int.toNat_natCast]
  refine forW_range (fun i σ' H' => ∃ (n : Int) (bs : List Int) (c : Option V), σ' = [some (.int n), some (.int m), some (.ref l), c] ∧ Same H H' ∧ H' l = some (.lst (bs.map V.int)) ∧ bs.length = i ∧ ∀ z ∈ bs, z = 0 ∨ z = 1)
   ⟨n, [], none, rfl, Same.new hn, upd_same, rfl, fun z hz => by cases hz⟩ ?_ ?_
  ·rintro i σ' H' hi ⟨n, bs, c, rfl, s1, e1, lb, hb⟩
   walk_at "rd"
   refine rd_bmL e1 ?_
   walk_at "rd"
   refine rd_I (by decide) ?_
   walk_at "rd"
   refine rd_append e1 (by rw [List.length_map]; exact small1000 (by omega)) ?_
   rw [map_snoc]
   walk_at "rd"
   refine rd_I ⟨by decide, by decide⟩ ?_
   walk_at "rd"
   refine ⟨_, bs ++ [n % 2], _, rfl, s1.later hn, upd_same, by rw [List.length_append, List.length_singleton]; omega, fun z hz => ?_⟩
   rcases List.mem_append.mp hz with h | h
   ·exact hb z h
   ·rw [List.mem_singleton.mp h]; exact mod2 n
  ·rintro σ' H' ⟨n, bs, c, rfl, s1, e1, lb, hb⟩
   walk_at "rd"
   exact k l bs H' s1 e1 lb hb
def sp_Lrow : Sp := fun vs H Q _ => ∃ (a : Addr) (m : Nat) (zs : List Int), vs = [.ref a, .int m] ∧ H a = some (.lst (zs.map V.int)) ∧ 4 ≤ zs.length ∧ m ≤ 100 ∧ ∀ (l : Addr) (bs : List Int) (H' : Hp), Same H H' → H' l = some (.lst (bs.map V.int)) → bs.length = m → (∀ z ∈ bs, z = 0 ∨ z = 1) → Q (.ref l) H'
theorem ok_Lrow (T : Txt K mg t) : FnOk P w K mg base CX0 2 t.f_Lrow t.d_Lrow ["_law_some", "_law_many"] sp_Lrow := by
 have G_Lbits := ok_Lbits (P := P) (w := w) (base := base) T
 refine T.F_Lrow.ok sc_Lrow (fun vs H Q E h => ?_) (fun cdv A outer s H vs Q E hr h => ?_)
 ·obtain ⟨a, m, zs, rfl, _⟩ := h; rfl
 ·obtain ⟨a, m, zs, rfl, ha, hl, hm, k⟩ := h
  refine cutC (ps_set (i := 2) sc_Lrow.nd rfl (Or.inl rfl) (pe_op op_add (pe_op op_add (pe_ix (ix_listK K rfl) (pv 0) pe_int (fun _ _ => rfl)) (pe_op op_mul pe_int (pe_ix (ix_listK K rfl) (pv 0) pe_int (fun _ _ => rfl)))) (pe_op op_mul (pe_op op_mul pe_int pe_int) (pe_ix (ix_listK K rfl) (pv 0) pe_int (fun _ _ => rfl))))) fun _ _ => cutC (ps_if (pt_cmpR op_eq (pe_op op_mod (pe_ix (ix_listK K rfl) (pv 0) pe_int (fun _ _ => rfl)) pe_int) pe_int (nomark _)) (pss_one (ps_set (i := 2) sc_Lrow.nd rfl (Or.inl rfl) (pe_un un_neg (pe_op op_mod (pe_ix (ix_listK K rfl) (pv 0) pe_int (fun _ _ => rfl)) pe_int)))) pss_nil) fun _ _ => cutC (ps_set (i := 3) sc_Lrow.nd rfl (Or.inr rfl) (pe_call G_Lbits (hr.mono (by first | decide | omega)) rfl T.mg_Lbits T.F_Lbits.kp T.b_Lbits .nil pass0 (pa_cons (pv 2) (pa_cons (pv 1) pa_nil)))) fun _ _ => cutC (ps_if (pt_cmpR op_eq (pe_op op_mod (pe_ix (ix_listK K rfl) (pv 0) pe_int (fun _ _ => rfl)) pe_int) pe_int (nomark _)) (pss_one (ps_set (i := 3) sc_Lrow.nd rfl (Or.inr rfl) (pe_comp (N := ["_law_k", "_law_row_here", "_law_some"]) (cap := [none, some 3, some 0]) rfl ⟨rfl, rfl, rfl, rfl, rfl, rfl⟩ (pi_range1 rfl T.no_range (pa_cons (pv 1) pa_nil)) (fun _ _ _ => (pg_name (i := 0) (show (["_law_k", "_law_row_here", "_law_some"] : List Str).Nodup by decide +kernel) rfl (Or.inl rfl))) (fun _ _ _ => pts_nil) (fun _ _ _ => (pe_ix (ix_listK K rfl) (pv 1) (pe_op op_mod (pv 0) (pe_op op_add pe_int (pe_op op_mod (pe_ix (ix_listK K rfl) (pv 2) pe_int (fun _ _ => rfl)) pe_int))) (fun _ _ => rfl)))))) pss_nil) fun _ _ => cutE (ps_ret (pv 3)) fun _ _ => ?_
  have I0 : atI (zs.map V.int) 0 = _ := atI_ints (by decide) (by omega)
  have I1 : atI (zs.map V.int) 1 = _ := atI_ints (by decide) (by omega)
  have I2 : atI (zs.map V.int) 2 = _ := atI_ints (by decide) (by omega)
  have I3 : atI (zs.map V.int) 3 = _ := atI_ints (by decide) (by omega)
  generalize zs.getD (0 : Int).toNat 0 = z0 at I0
  generalize zs.getD (1 : Int).toNat 0 = z1 at I1
  generalize zs.getD (2 : Int).toNat 0 = z2 at I2
  generalize zs.getD (3 : Int).toNat 0 = z3 at I3
  -- behind the raw number: the bits, and the pattern
  walk_at "rd"
  refine rd_ixL (SqL.of ha) I0 ?_
  walk_at "rd"
  refine rd_ixL (SqL.of ha) I1 ?_
  walk_at "rd"
  refine rd_I (.inl ⟨by decide, by decide⟩) ?_
  walk_at "rd"
  refine rd_I (.inl ⟨by decide, by decide⟩) ?_
  walk_at "rd"
  refine rd_ixL (SqL.of ha) I2 ?_
  walk_at "rd"
  refine rd_I (.inl ⟨by decide, by decide⟩) ?_
  walk_at "rd"
  refine rd_ixL (SqL.of ha) I3 ?_
  walk_at "rd"
  refine rd_I (by decide) ?_
  walk_at "rd"
  refine ite2 (fun _ => ?_) (fun _ => ?_)
  ·walk_at "rd"
   refine rd_ixL (SqL.of ha) I0 ?_
   walk_at "rd"
   refine rd_I (by decide) ?_
   walk_at "rd"
   refine ⟨_, m, rfl, hm, fun l bs H1 s1 e1 lb hb => ?_⟩
   walk_at "rd"
   refine rd_ixL (SqL.of (s1 _ _ ha)) I3 ?_
   walk_at "rd"
   refine rd_I (by decide) ?_
   walk_at "rd"
   refine ite2 (fun _ => ?_) (fun _ => ?_)
   ·walk_at "rd"
    refine ⟨m, rfl, by omega, by omega, fun l2 hn => ?_⟩
    rw [Int.toNat_natCast]
    refine compW_range (fun i => .int (bs.getD (((0 : Int) + (i : Nat)) % (1 + z1 % 4)).toNat 0)) (by omega) hn (fun i o H' Q' hi s2 q => ?_) (fun H' s2 e2 => ?_)
    ·walk_at "rd"
     refine rd_ixL (SqL.of (s2 _ _ (s1 _ _ ha))) I1 ?_
     walk_at "rd"
     refine rd_I (by decide) ?_
     walk_at "rd"
     have p1 : 0 < 1 + z1 % 4 := by omega
     refine rd_I p1 ?_
     walk_at "rd"
     have q0 := Int.emod_nonneg ((0 : Int) + (i : Nat)) (by omega : 1 + z1 % 4 ≠ 0)
     have q1 : ((0 : Int) + (i : Nat)) % (1 + z1 % 4) ≤ (0 : Int) + (i : Nat) := emod_le (by omega) (by omega)
     refine rd_ixL (SqL.of (s2 _ _ e1)) (atI_ints q0 (by omega)) ?_
     exact q H' (Same.refl _)
    ·walk_at "rd"
     refine k l2 ((List.range m).map fun i => bs.getD (((0 : Int) + (i : Nat)) % (1 + z1 % 4)).toNat 0) H' (s1.trans s2) (by rw [e2, List.map_map]; rfl) (by rw [List.length_map, List.length_range]) fun z hz => ?_
     obtain ⟨i, hi, rfl⟩ := List.mem_map.mp hz
     have hi := List.mem_range.mp hi
     have q0 := Int.emod_nonneg ((0 : Int) + (i : Nat)) (by omega : 1 + z1 % 4 ≠ 0)
     have q1 : ((0 : Int) + (i : Nat)) % (1 + z1 % 4) ≤ (0 : Int) + (i : Nat) := emod_le (by omega) (by omega)
     exact hb _ (L2.getD_mem (by omega))
   ·walk_at "rd"
    exact k l bs H1 s1 e1 lb hb
  ·walk_at "rd"
   refine ⟨_, m, rfl, hm, fun l bs H1 s1 e1 lb hb => ?_⟩
   walk_at "rd"
   refine rd_ixL (SqL.of (s1 _ _ ha)) I3 ?_
   walk_at "rd"
   refine rd_I (by decide) ?_
   walk_at "rd"
   refine ite2 (fun _ => ?_) (fun _ => ?_)
   ·walk_at "rd"
    refine ⟨m, rfl, by omega, by omega, fun l2 hn => ?_⟩
    rw [Int.toNat_natCast]
    refine compW_range (fun i => .int (bs.getD (((0 : Int) + (i : Nat)) % (1 + z1 % 4)).toNat 0)) (by omega) hn (fun i o H' Q' hi s2 q => ?_) (fun H' s2 e2 => ?_)
    ·walk_at "rd"
     refine rd_ixL (SqL.of (s2 _ _ (s1 _ _ ha))) I1 ?_
     walk_at "rd"
     refine rd_I (by decide) ?_
     walk_at "rd"
     have p1 : 0 < 1 + z1 % 4 := by omega
     refine rd_I p1 ?_
     walk_at "rd"
     have q0 := Int.emod_nonneg ((0 : Int) + (i : Nat)) (by omega : 1 + z1 % 4 ≠ 0)
     have q1 : ((0 : Int) + (i : Nat)) % (1 + z1 % 4) ≤ (0 : Int) + (i : Nat) := emod_le (by omega) (by omega)
     refine rd_ixL (SqL.of (s2 _ _ e1)) (atI_ints q0 (by omega)) ?_
     exact q H' (Same.refl _)
    ·walk_at "rd"
     refine k l2 ((List.range m).map fun i => bs.getD (((0 : Int) + (i : Nat)) % (1 + z1 % 4)).toNat 0) H' (s1.trans s2) (by rw [e2, List.map_map]; rfl) (by rw [List.length_map, List.length_range]) fun z hz => ?_
     obtain ⟨i, hi, rfl⟩ := List.mem_map.mp hz
     have hi := List.mem_range.mp hi
     have q0 := Int.emod_nonneg ((0 : Int) + (i : Nat)) (by omega : 1 + z1 % 4 ≠ 0)
     have q1 : ((0 : Int) + (i : Nat)) % (1 + z1 % 4) ≤ (0 : Int) + (i : Nat) := emod_le (by omega) (by omega)
     exact hb _ (L2.getD_mem (by omega))
   ·walk_at "rd"
    exact k l bs H1 s1 e1 lb hb
structure PlanAt (tupl : Bool) (H : Hp) (p : Addr) (s : Int) (cs rs : List Int) : Prop where
 ob : ∃ c r, H p = some (if tupl then .tup [.int s, .ref c, .ref r] else .lst [.int s, .ref c, .ref r]) ∧ H c = some (.lst (cs.map V.int)) ∧ H r = some (.lst (rs.map V.int))
 sh : s = 0 ∨ s = 1
 bc : Bits cs
 br : Bits rs
theorem PlanAt.mono {b : Bool} {H H' : Hp} {p : Addr} {s : Int} {cs rs : List Int} (e : Same H H') (c : PlanAt b H p s cs rs) : PlanAt b H' p s cs rs := by
 obtain ⟨⟨a, b, h1, h2, h3⟩, x, y, z⟩ := c
 exact ⟨⟨a, b, e _ _ h1, e _ _ h2, e _ _ h3⟩, x, y, z⟩
def sp_Lplan : Sp := fun vs H Q _ => ∃ (a : Addr) (zs : List Int), vs = [.ref a] ∧ H a = some (.lst (zs.map V.int)) ∧ 12 ≤ zs.length ∧ ∀ p s cs rs H', Same H H' → PlanAt true H' p s cs rs → Q (.ref p) H'
theorem pick_a (i : Int) : 0 < ([9, 9, 16, 40, 6] : List Int).getD (i % 5).toNat 0 ∧ ([9, 9, 16, 40, 6] : List Int).getD (i % 5).toNat 0 ≤ 40 := by
 have h := L2.getD_mem (zs := ([9, 9, 16, 40, 6] : List Int)) (k := (i % 5).toNat) (d := 0) (by simp; omega)
 simp only [List.mem_cons, List.not_mem_nil, or_false] at h
 rcases h with h | h | h | h | h <;> rw [h] <;> decide
theorem pick_b (i : Int) : 0 < ([9, 16, 16, 6, 40] : List Int).getD (i % 5).toNat 0 ∧ ([9, 16, 16, 6, 40] : List Int).getD (i % 5).toNat 0 ≤ 40 := by
 have h := L2.getD_mem (zs := ([9, 16, 16, 6, 40] : List Int)) (k := (i % 5).toNat) (d := 0) (by simp; omega)
 simp only [List.mem_cons, List.not_mem_nil, or_false] at h
 rcases h with h | h | h | h | h <;> rw [h] <;> decide
theorem ok_Lplan (T : Txt K mg t) : FnOk P w K mg base CX0 3 t.f_Lplan t.d_Lplan ["_law_some"] sp_Lplan := by
 have G_Lrow := ok_Lrow (P := P) (w := w) (base := base) T
 refine T.F_Lplan.ok sc_Lplan (fun vs H Q E h => ?_) (fun cdv A outer s H vs Q E hr h => ?_)
 ·obtain ⟨a, zs, rfl, _⟩ := h; rfl
 ·obtain ⟨a, zs, rfl, ha, hl, k⟩ := h
  refine cutC (ps_set (i := 1) sc_Lplan.nd rfl (Or.inl rfl) (pe_op op_add pe_int (pe_op op_mod (pe_ix (ix_listK K rfl) (pv 0) pe_int (fun _ _ => rfl)) (pe_ix (ix_listK K rfl) (pe_lst (pa_cons pe_int (pa_cons pe_int (pa_cons pe_int (pa_cons pe_int (pa_cons pe_int pa_nil)))))) (pe_op op_mod (pe_ix (ix_listK K rfl) (pv 0) pe_int (fun _ _ => rfl)) pe_int) (fun _ _ => rfl))))) fun _ _ => cutC (ps_set (i := 2) sc_Lplan.nd rfl (Or.inl rfl) (pe_op op_add pe_int (pe_op op_mod (pe_ix (ix_listK K rfl) (pv 0) pe_int (fun _ _ => rfl)) (pe_ix (ix_listK K rfl) (pe_lst (pa_cons pe_int (pa_cons pe_int (pa_cons pe_int (pa_cons pe_int (pa_cons pe_int pa_nil)))))) (pe_op op_mod (pe_ix (ix_listK K rfl) (pv 0) pe_int (fun _ _ => rfl)) pe_int) (fun _ _ => rfl))))) fun _ _ => cutE (ps_ret (pe_tup (pa_cons (pe_op op_mod (pe_ix (ix_listK K rfl) (pv 0) pe_int (fun _ _ => rfl)) pe_int) (pa_cons (pe_call G_Lrow (hr.mono (by first | decide | omega)) rfl T.mg_Lrow T.F_Lrow.kp T.b_Lrow .nil pass0 (pa_cons (pe_slice (sl_listK K rfl) (pv 0) (po_some pe_int) po_none) (pa_cons (pe_op op_sub (pv 1) pe_int) pa_nil))) (pa_cons (pe_call G_Lrow (hr.mono (by first | decide | omega)) rfl T.mg_Lrow T.F_Lrow.kp T.b_Lrow .nil pass0 (pa_cons (pe_slice (sl_listK K rfl) (pv 0) (po_some pe_int) po_none) (pa_cons (pe_op op_sub (pv 2) pe_int) pa_nil))) pa_nil))))) fun _ _ => ?_
  have I0 : atI (zs.map V.int) 0 = _ := atI_ints (by decide) (by omega)
  have I1 : atI (zs.map V.int) 1 = _ := atI_ints (by decide) (by omega)
  have I2 : atI (zs.map V.int) 2 = _ := atI_ints (by decide) (by omega)
  have I3 : atI (zs.map V.int) 3 = _ := atI_ints (by decide) (by omega)
  generalize zs.getD (0 : Int).toNat 0 = z0 at I0
  generalize zs.getD (1 : Int).toNat 0 = z1 at I1
  generalize zs.getD (2 : Int).toNat 0 = z2 at I2
  generalize zs.getD (3 : Int).toNat 0 = z3 at I3
  have m0 : 0 ≤ z0 % 5 := by omega
  have m5 : z0 % 5 < 5 := by omega
  walk_at "rd"
  refine rd_ixL (SqL.of ha) I1 ?_
  walk_at "rd"
  refine ⟨by show 5 ≤ sizeLine; decide, fun l1 n1 => ?_⟩
  have s1 := Same.new (o := HO.lst (([9, 9, 16, 40, 6] : List Int).map V.int)) n1
  walk_at "rd"
  refine rd_ixL (SqL.of (s1 _ _ ha)) I0 ?_
  walk_at "rd"
  refine rd_I (by decide) ?_
  walk_at "rd"
  refine rd_ixL (SqL.of (xs := ([9, 9, 16, 40, 6] : List Int).map V.int) upd_same) (atI_ints m0 m5) ?_
  walk_at "rd"
  refine rd_I (pick_a z0).1 ?_
  walk_at "rd"
  refine rd_ixL (SqL.of (s1 _ _ ha)) I2 ?_
  walk_at "rd"
  refine ⟨by show 5 ≤ sizeLine; decide, fun l2 n2 => ?_⟩
  have s2 := Same.new (o := HO.lst (([9, 16, 16, 6, 40] : List Int).map V.int)) n2
  walk_at "rd"
  refine rd_ixL (SqL.of (s2 _ _ (s1 _ _ ha))) I0 ?_
  walk_at "rd"
  refine rd_I (by decide) ?_
  walk_at "rd"
  refine rd_ixL (SqL.of (xs := ([9, 16, 16, 6, 40] : List Int).map V.int) upd_same) (atI_ints m0 m5) ?_
  walk_at "rd"
  refine rd_I (pick_b z0).1 ?_
  walk_at "rd"
  have ha2 := s2 _ _ (s1 _ _ ha)
  refine rd_ixL (SqL.of ha2) I3 ?_
  walk_at "rd"
  refine rd_I (by decide) ?_
  walk_at "rd"
  have va := pick_a z0
  have vb := pick_b z0
  generalize ([9, 9, 16, 40, 6] : List Int).getD (z0 % 5).toNat 0 = va' at va ⊢
  generalize ([9, 16, 16, 6, 40] : List Int).getD (z0 % 5).toNat 0 = vb' at vb ⊢
  have wa0 := Int.emod_nonneg z1 (by omega : va' ≠ 0)
  have wa1 := Int.emod_lt_of_pos z1 va.1
  have wb0 := Int.emod_nonneg z2 (by omega : vb' ≠ 0)
  have wb1 := Int.emod_lt_of_pos z2 vb.1
  refine rd_slL ha2 fun l3 n3 => ?_
  have s3 := Same.new (o := HO.lst (cutV (zs.map V.int) (some 4) none)) n3
  walk_at "rd"
  refine ⟨l3, (z1 % va').toNat, zs.drop 4, (by show [V.ref l3, V.int (1 + z1 % va' - 1)] = _; rw [show (1 + z1 % va' - 1 : Int) = (((z1 % va').toNat : Nat) : Int) by omega]), by rw [upd_same]; exact congrArg (fun x => some (HO.lst x)) (cutV_drop (k := 4)), by rw [List.length_drop]; omega, by omega, fun c cs H1 s4 ec lc bc => ?_⟩
  walk_at "rd"
  have ha4 := s4 _ _ (s3 _ _ ha2)
  refine rd_slL ha4 fun l5 n5 => ?_
  have s5 := Same.new (o := HO.lst (cutV (zs.map V.int) (some 8) none)) n5
  walk_at "rd"
  refine ⟨l5, (z2 % vb').toNat, zs.drop 8, (by show [V.ref l5, V.int (1 + z2 % vb' - 1)] = _; rw [show (1 + z2 % vb' - 1 : Int) = (((z2 % vb').toNat : Nat) : Int) by omega]), by rw [upd_same]; exact congrArg (fun x => some (HO.lst x)) (cutV_drop (k := 8)), by rw [List.length_drop]; omega, by omega, fun r rs H2 s6 er lr br => ?_⟩
  walk_at "rd"
  refine ⟨by show 3 ≤ sizeLine; decide, fun p hp => ?_⟩
  have s7 := Same.new (o := HO.tup [V.int (z3 % 2), V.ref c, V.ref r]) hp
  exact k p (z3 % 2) cs rs _ (s1.trans (s2.trans (s3.trans (s4.trans (s5.trans (s6.trans s7)))))) ⟨⟨c, r, upd_same, s7 _ _ (s6 _ _ (s5 _ _ ec)), s7 _ _ er⟩, mod2 z3, ⟨by omega, bc⟩, ⟨by omega, br⟩⟩
end
section
variable {P : Program} {w : World} {K : PySem.W.Frag} {mg : Str → Option Value} {base : Heap} {t : Ad}
def sp_Lsewn : Sp := fun vs H Q _ => ∃ (q : Addr) (w : Str) (k st s : Int) (cs rs bs : List Int), vs = [.ref q, .str w, .int k, .int st] ∧ PlanAt true H q s cs rs ∧ IsWay w cs rs bs ∧ 0 ≤ k ∧ k < bs.length ∧ Q (.bl (decide ((st + bs.getD k.toNat 0) % 2 = 1))) H
theorem cr_ne : ¬ (("col" : Str) = "row") := by decide +kernel
theorem ok_Lsewn (T : Txt K mg t) : FnOk P w K mg base CX0 1 t.f_Lsewn t.d_Lsewn ["_law_plan_here", "_law_way", "_law_k", "_law_step"] sp_Lsewn := by
 refine T.F_Lsewn.ok sc_Lsewn (fun vs H Q E h => ?_) (fun cdv A outer s H vs Q E hr h => ?_)
 ·obtain ⟨q, w, k, st, s, cs, rs, bs, rfl, _⟩ := h; rfl
 ·obtain ⟨q, w, k, st, s, cs, rs, bs, rfl, pl, hw, h0, h1, z⟩ := h
  obtain ⟨⟨c, r, hq, hc, hr'⟩, sh, bc, br⟩ := id pl
  refine cutC (ps_set (i := 4) sc_Lsewn.nd rfl (Or.inl rfl) (pe_ix (ix_tupK K rfl) (pv 0) pe_int (fun _ _ => rfl))) fun _ _ => cutC (ps_if (pt_cmpR op_eq (pv 1) pe_str (nomark _)) (pss_one (ps_set (i := 4) sc_Lsewn.nd rfl (Or.inl rfl) (pe_ix (ix_tupK K rfl) (pv 0) pe_int (fun _ _ => rfl)))) pss_nil) fun _ _ => cutE (ps_ret (pe_cmpR op_eq (pe_op op_mod (pe_op op_add (pv 3) (pe_ix (ix_listK K rfl) (pv 4) (pv 2) (fun _ _ => rfl))) pe_int) pe_int (nomark _))) fun _ _ => ?_
  walk_at "rd"
  refine rd_ixT (SqT.of hq) (v := .ref c) rfl ?_
  walk_at "rd"
  rcases hw with ⟨rfl, rfl⟩ | ⟨rfl, rfl⟩
  ·rw [decide_eq_false cr_ne]
   walk_at "rd"
   refine rd_ixL (SqL.of hc) (atI_ints h0 h1) ?_
   walk_at "rd"
   refine rd_I (by decide) ?_
   walk_at "rd"
   exact z
  ·rw [decide_eq_true (rfl : ("row" : Str) = "row")]
   walk_at "rd"
   refine rd_ixT (SqT.of hq) (v := .ref r) rfl ?_
   walk_at "rd"
   refine rd_ixL (SqL.of hr') (atI_ints h0 h1) ?_
   walk_at "rd"
   refine rd_I (by decide) ?_
   walk_at "rd"
   exact z
end
section
variable {P : Program} {w : World} {K : PySem.W.Frag} {mg : Str → Option Value} {base : Heap} {t : Ad}
theorem sum_take_succ (l : List Int) {k : Nat} (h : k < l.length) : (l.take (k + 1)).sum = (l.take k).sum + l.getD k 0 := by
 rw [List.take_add_one, List.sum_append, List.getD_eq_getElem?_getD, List.getElem?_eq_getElem h]
 simp
theorem colr_bit (s : Int) (cs rs : List Int) (x y : Int) : colr s cs rs x y = 0 ∨ colr s cs rs x y = 1 := by unfold colr; omega
theorem colr_right {s : Int} {cs rs : List Int} {k : Nat} {y : Int} (h : k < cs.length) : colr s cs rs ((k : Int) + 1) y = (colr s cs rs k y + (if decide ((y + cs.getD k 0) % 2 = 1) = true then 1 else 0)) % 2 := by
 unfold colr
 rw [show ((k : Int) + 1).toNat = k + 1 by omega, Int.toNat_natCast, sum_take_succ cs h, show ((k : Int) + 1) * y = (k : Int) * y + y by rw [Int.add_mul, Int.one_mul]]
 generalize (k : Int) * y = m
 generalize (cs.take k).sum = a
 generalize (rs.take y.toNat).sum = b
 generalize cs.getD k 0 = d
 by_cases h2 : (y + d) % 2 = 1
 ·rw [decide_eq_true h2, if_pos rfl]; omega
 ·rw [decide_eq_false h2, if_neg (by decide)]; omega
theorem colr_up {s : Int} {cs rs : List Int} {k : Nat} (h : k < rs.length) : colr s cs rs 0 ((k : Int) + 1) = if decide ((0 + rs.getD k 0) % 2 = 1) = true then 1 - colr s cs rs 0 k else colr s cs rs 0 k := by
 unfold colr
 rw [show ((k : Int) + 1).toNat = k + 1 by omega, Int.toNat_natCast, sum_take_succ rs h, Int.zero_mul, Int.zero_mul]
 generalize (cs.take (0 : Int).toNat).sum = a
 generalize (rs.take k).sum = b
 generalize rs.getD k 0 = d
 by_cases h2 : (0 + d) % 2 = 1
 ·rw [decide_eq_true h2, if_pos rfl]; omega
 ·rw [decide_eq_false h2, if_neg (by decide)]; omega
theorem colr_0 {s : Int} {cs rs : List Int} (h : s = 0 ∨ s = 1) : colr s cs rs 0 0 = s := by
 unfold colr
 simp
 omega
def rowOf (s : Int) (cs rs : List Int) (y : Int) (n : Nat) : List Int := (List.range n).map fun x => colr s cs rs (x : Nat) y
def tblOf (s : Int) (cs rs : List Int) (n : Nat) : List (List Int) := (List.range n).map fun y => rowOf s cs rs (y : Nat) (cs.length + 1)
theorem rowOf_succ (s : Int) (cs rs : List Int) (y : Int) (n : Nat) : rowOf s cs rs y (n + 1) = rowOf s cs rs y n ++ [colr s cs rs n y] := by unfold rowOf; rw [List.range_succ, List.map_append]; rfl
theorem tblOf_succ (s : Int) (cs rs : List Int) (n : Nat) : tblOf s cs rs (n + 1) = tblOf s cs rs n ++ [rowOf s cs rs n (cs.length + 1)] := by unfold tblOf; rw [List.range_succ, List.map_append]; rfl
theorem rowOf_len (s : Int) (cs rs : List Int) (y : Int) (n : Nat) : (rowOf s cs rs y n).length = n := by unfold rowOf; rw [List.length_map, List.length_range]
theorem tblOf_len (s : Int) (cs rs : List Int) (n : Nat) : (tblOf s cs rs n).length = n := by unfold tblOf; rw [List.length_map, List.length_range]
theorem rowOf_get {s : Int} {cs rs : List Int} {y : Int} {n k : Nat} (h : k < n) : (rowOf s cs rs y n).getD k 0 = colr s cs rs k y := by
 unfold rowOf
 rw [List.getD_eq_getElem?_getD, List.getElem?_map, List.getElem?_range h]; rfl
theorem tblOf_get {s : Int} {cs rs : List Int} {n k : Nat} (h : k < n) : (tblOf s cs rs n).getD k [] = rowOf s cs rs k (cs.length + 1) := by
 unfold tblOf
 rw [List.getD_eq_getElem?_getD, List.getElem?_map, List.getElem?_range h]; rfl
def sp_Ltable : Sp := fun vs H Q _ => ∃ (q : Addr) (s : Int) (cs rs : List Int), vs = [.ref q] ∧ PlanAt true H q s cs rs ∧ ∀ l H', Same H H' → H l = none → TblAt H' l (tblOf s cs rs (rs.length + 1)) → Q (.ref l) H'
theorem ok_Ltable (T : Txt K mg t) : FnOk P w K mg base CX0 2 t.f_Ltable t.d_Ltable ["_law_plan_here"] sp_Ltable := by
 have G_Lsewn := ok_Lsewn (P := P) (w := w) (base := base) T
 refine T.F_Ltable.ok sc_Ltable (fun vs H Q E h => ?_) (fun cdv A outer s H vs Q E hr h => ?_)
 ·obtain ⟨q, s, cs, rs, rfl, _⟩ := h; rfl
 ·obtain ⟨q, s, cs, rs, rfl, pl, z⟩ := h
  obtain ⟨⟨c, r, hq, hc, hr'⟩, sh, bc, br⟩ := id pl
  have lc := bc.1
  have lr := br.1
  refine cutC (ps_set (i := 1) sc_Ltable.nd rfl (Or.inl rfl) (pe_lst pa_nil)) fun _ _ => cutC (ps_set (i := 2) sc_Ltable.nd rfl (Or.inl rfl) (pe_ix (ix_tupK K rfl) (pv 0) pe_int (fun _ _ => rfl))) fun _ _ => cutC (ps_for PassesOwn.never rfl (pi_range1 rfl T.no_range (pa_cons (pe_op op_add (pe_callB (cI_lenK K rfl) rfl T.no_len (by rfl) (pa_cons (pe_ix (ix_tupK K rfl) (pv 0) pe_int (fun _ _ => rfl)) pa_nil)) pe_int) pa_nil)) (pg_name (i := 3) sc_Ltable.nd rfl (Or.inl rfl)) (pss_cons (ps_join (ps_if (PW.pt (pw_and (pt_cmpR op_gt (pv 3) pe_int (nomark _)) (pw_and1 (pt_val (pe_call G_Lsewn (hr.mono (by first | decide | omega)) rfl T.mg_Lsewn T.F_Lsewn.kp T.b_Lsewn .nil pass0 (pa_cons (pv 0) (pa_cons pe_str (pa_cons (pe_op op_sub (pv 3) pe_int) (pa_cons pe_int pa_nil))))))))) (pss_one (ps_set (i := 2) sc_Ltable.nd rfl (Or.inl rfl) (pe_op op_sub pe_int (pv 2)))) pss_nil)) (pss_cons (ps_set (i := 4) sc_Ltable.nd rfl (Or.inl rfl) (pe_lst (pa_cons (pv 2) pa_nil))) (pss_cons (ps_for PassesOwn.never rfl (pi_range1 rfl T.no_range (pa_cons (pe_callB (cI_lenK K rfl) rfl T.no_len (by rfl) (pa_cons (pe_ix (ix_tupK K rfl) (pv 0) pe_int (fun _ _ => rfl)) pa_nil)) pa_nil)) (pg_name (i := 5) sc_Ltable.nd rfl (Or.inl rfl)) (pss_one (ps_expr (pe_bm PySem.F.plainAttrs_list PySem.F.slot_list_append PySem.F.type_list_append mt_append (pv 4) (pa_cons (pe_op op_mod (pe_op op_add (pe_ix (ix_listK K rfl) (pv 4) (pe_un un_neg pe_int) (fun _ _ => rfl)) (pe_callTy cI_int rfl T.no_int (by rfl) (pa_cons (pe_call G_Lsewn (hr.mono (by first | decide | omega)) rfl T.mg_Lsewn T.F_Lsewn.kp T.b_Lsewn .nil pass0 (pa_cons (pv 0) (pa_cons pe_str (pa_cons (pv 5) (pa_cons (pv 3) pa_nil))))) pa_nil))) pe_int) pa_nil))))) (pss_one (ps_expr (pe_bm PySem.F.plainAttrs_list PySem.F.slot_list_append PySem.F.type_list_append mt_append (pv 1) (pa_cons (pv 4) pa_nil)))))))) fun _ _ => cutE (ps_ret (pv 1)) fun _ _ => ?_
  walk_at "rd"
  refine ⟨Nat.zero_le _, fun l hn => ?_⟩
  walk_at "rd"
  refine rd_ixT (SqT.of ((Same.new hn) _ _ hq)) (v := .int s) rfl ?_
  walk_at "rd"
  refine rd_ixT (SqT.of ((Same.new hn) _ _ hq)) (v := .ref r) rfl ?_
  walk_at "rd"
  refine rd_lenL ((Same.new hn) _ _ hr') ?_
  rw [List.length_map]
  walk_at "rd"
  refine ⟨_, rfl, by omega, by omega, ?_⟩
  rw [show ((rs.length : Int) + 1).toNat = rs.length + 1 by omega]
  refine forW_range (fun i σ' H' => ∃ (y row kk : Option V), σ' = [some (.ref q), some (.ref l), some (.int (colr s cs rs 0 ((i - 1 : Nat) : Int))), y, row, kk] ∧ Same H H' ∧ TblAt H' l (tblOf s cs rs i))
   ⟨none, none, none, by rw [show (((0 - 1 : Nat) : Int)) = 0 from rfl, colr_0 sh]; rfl, Same.new hn, TblAt.new⟩ ?_ ?_
  ·rintro i σ' H' hi ⟨y, row, kk, rfl, s1, tb⟩
   rw [Int.zero_add]
   walk_at "rd"
   refine rd_join (fun σ' H2 => σ' = [some (.ref q), some (.ref l), some (.int (colr s cs rs 0 (i : Int))), some (.int (i : Int)), row, kk] ∧ H2 = H') ?_ ?_
   ·walk_at "rd"
    refine ite2 (fun h0 => ?_) (fun h0 => ?_)
    ·have h0 := of_decide_eq_true h0
     obtain ⟨j, rfl⟩ : ∃ j, i = j + 1 := ⟨i - 1, by omega⟩
     have hj : j < rs.length := by omega
     walk_at "rd"
     refine ⟨q, "row", _, 0, s, cs, rs, rs, rfl, pl.mono s1, .inr ⟨rfl, rfl⟩, by omega, by omega, ?_⟩
     rw [show (((j + 1 : Nat) : Int) - 1).toNat = j by omega]
     have cu := colr_up (s := s) (cs := cs) hj
     rw [show ((j : Int) + 1) = ((j + 1 : Nat) : Int) by omega] at cu
     rw [show ((j + 1 - 1 : Nat) : Int) = (j : Int) by omega, cu]
     walk_at "rd"
     refine ite2 (fun h2 => ?_) (fun h2 => ?_)
     ·rw [if_pos h2]
      walk_at "rd"
      exact ⟨rfl, rfl⟩
     ·rw [if_neg h2]
      walk_at "rd"
      exact ⟨rfl, rfl⟩
    ·have h0 : ¬ (0 : Int) < (i : Int) := fun z => h0 (decide_eq_true z)
     obtain rfl : i = 0 := by omega
     walk_at "rd"
     exact ⟨rfl, rfl⟩
   ·rintro σ2 H2 ⟨rfl, rfl⟩
    walk_at "rd"
    refine ⟨by show 1 ≤ sizeLine; decide, fun a ha => ?_⟩
    walk_at "rd"
    have sa := fun n => Same.new (o := HO.lst ((rowOf s cs rs i (n + 1)).map V.int)) ha
    have e0 : [V.int (colr s cs rs 0 (i : Int))] = (rowOf s cs rs i (0 + 1)).map V.int := rfl
    rw [e0]
    refine rd_ixT (SqT.of (sa 0 _ _ (s1 _ _ hq))) (v := .ref c) rfl ?_
    walk_at "rd"
    refine rd_lenL (sa 0 _ _ (s1 _ _ hc)) ?_
    rw [List.length_map]
    walk_at "rd"
    refine ⟨_, rfl, by omega, by omega, ?_⟩
    rw [Int.toNat_natCast]
    refine forW_range (fun n σ' H3 => ∃ (kk : Option V), σ' = [some (.ref q), some (.ref l), some (.int (colr s cs rs 0 (i : Int))), some (.int (i : Int)), some (.ref a), kk] ∧ H3 = upd H2 a (.lst ((rowOf s cs rs i (n + 1)).map V.int)))
     ⟨kk, rfl, rfl⟩ ?_ ?_
    ·rintro n σ' H3 hn2 ⟨kk, rfl, rfl⟩
     rw [Int.zero_add]
     walk_at "rd"
     refine rd_bmL upd_same ?_
     walk_at "rd"
     refine rd_ixL (SqL.of upd_same) (v := .int (colr s cs rs (n : Nat) (i : Int))) (by rw [rowOf_succ, List.map_append]; exact atI_last _ _) ?_
     walk_at "rd"
     refine ⟨q, "col", _, _, s, cs, rs, cs, rfl, pl.mono (s1.trans (sa n)), .inl ⟨rfl, rfl⟩, by omega, by omega, ?_⟩
     walk_at "rd"
     refine rd_I (by decide) ?_
     walk_at "rd"
     rw [Int.toNat_natCast, ← colr_right (s := s) (rs := rs) (y := (i : Int)) hn2]
     refine rd_append upd_same (by rw [List.length_map, rowOf_len]; exact small1000 (by omega)) ?_
     walk_at "rd"
     exact ⟨_, rfl, by rw [upd_upd, map_snoc, show ((n : Int) + 1) = ((n + 1 : Nat) : Int) by omega, ← rowOf_succ]⟩
    ·rintro σ' H3 ⟨kk, rfl, rfl⟩
     walk_at "rd"
     obtain ⟨as, h1, h2, h3⟩ := (tb.mono (sa cs.length)).ob
     refine rd_bmL h1 ?_
     walk_at "rd"
     rw [tblOf_len] at h2
     refine rd_append h1 (by rw [List.length_map]; exact small1000 (by omega)) ?_
     walk_at "rd"
     have nl : a ≠ l := fun e => by
      subst e
      obtain ⟨as', k1, _⟩ := tb.ob
      rw [ha] at k1; cases k1
     refine ⟨_, _, _, rfl, (s1.trans (sa cs.length)).later hn, ?_⟩
     rw [tblOf_succ]
     exact TblAt.snoc h1 (by rw [tblOf_len]; exact h2) h3 upd_same nl
  ·rintro σ' H' ⟨y, row, kk, rfl, s1, tb⟩
   walk_at "rd"
   exact z l H' s1 hn tb
end
section
variable {P : Program} {w : World} {K : PySem.W.Frag} {mg : Str → Option Value} {base : Heap} {t : Ad}
def Scal (d : PyData) : Prop := (∃ i, d = .int i) ∨ (∃ b, d = .bool b) ∨ d = .none ∨ ∃ x, d = .str x ∧ PyData.strOk x = true
def OkS (S : PyData → Prop) (d : PyData) : Prop := Scal d ∨ (∃ ds, d = .list ds ∧ ds.length ≤ 1000 ∧ ∀ e ∈ ds, S e) ∨ ∃ ds, d = .tuple ds ∧ ds.length ≤ 1000 ∧ ∀ e ∈ ds, S e
def sp_same (S : PyData → Prop) : Sp := fun vs H Q _ => ∃ (x y : V) (d : PyData), vs = [x, y] ∧ S d ∧ Rep H d x ∧ Rep H d y ∧ ∀ H', Same H H' → Q (.bl true) H'
theorem same_step {S : PyData → Prop} {n : Nat} (T : Txt K mg t) (G_Lsame : FnOk P w K mg base CX0 n t.f_Lsame t.d_Lsame ["_law_told", "_law_due"] (sp_same S)) : FnOk P w K mg base CX0 (n + 1) t.f_Lsame t.d_Lsame ["_law_told", "_law_due"] (sp_same (OkS S)) := by
 refine T.F_Lsame.ok sc_Lsame (fun vs H Q E h => ?_) (fun cdv A outer s H vs Q E hr h => ?_)
 ·obtain ⟨x, y, d, rfl, _⟩ := h; rfl
 ·obtain ⟨x, y, d, rfl, ok, rx, ry, k⟩ := h
  refine cutC (ps_if (PW.pt (pw_or (pt_cmpR op_ne (pe_callB (cI_isinstK K rfl) rfl T.no_isinstance (by rfl) (pa_cons (pv 0) (pa_cons (pe_bltn (v := .ty "bool") rfl T.no_bool (by rfl : bootBuiltins "bool" = some (.type "bool")) rfl) pa_nil))) (pe_callB (cI_isinstK K rfl) rfl T.no_isinstance (by rfl) (pa_cons (pv 1) (pa_cons (pe_bltn (v := .ty "bool") rfl T.no_bool (by rfl : bootBuiltins "bool" = some (.type "bool")) rfl) pa_nil))) (nomark _)) (pw_or1 (pt_cmpR op_ne (pe_callB (cI_isinstK K rfl) rfl T.no_isinstance (by rfl) (pa_cons (pv 0) (pa_cons (pe_bltn (v := .ty "int") rfl T.no_int (by rfl : bootBuiltins "int" = some (.type "int")) rfl) pa_nil))) (pe_callB (cI_isinstK K rfl) rfl T.no_isinstance (by rfl) (pa_cons (pv 1) (pa_cons (pe_bltn (v := .ty "int") rfl T.no_int (by rfl : bootBuiltins "int" = some (.type "int")) rfl) pa_nil))) (nomark _))))) (pss_one (ps_ret pe_bl)) pss_nil) fun _ _ => cutC (ps_if (PW.pt (pw_or (pt_cmpR op_ne (pe_callB (cI_isinstK K rfl) rfl T.no_isinstance (by rfl) (pa_cons (pv 0) (pa_cons (pe_bltn (v := .ty "list") rfl T.no_list (by rfl : bootBuiltins "list" = some (.type "list")) rfl) pa_nil))) (pe_callB (cI_isinstK K rfl) rfl T.no_isinstance (by rfl) (pa_cons (pv 1) (pa_cons (pe_bltn (v := .ty "list") rfl T.no_list (by rfl : bootBuiltins "list" = some (.type "list")) rfl) pa_nil))) (nomark _)) (pw_or1 (pt_cmpR op_ne (pe_callB (cI_isinstK K rfl) rfl T.no_isinstance (by rfl) (pa_cons (pv 0) (pa_cons (pe_bltn (v := .ty "tuple") rfl T.no_tuple (by rfl : bootBuiltins "tuple" = some (.type "tuple")) rfl) pa_nil))) (pe_callB (cI_isinstK K rfl) rfl T.no_isinstance (by rfl) (pa_cons (pv 1) (pa_cons (pe_bltn (v := .ty "tuple") rfl T.no_tuple (by rfl : bootBuiltins "tuple" = some (.type "tuple")) rfl) pa_nil))) (nomark _))))) (pss_one (ps_ret pe_bl)) pss_nil) fun _ _ => cutC (ps_if (PW.pt (pw_and (pt_not (pt_val (pe_callB (cI_isinstK K rfl) rfl T.no_isinstance (by rfl) (pa_cons (pv 1) (pa_cons (pe_bltn (v := .ty "list") rfl T.no_list (by rfl : bootBuiltins "list" = some (.type "list")) rfl) pa_nil))))) (pw_and1 (pt_not (pt_val (pe_callB (cI_isinstK K rfl) rfl T.no_isinstance (by rfl) (pa_cons (pv 1) (pa_cons (pe_bltn (v := .ty "tuple") rfl T.no_tuple (by rfl : bootBuiltins "tuple" = some (.type "tuple")) rfl) pa_nil)))))))) (pss_one (ps_ret (pe_and (pe_cmpR op_eq (pe_callB (cI_isinstK K rfl) rfl T.no_isinstance (by rfl) (pa_cons (pv 0) (pa_cons (pe_bltn (v := .ty "str") rfl T.no_str (by rfl : bootBuiltins "str" = some (.type "str")) rfl) pa_nil))) (pe_callB (cI_isinstK K rfl) rfl T.no_isinstance (by rfl) (pa_cons (pv 1) (pa_cons (pe_bltn (v := .ty "str") rfl T.no_str (by rfl : bootBuiltins "str" = some (.type "str")) rfl) pa_nil))) (nomark _)) (pe_one (pe_cmpR (op_eqD hr.units) (pv 0) (pv 1) (nomark _)))))) pss_nil) fun _ _ => cutE (ps_ret (pe_and (pe_cmpR op_eq (pe_callB (cI_lenK K rfl) rfl T.no_len (by rfl) (pa_cons (pv 0) pa_nil)) (pe_callB (cI_lenK K rfl) rfl T.no_len (by rfl) (pa_cons (pv 1) pa_nil)) (nomark _)) (pe_one (pe_callB (cI_allK K rfl rfl) rfl T.no_all (by rfl) (pa_cons (pe_comp (N := ["_law_one", "_law_other"]) (cap := [none, none]) rfl ⟨rfl, rfl, rfl, rfl, rfl, rfl⟩ (pi_zipS rfl T.no_zip (pa_cons (pv 0) (pa_cons (pv 1) pa_nil))) (fun _ _ _ => (pg_tupK (n := 2) K rfl rfl (pgs_cons (pg_name (i := 0) (show (["_law_one", "_law_other"] : List Str).Nodup by decide +kernel) rfl (Or.inl rfl)) (pgs_cons (pg_name (i := 1) (show (["_law_one", "_law_other"] : List Str).Nodup by decide +kernel) rfl (Or.inl rfl)) pgs_nil)))) (fun _ _ _ => pts_nil) (fun _ _ _ => (pe_call G_Lsame (hr.mono (by first | decide | omega)) rfl T.mg_Lsame T.F_Lsame.kp T.b_Lsame .nil pass0 (pa_cons (pv 0) (pa_cons (pv 1) pa_nil))))) pa_nil))))) fun _ _ => ?_
  walk_at "rd"
  refine rd_isi rx.ty (kit_bool d) ?_
  walk_at "rd"
  refine rd_isi ry.ty (kit_bool d) ?_
  walk_at "rd"
  rw [decide_eq_true rfl]
  walk_at "rd"
  refine rd_isi rx.ty (kit_int d) ?_
  walk_at "rd"
  refine rd_isi ry.ty (kit_int d) ?_
  walk_at "rd"
  rw [decide_eq_true rfl]
  walk_at "rd"
  refine rd_isi rx.ty (kit_list d) ?_
  walk_at "rd"
  refine rd_isi ry.ty (kit_list d) ?_
  walk_at "rd"
  rw [decide_eq_true rfl]
  walk_at "rd"
  refine rd_isi rx.ty (kit_tuple d) ?_
  walk_at "rd"
  refine rd_isi ry.ty (kit_tuple d) ?_
  walk_at "rd"
  rw [decide_eq_true rfl]
  walk_at "rd"
  refine rd_isi ry.ty (kit_list d) ?_
  walk_at "rd"
  rcases ok with sc | ⟨ds, rfl, hl, hS⟩ | ⟨ds, rfl, hl, hS⟩
  ·have e1 : isD "list" d = false := by rcases sc with ⟨i, rfl⟩ | ⟨b, rfl⟩ | rfl | ⟨x, rfl, hx⟩ <;> simp [isD]
   have e2 : isD "tuple" d = false := by rcases sc with ⟨i, rfl⟩ | ⟨b, rfl⟩ | rfl | ⟨x, rfl, hx⟩ <;> simp [isD]
   rw [e1]
   walk_at "rd"
   refine rd_isi ry.ty (kit_tuple d) ?_
   rw [e2]
   walk_at "rd"
   refine rd_isi rx.ty (kit_str d) ?_
   walk_at "rd"
   refine rd_isi ry.ty (kit_str d) ?_
   walk_at "rd"
   rw [decide_eq_true rfl]
   walk_at "rd"
   have sd : SeqAt.shaped d = true := by rcases sc with ⟨i, rfl⟩ | ⟨b, rfl⟩ | rfl | ⟨x, rfl, hx⟩ <;> first | rfl | simp [SeqAt.shaped, PyData.canLay0, PyData.depth, hx]
   refine ⟨d, d, rx, ry, sd, sd, ?_⟩
   have e3 : PyData.eqv d d = true := by rcases sc with ⟨i, rfl⟩ | ⟨b, rfl⟩ | rfl | ⟨x, rfl, hx⟩ <;> simp [PyData.eqv]
   rw [e3]
   exact k _ (Same.refl _)
  ·have e1 : isD "list" (.list ds) = true := by simp [isD]
   rw [e1]
   simp only [Rep] at rx ry
   obtain ⟨a, xs, rfl, ha, ra⟩ := rx
   obtain ⟨b, ys, rfl, hb, rb⟩ := ry
   obtain ⟨l1, g1⟩ := repL_get ra
   obtain ⟨l2, g2⟩ := repL_get rb
   walk_at "rd"
   refine rd_lenL ha ?_
   walk_at "rd"
   refine rd_lenL hb ?_
   walk_at "rd"
   rw [decide_eq_true (by omega : (xs.length : Int) = ys.length)]
   walk_at "rd"
   refine ⟨a, b, rfl, .inl ⟨⟨_, SqL.of ha⟩, ⟨_, SqL.of hb⟩, fun l hn => ?_⟩⟩
   refine compW_zip (fun _ => .bl true) ha hb (by omega) (by omega) hn (fun i x y H' Q' ex ey s1 q => ?_) (fun H' s1 e => ?_)
   ·walk_at "rd"
    obtain ⟨d, hd, rd⟩ := g1 i x ex
    obtain ⟨d', hd', rd'⟩ := g2 i y ey
    rw [hd] at hd'
    cases hd'
    exact ⟨x, y, d, rfl, hS d (List.mem_of_getElem? hd), rd.mono s1, rd'.mono s1, q⟩
   ·walk_at "rd"
    have e' : H' l = some (.lst (((List.range xs.length).map fun _ => true).map V.bl)) := by rw [e, List.map_map]; rfl
    refine rd_all e' ?_
    have e4 : ((List.range xs.length).map fun _ => true).all id = true := by simp
    rw [e4]
    exact k H' s1
  ·have e1 : isD "list" (.tuple ds) = false := by simp [isD]
   have e2 : isD "tuple" (.tuple ds) = true := by simp [isD]
   rw [e1]
   walk_at "rd"
   refine rd_isi ry.ty (kit_tuple _) ?_
   rw [e2]
   simp only [Rep] at rx ry
   obtain ⟨a, xs, rfl, ha, ra⟩ := rx
   obtain ⟨b, ys, rfl, hb, rb⟩ := ry
   obtain ⟨l1, g1⟩ := repL_get ra
   obtain ⟨l2, g2⟩ := repL_get rb
   walk_at "rd"
   refine rd_lenT ha ?_
   walk_at "rd"
   refine rd_lenT hb ?_
   walk_at "rd"
   rw [decide_eq_true (by omega : (xs.length : Int) = ys.length)]
   walk_at "rd"
   refine ⟨a, b, rfl, .inr ⟨⟨_, SqT.of ha⟩, ⟨_, SqT.of hb⟩, fun l hn => ?_⟩⟩
   refine compW_zipT (fun _ => .bl true) ha hb (by omega) (by omega) hn (fun i x y H' Q' ex ey s1 q => ?_) (fun H' s1 e => ?_)
   ·walk_at "rd"
    obtain ⟨d, hd, rd⟩ := g1 i x ex
    obtain ⟨d', hd', rd'⟩ := g2 i y ey
    rw [hd] at hd'
    cases hd'
    exact ⟨x, y, d, rfl, hS d (List.mem_of_getElem? hd), rd.mono s1, rd'.mono s1, q⟩
   ·walk_at "rd"
    have e' : H' l = some (.lst (((List.range xs.length).map fun _ => true).map V.bl)) := by rw [e, List.map_map]; rfl
    refine rd_all e' ?_
    have e4 : ((List.range xs.length).map fun _ => true).all id = true := by simp
    rw [e4]
    exact k H' s1
def Ok3 : PyData → Prop := OkS (OkS (OkS fun _ => False))
theorem ok_Lsame (T : Txt K mg t) : FnOk P w K mg base CX0 3 t.f_Lsame t.d_Lsame ["_law_told", "_law_due"] (sp_same Ok3) :=
 same_step T (same_step T (same_step T ⟨fun vs H Q E h => (by obtain ⟨_, _, _, _, h, _⟩ := h; exact h.elim), fun A outer s H args us vs Q E _ _ _ _ h => (by obtain ⟨_, _, _, _, h, _⟩ := h; exact h.elim)⟩))
theorem okS_int {S : PyData → Prop} (i : Int) : OkS S (.int i) := .inl (.inl ⟨i, rfl⟩)
theorem okS_bool {S : PyData → Prop} (i : Bool) : OkS S (.bool i) := .inl (.inr (.inl ⟨i, rfl⟩))
theorem okS_str {S : PyData → Prop} {x : Str} (h : PyData.strOk x = true) : OkS S (.str x) := .inl (.inr (.inr (.inr ⟨x, rfl, h⟩)))
theorem okS_ints {S : PyData → Prop} {ns : List Int} (h : ns.length ≤ 1000) : OkS (OkS S) (.list (ns.map PyData.int)) :=
 .inr (.inl ⟨_, rfl, by rw [List.length_map]; exact h, fun e he => by obtain ⟨i, _, rfl⟩ := List.mem_map.mp he; exact okS_int i⟩)
end
section
variable {P : Program} {w : World} {K : PySem.W.Frag} {mg : Str → Option Value} {base : Heap} {t : Ad}
def sp_coloursacross (C : Addr) : Sp := fun vs H Q _ => ∃ (p : Addr) (y s : Int) (cs rs : List Int), vs = [.ref p, .int y] ∧ ClothAt C H p s cs rs ∧ Bits cs ∧ Bits rs ∧ 0 ≤ y ∧ y < (rs.length : Int) + 1 ∧
 ∀ l H', Same H H' → H l = none → H' l = some (.lst ((rowOf s cs rs y (cs.length + 1)).map V.int)) → Q (.ref l) H'
theorem ok_coloursacross (T : Txt K mg t) : FnOk P w K mg base CX0 6 t.f_coloursacross t.d_coloursacross ["cloth", "y"] (sp_coloursacross t.a_Cloth) := by
 have G_Clothcolour := ok_Clothcolour (P := P) (w := w) (base := base) T
 have G_Clothwide := ok_Clothwide (P := P) (w := w) (base := base) T
 refine T.F_coloursacross.ok sc_coloursacross (fun vs H Q E h => ?_) (fun cdv A outer s H vs Q E hr h => ?_)
 ·obtain ⟨p, y, s, cs, rs, rfl, _⟩ := h; rfl
 ·obtain ⟨p, y, s, cs, rs, rfl, hc, bc, br, y0, y1, k⟩ := h
  have lc := bc.1
  obtain ⟨dx, a, b, e1, e2, e3⟩ := hc.ob
  have nl : ∀ {w h : Int} {m : Str}, NoF m → (cfl s a b w h).lookup m = none := fun x => cfl_no _ _ _ x
  refine ⟨_, (pss_one (ps_ret (pe_comp (N := ["x", "y", "cloth"]) (cap := [none, some 1, some 0]) rfl ⟨rfl, rfl, rfl, rfl, rfl, rfl⟩ (pi_range1 rfl T.no_range (pa_cons (pe_meth0 (pv 0) T.cl_Cloth T.m_Clothwide G_Clothwide (hr.mono (by first | decide | omega)) T.b_Clothwide .nil pass0) pa_nil)) (fun _ _ _ => (pg_name (i := 0) (show (["x", "y", "cloth"] : List Str).Nodup by decide +kernel) rfl (Or.inl rfl))) (fun _ _ _ => pts_nil) (fun _ _ _ => (pe_meth (pv 2) T.cl_Cloth T.m_Clothcolour G_Clothcolour (hr.mono (by first | decide | omega)) T.b_Clothcolour .nil pass0 (pa_cons (pv 0) (pa_cons (pv 1) pa_nil))))))), ?_⟩
  walk_at "rd"
  refine rd_methv e1 (nl (by decide +kernel)) ?_
  walk_at "rd"
  refine ⟨p, s, cs, rs, rfl, hc, ?_⟩
  walk_at "rd"
  refine ⟨_, rfl, by omega, by omega, fun l hn => ?_⟩
  rw [show ((cs.length : Int) + 1).toNat = cs.length + 1 by omega]
  refine compW_range (fun i => .int (colr s cs rs (i : Nat) y)) (by omega) hn (fun i o H' Q' hi s1 q => ?_) (fun H' s1 e => ?_)
  ·walk_at "rd"
   refine rd_methv (s1 _ _ e1) (nl (by decide +kernel)) ?_
   walk_at "rd"
   rw [Int.zero_add]
   exact ⟨p, (i : Nat), y, s, cs, rs, rfl, hc.mono s1, bc, br, by omega, by omega, y0, y1, q⟩
  ·walk_at "rd"
   exact k l H' s1 hn (by rw [e]; unfold rowOf; rw [List.map_map]; rfl)
def sp_picture (C : Addr) : Sp := fun vs H Q _ => ∃ (p : Addr) (s : Int) (cs rs : List Int), vs = [.ref p] ∧ ClothAt C H p s cs rs ∧ Bits cs ∧ Bits rs ∧
 ∀ l (as : List Addr) H', Same H H' → H l = none → (∀ a ∈ as, H a = none) → H' l = some (.lst (as.map V.ref)) → as.length = rs.length + 1 → (∀ (i : Nat) a, as[i]? = some a → a ≠ l ∧ H' a = some (.lst ((rowOf s cs rs (i : Nat) (cs.length + 1)).map V.int))) → Q (.ref l) H'
theorem ok_picture (T : Txt K mg t) : FnOk P w K mg base CX0 9 t.f_picture t.d_picture ["cloth"] (sp_picture t.a_Cloth) := by
 have G_coloursacross := ok_coloursacross (P := P) (w := w) (base := base) T
 have G_Clothtall := ok_Clothtall (P := P) (w := w) (base := base) T
 refine T.F_picture.ok sc_picture (fun vs H Q E h => ?_) (fun cdv A outer s H vs Q E hr h => ?_)
 ·obtain ⟨p, s, cs, rs, rfl, _⟩ := h; rfl
 ·obtain ⟨p, s, cs, rs, rfl, hc, bc, br, k⟩ := h
  have lr := br.1
  obtain ⟨dx, a, b, e1, e2, e3⟩ := hc.ob
  have nl : ∀ {w h : Int} {m : Str}, NoF m → (cfl s a b w h).lookup m = none := fun x => cfl_no _ _ _ x
  refine ⟨_, (pss_one (ps_ret (pe_comp (N := ["y", "cloth"]) (cap := [none, some 0]) rfl ⟨rfl, rfl, rfl, rfl, rfl, rfl⟩ (pi_range1 rfl T.no_range (pa_cons (pe_meth0 (pv 0) T.cl_Cloth T.m_Clothtall G_Clothtall (hr.mono (by first | decide | omega)) T.b_Clothtall .nil pass0) pa_nil)) (fun _ _ _ => (pg_name (i := 0) (show (["y", "cloth"] : List Str).Nodup by decide +kernel) rfl (Or.inl rfl))) (fun _ _ _ => pts_nil) (fun _ _ _ => (pe_call G_coloursacross (hr.mono (by first | decide | omega)) rfl T.mg_coloursacross T.F_coloursacross.kp T.b_coloursacross .nil pass0 (pa_cons (pv 1) (pa_cons (pv 0) pa_nil))))))), ?_⟩
  walk_at "rd"
  refine rd_methv e1 (nl (by decide +kernel)) ?_
  walk_at "rd"
  refine ⟨p, s, cs, rs, rfl, hc, ?_⟩
  walk_at "rd"
  refine ⟨_, rfl, by omega, by omega, fun l hn => ?_⟩
  rw [show ((rs.length : Int) + 1).toNat = rs.length + 1 by omega]
  refine compW_rangeR (fun i v H' => ∃ a, v = .ref a ∧ H a = none ∧ a ≠ l ∧ H' a = some (.lst ((rowOf s cs rs (i : Nat) (cs.length + 1)).map V.int))) (by omega) hn ?_ (fun i o H' Q' hi s1 ys q => ?_) (fun ys H' s1 e ly hR => ?_)
  ·rintro i v H1 H2 sb ⟨a, rfl, h1, h2, h3⟩
   exact ⟨a, rfl, h1, h2, sb _ _ h3 h2⟩
  ·walk_at "rd"
   rw [Int.zero_add]
   refine ⟨p, (i : Nat), s, cs, rs, rfl, hc.mono s1, bc, br, by omega, by omega, fun l2 H5 s5 n5 e5 => ?_⟩
   exact q _ H5 s5 ⟨l2, rfl, s1.free n5, fun z => (by obtain ⟨ys, hy⟩ := ys; rw [z, hy] at n5; cases n5), e5⟩
  ·walk_at "rd"
   obtain ⟨as, rfl, ha⟩ := refs_of (R := fun i a => H a = none ∧ a ≠ l ∧ H' a = some (.lst ((rowOf s cs rs (i : Nat) (cs.length + 1)).map V.int))) hR
   rw [List.length_map] at ly
   refine k l as H' s1 hn (fun x hx => ?_) e ly fun i x hx => ⟨(ha i x hx).2.1, (ha i x hx).2.2⟩
   obtain ⟨i, hi, rfl⟩ := List.mem_iff_getElem.mp hx
   exact (ha i _ (List.getElem?_eq_getElem hi)).1
end
section
variable {P : Program} {w : World} {K : PySem.W.Frag} {mg : Str → Option Value} {base : Heap} {t : Ad}
def wdT (rows : List (List Int)) : Nat := (rows.getD 0 []).length
def GoodT (rows : List (List Int)) : Prop := (0 < rows.length ∧ rows.length < 41) ∧ (0 < wdT rows ∧ wdT rows < 41) ∧ ∀ r ∈ rows, r.length = wdT rows
def bitsT (rows : List (List Int)) : Bool := rows.all fun r => r.all isBit
theorem tbl_at {H : Hp} {l : Addr} {rows : List (List Int)} (h : TblAt H l rows) : ∃ xs : List V, H l = some (.lst xs) ∧ xs.length = rows.length ∧ ∀ (i : Nat) v r, xs[i]? = some v → rows[i]? = some r → ∃ a, v = .ref a ∧ H a = some (.lst (r.map V.int)) := by
 obtain ⟨as, h1, h2, h3⟩ := h.ob
 refine ⟨_, h1, by rw [List.length_map]; exact h2, fun i v r e1 e2 => ?_⟩
 rw [List.getElem?_map] at e1
 obtain ⟨a, ea, rfl⟩ := Option.map_eq_some_iff.mp e1
 exact ⟨a, rfl, (h3 i a r ea e2).2⟩
def spx_needtable (BS BB : Addr) : Sp := fun vs H Q E => ∃ (l : Addr) (rows : List (List Int)), vs = [.ref l] ∧ TblAt H l rows ∧ rows.length ≤ 1000 ∧ (∀ r ∈ rows, r.length ≤ 1000) ∧
 (¬ GoodT rows → ∀ H', Same H H' → E (.ref BS) none H') ∧ (GoodT rows → bitsT rows = false → ∀ H', Same H H' → E (.ref BB) none H') ∧ (GoodT rows → bitsT rows = true → ∀ H', Same H H' → Q .non H')
theorem isSide_iff {n : Nat} : isSide (n : Int) = true ↔ 0 < n ∧ n < 41 := by
 unfold isSide
 rw [Bool.and_eq_true, decide_eq_true_eq, decide_eq_true_eq]; omega
theorem okx_needtable (T : Txt K mg t) : FnOk P w K mg base (CX1 P w) 6 t.f_needtable t.d_needtable ["table"] (spx_needtable t.a_BadSize t.a_BadBit) := by
 have G_isside := ok_isside (P := P) (w := w) (base := base) T
 have G_allbits := ok_allbits (P := P) (w := w) (base := base) T
 refine T.F_needtable.ok1 sc_needtable (fun vs H Q E h => ?_) (fun cdv A outer s H vs Q E hr h => ?_)
 ·obtain ⟨l, rows, rfl, _⟩ := h; rfl
 ·obtain ⟨l, rows, rfl, tb, lr, lw, k1, k2, k3⟩ := h
  obtain ⟨xs, hl, lx, it⟩ := tbl_at tb
  have gt : ∀ {i : Nat} {x : V}, xs[i]? = some x → ∃ r a, rows[i]? = some r ∧ x = .ref a ∧ H a = some (.lst (r.map V.int)) := fun {i x} hx => by
   have hi : i < rows.length := by rw [← lx]; exact (List.getElem?_eq_some_iff.mp hx).1
   obtain ⟨a, e, ha⟩ := it i x _ hx (List.getElem?_eq_getElem hi)
   exact ⟨_, a, List.getElem?_eq_getElem hi, e, ha⟩
  refine cutC (ps_setC (i := 1) sc_needtable.nd rfl (Or.inl rfl) (N := ["row"]) (cap := [none]) rfl ⟨rfl, rfl, rfl, rfl, rfl, rfl⟩ (pi_list (pv 0)) (fun _ _ _ => (pg_name (i := 0) (show (["row"] : List Str).Nodup by decide +kernel) rfl (Or.inl rfl))) (fun _ _ _ => pts_nil) (fun _ _ _ => (pe_callB (cI_lenK K rfl) rfl T.no_len (by rfl) (pa_cons (pv 0) pa_nil))) (by rfl)) fun _ _ => cutC (ps_if (PW.pt (pw_or (pt_not (pt_val (pe_call G_isside.up (hr.mono (by first | decide | omega)) rfl T.mg_isside T.F_isside.kp T.b_isside .nil pass1 (pa_cons (pe_callB (cI_lenK K rfl) rfl T.no_len (by rfl) (pa_cons (pv 1) pa_nil)) pa_nil)))) (pw_or (pt_not (pt_val (pe_call G_isside.up (hr.mono (by first | decide | omega)) rfl T.mg_isside T.F_isside.kp T.b_isside .nil pass1 (pa_cons (pe_ix (ix_listK K rfl) (pv 1) pe_int (fun _ _ => rfl)) pa_nil)))) (pw_or1 (pt_cmpR op_ne (pe_bm PySem.F.plainAttrs_list PySem.F.slot_list_count PySem.F.type_list_count mt_countI (pv 1) (pa_cons (pe_ix (ix_listK K rfl) (pv 1) pe_int (fun _ _ => rfl)) pa_nil)) (pe_callB (cI_lenK K rfl) rfl T.no_len (by rfl) (pa_cons (pv 1) pa_nil)) (nomark _)))))) (pss_one (ps_raiseK T.mg_BadSize T.x_BadSize PySem.F.excBase_ValueError rfl rfl (fun _ _ _ _ _ _ _ _ I m q => xe_new I m q) (pa_cons pe_str pa_nil))) pss_nil) fun _ _ => cutE (ps_if (pt_not (pt_val (pe_callB (cI_allK K rfl rfl) rfl T.no_all (by rfl) (pa_cons (pe_comp (N := ["row"]) (cap := [none]) rfl ⟨rfl, rfl, rfl, rfl, rfl, rfl⟩ (pi_list (pv 0)) (fun _ _ _ => (pg_name (i := 0) (show (["row"] : List Str).Nodup by decide +kernel) rfl (Or.inl rfl))) (fun _ _ _ => pts_nil) (fun _ _ _ => (pe_call G_allbits (hr.mono (by first | decide | omega)) rfl T.mg_allbits T.F_allbits.kp T.b_allbits .nil pass0 (pa_cons (pv 0) pa_nil)))) pa_nil)))) (pss_one (ps_raiseK T.mg_BadBit T.x_BadBit PySem.F.excBase_ValueError rfl rfl (fun _ _ _ _ _ _ _ _ I m q => xe_new I m q) (pa_cons pe_str pa_nil))) pss_nil) fun _ _ => ?_
  walk_at "rd"
  refine ⟨⟨_, SqL.of hl⟩, fun l1 n1 => ?_⟩
  refine compW_listL ((rows.map fun r => (r.length : Int)).map V.int) (by rw [List.length_map, List.length_map, lx]) (SqL.of hl) (by omega) n1 (fun i x y o H' Q' hx hy s1 q => ?_) (fun H1 s1 e1 => ?_)
  ·obtain ⟨r, a, hr, rfl, ha⟩ := gt hx
   rw [List.getElem?_map, List.getElem?_map, hr] at hy
   cases hy
   walk_at "rd"
   refine rd_lenL (s1 _ _ ha) ?_
   rw [List.length_map]
   exact q H' (Same.refl _)
  ·walk_at "rd"
   refine rd_lenL e1 ?_
   rw [List.length_map, List.length_map]
   walk_at "rd"
   refine ⟨_, rfl, ?_⟩
   by_cases c1 : 0 < rows.length ∧ rows.length < 41
   ·rw [isSide_iff.mpr c1]
    walk_at "rd"
    have e0 : (rows.map fun r => (r.length : Int)).getD (0 : Int).toNat 0 = (wdT rows : Nat) := by
     unfold wdT
     rw [show (0 : Int).toNat = 0 from rfl, List.getD_eq_getElem?_getD, List.getElem?_map, List.getD_eq_getElem?_getD, List.getElem?_eq_getElem c1.1]; rfl
    refine rd_ixL (SqL.of e1) (atI_ints (i := 0) (by decide) (by rw [List.length_map]; omega)) ?_
    rw [e0]
    walk_at "rd"
    refine ⟨_, rfl, ?_⟩
    by_cases c2 : 0 < wdT rows ∧ wdT rows < 41
    ·rw [isSide_iff.mpr c2]
     walk_at "rd"
     refine rd_bmL e1 ?_
     walk_at "rd"
     refine rd_ixL (SqL.of e1) (atI_ints (i := 0) (by decide) (by rw [List.length_map]; omega)) ?_
     rw [e0]
     walk_at "rd"
     refine rd_countI e1 ?_
     walk_at "rd"
     refine rd_lenL e1 ?_
     rw [List.length_map, List.length_map]
     walk_at "rd"
     have hc : (rows.map fun r => (r.length : Int)).count ((wdT rows : Nat) : Int) = rows.length ↔ ∀ r ∈ rows, r.length = wdT rows := by
      rw [show rows.length = (rows.map fun r => (r.length : Int)).length by rw [List.length_map], List.count_eq_length]
      constructor
      ·intro h r hr
       have := h _ (List.mem_map.mpr ⟨r, hr, rfl⟩)
       omega
      ·intro h b hb
       obtain ⟨r, hr, rfl⟩ := List.mem_map.mp hb
       rw [h r hr]
     by_cases c3 : ∀ r ∈ rows, r.length = wdT rows
     ·rw [hc.mpr c3, decide_eq_true rfl]
      walk_at "rd"
      refine ⟨⟨_, SqL.of (s1 _ _ hl)⟩, fun l2 n2 => ?_⟩
      refine compW_listL ((rows.map fun r => r.all isBit).map V.bl) (by rw [List.length_map, List.length_map, lx]) (SqL.of (s1 _ _ hl)) (by omega) n2 (fun i x y o H' Q' hx hy s2 q => ?_) (fun H2 s2 e2 => ?_)
      ·obtain ⟨r, a, hr, rfl, ha⟩ := gt hx
       rw [List.getElem?_map, List.getElem?_map, hr] at hy
       cases hy
       walk_at "rd"
       exact ⟨a, r, rfl, s2 _ _ (s1 _ _ ha), lw r (List.mem_of_getElem? hr), fun H3 s3 => q H3 s3⟩
      ·walk_at "rd"
       refine rd_all e2 ?_
       rw [List.all_map]
       have eb : rows.all (id ∘ fun r => r.all isBit) = bitsT rows := rfl
       rw [eb]
       cases hb : bitsT rows with
       | true =>
        walk_at "rd"
        exact k3 ⟨c1, c2, c3⟩ hb H2 (s1.trans s2)
       | false =>
        walk_at "rd"
        exact ⟨by show 1 ≤ sizeLine; decide, k2 ⟨c1, c2, c3⟩ hb H2 (s1.trans s2)⟩
     ·rw [decide_eq_false (fun z => c3 (hc.mp (by omega)))]
      walk_at "rd"
      exact ⟨by show 1 ≤ sizeLine; decide, k1 (fun g => c3 g.2.2) H1 s1⟩
    ·rw [Bool.eq_false_iff.mpr (fun z => c2 (isSide_iff.mp z))]
     walk_at "rd"
     exact ⟨by show 1 ≤ sizeLine; decide, k1 (fun g => c2 g.2.1) H1 s1⟩
   ·rw [Bool.eq_false_iff.mpr (fun z => c1 (isSide_iff.mp z))]
    walk_at "rd"
    exact ⟨by show 1 ≤ sizeLine; decide, k1 (fun g => c1 g.1) H1 s1⟩
def getT (rows : List (List Int)) (y x : Nat) : Int := (rows.getD y []).getD x 0
def evB (rows : List (List Int)) (x y : Nat) : Bool := decide ((getT rows y x + getT rows y (x + 1) + (getT rows (y + 1) x + getT rows (y + 1) (x + 1))) % 2 = 0)
theorem cut2 {r : List Int} {x : Nat} (h : x + 1 < r.length) : cutV (r.map V.int) (some (x : Int)) (some ((x : Int) + 2)) = [r.getD x 0, r.getD (x + 1) 0].map V.int := by
 unfold cutV
 rw [show ((x : Int) + 2) = ((x + 2 : Nat) : Int) by omega, HT.sIx_nat, HT.sIx_nat, List.length_map, Nat.min_eq_left (by omega), Nat.min_eq_left (by omega), show x + 2 - x = 2 by omega]
 rw [← List.map_drop, ← List.map_take]
 congr 1
 have e1 := List.drop_eq_getElem_cons (show x < r.length by omega)
 have e2 := List.drop_eq_getElem_cons h
 rw [e1, e2, List.getD_eq_getElem?_getD, List.getD_eq_getElem?_getD, List.getElem?_eq_getElem h, List.getElem?_eq_getElem (show x < r.length by omega)]
 rfl
theorem goodT_row {rows : List (List Int)} (g : GoodT rows) (b : bitsT rows = true) {y : Nat} (hy : y < rows.length) : (rows.getD y []).length = wdT rows ∧ ∀ z ∈ rows.getD y [], z = 0 ∨ z = 1 := by
 have hm : rows.getD y [] ∈ rows := by rw [List.getD_eq_getElem?_getD, List.getElem?_eq_getElem hy]; exact List.getElem_mem hy
 refine ⟨g.2.2 _ hm, fun z hz => ?_⟩
 have := List.all_eq_true.mp (List.all_eq_true.mp b _ hm) z hz
 unfold isBit at this
 rw [Bool.and_eq_true, decide_eq_true_eq, decide_eq_true_eq] at this
 omega
theorem getD_bit {r : List Int} (h : ∀ z ∈ r, z = 0 ∨ z = 1) (i : Nat) : r.getD i 0 = 0 ∨ r.getD i 0 = 1 := by
 rw [List.getD_eq_getElem?_getD]
 cases e : r[i]? with
 | none => exact .inl rfl
 | some z => exact h z (List.mem_of_getElem? e)
def sp_iseven : Sp := fun vs H Q _ => ∃ (l : Addr) (rows : List (List Int)) (x y : Nat), vs = [.ref l, .int x, .int y] ∧ TblAt H l rows ∧ GoodT rows ∧ bitsT rows = true ∧ x + 1 < wdT rows ∧ y + 1 < rows.length ∧ ∀ H', Same H H' → Q (.bl (evB rows x y)) H'
theorem ok_iseven (T : Txt K mg t) : FnOk P w K mg base CX0 1 t.f_iseven t.d_iseven ["table", "x", "y"] sp_iseven := by
 refine T.F_iseven.ok sc_iseven (fun vs H Q E h => ?_) (fun cdv A outer s H vs Q E hr h => ?_)
 ·obtain ⟨l, rows, x, y, rfl, _⟩ := h; rfl
 ·obtain ⟨l, rows, x, y, rfl, tb, g, b, hx, hy, k⟩ := h
  obtain ⟨w1, b1⟩ := goodT_row g b (show y < rows.length by omega)
  obtain ⟨w2, b2⟩ := goodT_row g b hy
  have small : ∀ {r : List Int}, (∀ z ∈ r, z = 0 ∨ z = 1) → SmallSum [r.getD x 0, r.getD (x + 1) 0] := fun {r} h => bits_small (fun z hz => by
   simp only [List.mem_cons, List.not_mem_nil, or_false] at hz
   rcases hz with rfl | rfl
   ·exact getD_bit h x
   ·exact getD_bit h (x + 1)) (by show 2 ≤ 1000; decide)
  obtain ⟨xs, a1, e1, e2, e3⟩ := tb.row (i := (y : Int)) (by omega) (by omega)
  rw [Int.toNat_natCast] at e3
  refine ⟨_, (pss_one (ps_ret (pe_cmpR op_eq (pe_op op_mod (pe_op op_add (pe_callB (cI_sumK K rfl rfl) rfl T.no_sum (by rfl) (pa_cons (pe_slice (sl_listK K rfl) (pe_ix (ix_listK K rfl) (pv 0) (pv 2) (fun _ _ => rfl)) (po_some (pv 1)) (po_some (pe_op op_add (pv 1) pe_int))) pa_nil)) (pe_callB (cI_sumK K rfl rfl) rfl T.no_sum (by rfl) (pa_cons (pe_slice (sl_listK K rfl) (pe_ix (ix_listK K rfl) (pv 0) (pe_op op_add (pv 2) pe_int) (fun _ _ => rfl)) (po_some (pv 1)) (po_some (pe_op op_add (pv 1) pe_int))) pa_nil))) pe_int) pe_int (nomark _)))), ?_⟩
  walk_at "rd"
  refine rd_ixL (SqL.of e1) e2 ?_
  walk_at "rd"
  refine rd_slS e3 fun u1 H1 s1 _ f1 => ?_
  rw [cut2 (by omega)] at f1
  walk_at "rd"
  refine rd_sumL f1 (small b1) ?_
  walk_at "rd"
  obtain ⟨xs', a2, g1, g2, g3⟩ := (tb.mono s1).row (i := (y : Int) + 1) (by omega) (by omega)
  rw [show ((y : Int) + 1).toNat = y + 1 by omega] at g3
  refine rd_ixL (SqL.of g1) g2 ?_
  walk_at "rd"
  refine rd_slS g3 fun u2 H2 s2 _ f2 => ?_
  rw [cut2 (by omega)] at f2
  walk_at "rd"
  refine rd_sumL f2 (small b2) ?_
  walk_at "rd"
  refine rd_I (by decide) ?_
  walk_at "rd"
  have := k H2 (s1.trans s2)
  unfold evB getT at this
  have e : ∀ p q : Int, [p, q].sum = p + q := fun p q => by simp
  rw [e, e]
  exact this
end
section
theorem small1000' {n : Nat} (h : n < 2000) : n < sizeLine := Nat.lt_of_lt_of_le h (by decide)
def Pt (H : Hp) (v : V) (q : Int × Int) : Prop := ∃ a, v = .ref a ∧ H a = some (.tup [.int q.1, .int q.2])
theorem Pt.mono {H H' : Hp} {v : V} {q : Int × Int} (s : Same H H') (h : Pt H v q) : Pt H' v q := by
 obtain ⟨a, rfl, ha⟩ := h
 exact ⟨a, rfl, s _ _ ha⟩
theorem Pt.upd {H : Hp} {v : V} {q : Int × Int} {l : Addr} {u o : HO} (h : Pt H v q) (e : H l = some u) (ne : ∀ ys, HO.tup ys ≠ u) : Pt (upd H l o) v q := by
 obtain ⟨a, rfl, ha⟩ := h
 exact ⟨a, rfl, by rw [upd_ne (ne_of ha e (ne _))]; exact ha⟩
def PwPt (H : Hp) (xs : List V) (ps : List (Int × Int)) : Prop := xs.length = ps.length ∧ ∀ (i : Nat) v q, xs[i]? = some v → ps[i]? = some q → Pt H v q
theorem PwPt.mono {H H' : Hp} {xs : List V} {ps : List (Int × Int)} (s : Same H H') (h : PwPt H xs ps) : PwPt H' xs ps := ⟨h.1, fun i v q h1 h2 => (h.2 i v q h1 h2).mono s⟩
theorem PwPt.upd {H : Hp} {xs : List V} {ps : List (Int × Int)} {l : Addr} {u o : HO} (h : PwPt H xs ps) (e : H l = some u) (ne : ∀ ys, HO.tup ys ≠ u) : PwPt (upd H l o) xs ps := ⟨h.1, fun i v q h1 h2 => (h.2 i v q h1 h2).upd e ne⟩
theorem PwPt.nil {H : Hp} : PwPt H [] [] := ⟨rfl, fun i v q h => by simp at h⟩
theorem PwPt.inv {H : Hp} {xs : List V} {p : Int × Int} {ps : List (Int × Int)} (h : PwPt H xs (p :: ps)) : ∃ v r, xs = v :: r ∧ Pt H v p ∧ PwPt H r ps := by
 match xs, h with
 | [], h => have := h.1; simp at this
 | v :: r, h => exact ⟨v, r, rfl, h.2 0 v p rfl rfl, by have := h.1; simp only [List.length_cons] at this; omega, fun i v' q' e1 e2 => h.2 (i + 1) v' q' (by simpa using e1) (by simpa using e2)⟩
theorem PwPt.snoc {H : Hp} {xs : List V} {ps : List (Int × Int)} {v : V} {q : Int × Int} (h : PwPt H xs ps) (hv : Pt H v q) : PwPt H (xs ++ [v]) (ps ++ [q]) := by
 refine ⟨by rw [List.length_append, List.length_append, h.1]; rfl, fun i v' q' h1 h2 => ?_⟩
 by_cases hi : i < xs.length
 ·rw [List.getElem?_append_left hi] at h1
  rw [List.getElem?_append_left (by rw [← h.1]; exact hi)] at h2
  exact h.2 i v' q' h1 h2
 ·rw [List.getElem?_append_right (by omega)] at h1
  rw [List.getElem?_append_right (by rw [← h.1]; omega), ← h.1] at h2
  cases hk : i - xs.length with
  | zero =>
   rw [hk] at h1 h2
   simp only [List.getElem?_cons_zero, Option.some.injEq] at h1 h2
   rw [← h1, ← h2]; exact hv
  | succ k => rw [hk] at h1; simp at h1
end
section
variable {P : Program} {w : World} {K : PySem.W.Frag} {mg : Str → Option Value} {base : Heap} {t : Ad}
def evRow (rows : List (List Int)) (n y : Nat) : List (Int × Int) := ((List.range n).filter fun x => evB rows x y).map fun x => (((x : Nat) : Int), ((y : Nat) : Int))
def evs (rows : List (List Int)) : Nat → List (Int × Int)
 | 0 => []
 | n + 1 => evs rows n ++ evRow rows (wdT rows - 1) n
theorem evRow_len (rows : List (List Int)) (n y : Nat) : (evRow rows n y).length ≤ n := by
 unfold evRow
 rw [List.length_map]
 exact Nat.le_trans (List.length_filter_le _ _) (by rw [List.length_range]; exact Nat.le_refl _)
theorem evs_len (rows : List (List Int)) : ∀ n, (evs rows n).length ≤ n * (wdT rows - 1)
 | 0 => Nat.zero_le _
 | n + 1 => by
  have h1 := evs_len rows n
  have h2 := evRow_len rows (wdT rows - 1) n
  show (evs rows n ++ evRow rows (wdT rows - 1) n).length ≤ _
  rw [List.length_append, Nat.succ_mul]
  omega
theorem evs_small {rows : List (List Int)} {n : Nat} (hn : n ≤ 40) (hw : wdT rows < 41) : (evs rows n).length ≤ 1600 := by
 have h1 := evs_len rows n
 have h2 : n * (wdT rows - 1) ≤ 40 * 40 := Nat.mul_le_mul hn (by omega)
 omega
theorem PwPt.append {H : Hp} {xs ys : List V} {ps qs : List (Int × Int)} (h : PwPt H xs ps) (h' : PwPt H ys qs) : PwPt H (xs ++ ys) (ps ++ qs) := by
 refine ⟨by rw [List.length_append, List.length_append, h.1, h'.1], fun i v q e1 e2 => ?_⟩
 by_cases hi : i < xs.length
 ·rw [List.getElem?_append_left hi] at e1
  rw [List.getElem?_append_left (by rw [← h.1]; exact hi)] at e2
  exact h.2 i v q e1 e2
 ·rw [List.getElem?_append_right (by omega)] at e1
  rw [List.getElem?_append_right (by rw [← h.1]; omega), ← h.1] at e2
  exact h'.2 _ v q e1 e2
def sp_needtable : Sp := fun vs H Q _ => ∃ (l : Addr) (rows : List (List Int)), vs = [.ref l] ∧ TblAt H l rows ∧ GoodT rows ∧ bitsT rows = true ∧ ∀ H', Same H H' → Q .non H'
theorem ok_needtable (T : Txt K mg t) : FnOk P w K mg base CX0 6 t.f_needtable t.d_needtable ["table"] sp_needtable :=
 (okx_needtable T).down fun vs H Q E hh => by
  obtain ⟨l, rows, e, tb, g, b, k⟩ := hh
  obtain ⟨⟨g1, g2⟩, ⟨g3, g4⟩, g5⟩ := id g
  exact ⟨l, rows, e, tb, by omega, fun r hr => by rw [g5 r hr]; omega, fun n => absurd g n, fun _ z => (by rw [b] at z; cases z), fun _ _ => k⟩
def sp_evenblocks : Sp := fun vs H Q _ => ∃ (l : Addr) (rows : List (List Int)), vs = [.ref l] ∧ TblAt H l rows ∧ GoodT rows ∧ bitsT rows = true ∧ ∀ lf xs H', Same H H' → H lf = none → H' lf = some (.lst xs) → PwPt H' xs (evs rows (rows.length - 1)) → Q (.ref lf) H'
theorem ok_evenblocks (T : Txt K mg t) : FnOk P w K mg base CX0 7 t.f_evenblocks t.d_evenblocks ["table"] sp_evenblocks := by
  have G_needtable := ok_needtable (P := P) (w := w) (base := base) T
  have G_iseven := ok_iseven (P := P) (w := w) (base := base) T
  refine T.F_evenblocks.ok sc_evenblocks (fun vs H Q E h => ?_) (fun cdv A outer s H vs Q E hr h => ?_)
  · obtain ⟨l, rows, rfl, _⟩ := h; rfl
  · obtain ⟨l, rows, rfl, tb, g, b, k3⟩ := h
    refine cutC (ps_expr (pe_call G_needtable (hr.mono (by first | decide | omega)) rfl T.mg_needtable T.F_needtable.kp T.b_needtable .nil pass0 (pa_cons (pv 0) pa_nil))) fun _ _ => cutC (ps_set (i := 1) sc_evenblocks.nd rfl (Or.inl rfl) (pe_lst pa_nil)) fun _ _ => cutC (ps_for PassesOwn.never rfl (pi_range1 rfl T.no_range (pa_cons (pe_op op_sub (pe_callB (cI_lenK K rfl) rfl T.no_len (by rfl) (pa_cons (pv 0) pa_nil)) pe_int) pa_nil)) (pg_name (i := 2) sc_evenblocks.nd rfl (Or.inr rfl)) (pss_one (ps_expr (pe_bm PySem.F.plainAttrs_list PySem.F.slot_list_extend PySem.F.type_list_extend mt_extend (pv 1) (pa_cons (pe_comp (N := ["x", "y", "table"]) (cap := [none, some 2, some 0]) rfl ⟨rfl, rfl, rfl, rfl, rfl, rfl⟩ (pi_range1 rfl T.no_range (pa_cons (pe_op op_sub (pe_callB (cI_lenK K rfl) rfl T.no_len (by rfl) (pa_cons (pe_ix (ix_listK K rfl) (pv 0) (pv 2) (fun _ _ => rfl)) pa_nil)) pe_int) pa_nil)) (fun _ _ _ => (pg_name (i := 0) (show (["x", "y", "table"] : List Str).Nodup by decide +kernel) rfl (Or.inl rfl))) (fun _ _ _ => (pts_one (pt_val (pe_call G_iseven (hr.mono (by first | decide | omega)) rfl T.mg_iseven T.F_iseven.kp T.b_iseven .nil pass0 (pa_cons (pv 2) (pa_cons (pv 0) (pa_cons (pv 1) pa_nil))))))) (fun _ _ _ => (pe_tup (pa_cons (pv 0) (pa_cons (pv 1) pa_nil))))) pa_nil))))) fun _ _ => cutE (ps_ret (pv 1)) fun _ _ => ?_
    walk_at "rd"
    refine ⟨l, rows, rfl, tb, g, b, fun H1 s1 => ?_⟩
    obtain ⟨⟨g1, g2⟩, ⟨g3, g4⟩, _⟩ := id g
    walk_at "rd"
    refine ⟨by show 0 ≤ sizeLine; decide, fun lf nlf => ?_⟩
    have slf := Same.new (o := HO.lst []) nlf
    have elf := upd_same (H := H1) (a := lf) (o := HO.lst [])
    generalize upd H1 lf (HO.lst []) = H2 at slf elf ⊢
    have s2 := s1.trans slf
    have nlf0 : H lf = none := s1.free nlf
    have tb2 := tb.mono s2
    obtain ⟨xs0, hl2, lx2, _⟩ := tbl_at tb2
    walk_at "rd"
    refine rd_lenL hl2 ?_
    rw [lx2]
    walk_at "rd"
    refine ⟨_, rfl, by omega, by omega, ?_⟩
    rw [show (((rows.length : Nat) : Int) - 1).toNat = rows.length - 1 by omega]
    refine forW_range (fun i σ' H' => ∃ (oy : Option V) (xs : List V), σ' = [some (.ref l), some (.ref lf), oy] ∧ Same H H' ∧ H' lf = some (.lst xs) ∧ PwPt H' xs (evs rows i)) ⟨none, [], rfl, s2, elf, PwPt.nil⟩ ?_ ?_
    · rintro i σ' H3 hi ⟨oy, xs, rfl, s3, e3, pw3⟩
      rw [Int.zero_add]
      have tb3 := tb.mono s3
      walk_at "rd"
      refine rd_bmL e3 ?_
      obtain ⟨xs1, a1, q1, q2, q3⟩ := tb3.row (i := ((i : Nat) : Int)) (by omega) (by omega)
      rw [Int.toNat_natCast] at q3
      obtain ⟨w1, _⟩ := goodT_row g b (show i < rows.length by omega)
      walk_at "rd"
      refine rd_ixL (SqL.of q1) q2 ?_
      walk_at "rd"
      refine rd_lenL q3 ?_
      rw [List.length_map, w1]
      walk_at "rd"
      refine ⟨_, rfl, by omega, by omega, fun lc nlc => ?_⟩
      rw [show (((wdT rows : Nat) : Int) - 1).toNat = wdT rows - 1 by omega]
      refine compW_rangeF (fun x => evB rows x i) (fun m v H' => Pt H' v (((m : Nat) : Int), ((i : Nat) : Int)) ∧ v ≠ .ref lc) (by omega) nlc (fun m v Ha Hb sb q => ?_) (fun x o H' Q' hx s4 q => ?_) (fun x o H' Q' hx _ s4 hlc q => ?_) (fun ys H4 s4 e4 ly hR => ?_)
      · obtain ⟨⟨a, rfl, ha⟩, hne⟩ := q
        exact ⟨⟨a, rfl, sb _ _ ha fun z => hne (by rw [z])⟩, hne⟩
      · rw [Int.zero_add]
        walk_at "rd"
        exact ⟨l, rows, x, i, rfl, tb3.mono s4, g, b, by omega, by omega, fun H5 s5 => ⟨_, rfl, q H5 s5⟩⟩
      · rw [Int.zero_add]
        walk_at "rd"
        refine ⟨by show 2 ≤ sizeLine; decide, fun a na => ?_⟩
        obtain ⟨zz, hzz⟩ := hlc
        exact q (.ref a) _ (Same.new na) ⟨⟨a, rfl, upd_same⟩, fun z => by injection z with z; rw [z] at na; rw [na] at hzz; cases hzz⟩
      · have pw4 : PwPt H4 ys (evRow rows (wdT rows - 1) i) := by
          unfold evRow
          refine ⟨by rw [List.length_map]; exact ly, fun j v q e1 e2 => ?_⟩
          obtain ⟨m, hm, h1, _⟩ := hR j v e1
          rw [List.getElem?_map, hm] at e2
          cases e2
          exact h1
        walk_at "rd"
        refine ⟨lf, lc, xs, ys, rfl, rfl, s4 _ _ e3, e4, ?_, ?_⟩
        · rw [pw3.1, pw4.1]
          have h1 := evs_small (rows := rows) (n := i) (by omega) g4
          have h2 := evRow_len rows (wdT rows - 1) i
          exact Nat.le_of_lt (small1000' (by omega))
        · have nt : ∀ ys', HO.tup ys' ≠ HO.lst xs := fun _ z => by cases z
          walk_at "rd"
          refine ⟨_, _, rfl, fun c o e => ?_, upd_same, ((pw3.mono s4).append pw4).upd (s4 _ _ e3) nt⟩
          rw [upd_ne (ne_of_none e nlf0)]
          exact s4 _ _ (s3 _ _ e)
    · rintro σ' H3 ⟨oy, xs, rfl, s3, e3, pw3⟩
      walk_at "rd"
      exact k3 lf xs H3 s3 nlf0 e3 pw3
end
section
variable {P : Program} {w : World} {K : PySem.W.Frag} {mg : Str → Option Value} {base : Heap} {t : Ad}
theorem cnt4 {a b c d : Int} (ha : a = 0 ∨ a = 1) (hb : b = 0 ∨ b = 1) (hc : c = 0 ∨ c = 1) (hd : d = 0 ∨ d = 1) : inV (.int ([a, b, c, d].count 1 : Nat)) [V.int 0, V.int 2, V.int 4] = decide ((a + b + (c + d)) % 2 = 0) := by
 rcases ha with rfl | rfl <;> rcases hb with rfl | rfl <;> rcases hc with rfl | rfl <;> rcases hd with rfl | rfl <;> decide +kernel
theorem evRow_succ (rows : List (List Int)) (n y : Nat) : evRow rows (n + 1) y = evRow rows n y ++ (if evB rows n y = true then [(((n : Nat) : Int), ((y : Nat) : Int))] else []) := by
 unfold evRow
 rw [List.range_succ, List.filter_append, List.map_append]
 congr 1
 cases h : evB rows n y <;> simp [h]
def sp_Leven : Sp := fun vs H Q _ => ∃ (l : Addr) (rows : List (List Int)), vs = [.ref l] ∧ TblAt H l rows ∧ GoodT rows ∧ bitsT rows = true ∧ ∀ lf xs H', Same H H' → H lf = none → H' lf = some (.lst xs) → PwPt H' xs (evs rows (rows.length - 1)) → Q (.ref lf) H'
theorem ok_Leven (T : Txt K mg t) : FnOk P w K mg base CX0 1 t.f_Leven t.d_Leven ["_law_table_here"] sp_Leven := by
 refine T.F_Leven.ok sc_Leven (fun vs H Q E h => ?_) (fun cdv A outer s H vs Q E hr h => ?_)
 ·obtain ⟨l, rows, rfl, _⟩ := h; rfl
 ·obtain ⟨l, rows, rfl, tb, g, b, k⟩ := h
  obtain ⟨⟨g1, g2⟩, ⟨g3, g4⟩, _⟩ := id g
  refine cutC (ps_set (i := 1) sc_Leven.nd rfl (Or.inl rfl) (pe_lst pa_nil)) fun _ _ => cutC (ps_for PassesOwn.never rfl (pi_range2 rfl T.no_range (pa_cons pe_int (pa_cons (pe_callB (cI_lenK K rfl) rfl T.no_len (by rfl) (pa_cons (pv 0) pa_nil)) pa_nil))) (pg_name (i := 2) sc_Leven.nd rfl (Or.inl rfl)) (pss_one (ps_for PassesOwn.never rfl (pi_range2 rfl T.no_range (pa_cons pe_int (pa_cons (pe_callB (cI_lenK K rfl) rfl T.no_len (by rfl) (pa_cons (pe_ix (ix_listK K rfl) (pv 0) pe_int (fun _ _ => rfl)) pa_nil)) pa_nil))) (pg_name (i := 3) sc_Leven.nd rfl (Or.inl rfl)) (pss_cons (ps_set (i := 4) sc_Leven.nd rfl (Or.inl rfl) (pe_lst (pa_cons (pe_ix (ix_listK K rfl) (pe_ix (ix_listK K rfl) (pv 0) (pe_op op_sub (pv 2) pe_int) (fun _ _ => rfl)) (pe_op op_sub (pv 3) pe_int) (fun _ _ => rfl)) (pa_cons (pe_ix (ix_listK K rfl) (pe_ix (ix_listK K rfl) (pv 0) (pe_op op_sub (pv 2) pe_int) (fun _ _ => rfl)) (pv 3) (fun _ _ => rfl)) (pa_cons (pe_ix (ix_listK K rfl) (pe_ix (ix_listK K rfl) (pv 0) (pv 2) (fun _ _ => rfl)) (pe_op op_sub (pv 3) pe_int) (fun _ _ => rfl)) (pa_cons (pe_ix (ix_listK K rfl) (pe_ix (ix_listK K rfl) (pv 0) (pv 2) (fun _ _ => rfl)) (pv 3) (fun _ _ => rfl)) pa_nil)))))) (pss_one (ps_if (pt_cmpR op_in_seq (pe_bm PySem.F.plainAttrs_list PySem.F.slot_list_count PySem.F.type_list_count mt_countI (pv 4) (pa_cons pe_int pa_nil)) (pe_tup (pa_cons pe_int (pa_cons pe_int (pa_cons pe_int pa_nil)))) rfl) (pss_one (ps_expr (pe_bm PySem.F.plainAttrs_list PySem.F.slot_list_append PySem.F.type_list_append mt_append (pv 1) (pa_cons (pe_tup (pa_cons (pe_op op_sub (pv 3) pe_int) (pa_cons (pe_op op_sub (pv 2) pe_int) pa_nil))) pa_nil)))) pss_nil)))))) fun _ _ => cutE (ps_ret (pv 1)) fun _ _ => ?_
  walk_at "rd"
  refine ⟨by show 0 ≤ sizeLine; decide, fun lf nlf => ?_⟩
  have slf := Same.new (o := HO.lst []) nlf
  have elf := upd_same (H := H) (a := lf) (o := HO.lst [])
  generalize upd H lf (HO.lst []) = H2 at slf elf ⊢
  have tb2 := tb.mono slf
  obtain ⟨xs0, hl2, lx2, _⟩ := tbl_at tb2
  walk_at "rd"
  refine rd_rng2 ?_
  walk_at "rd"
  refine rd_lenL hl2 ?_
  rw [lx2]
  walk_at "rd"
  refine ⟨1, _, rfl, ⟨by decide, by decide, by omega, by omega⟩, ?_⟩
  rw [show (((rows.length : Nat) : Int) - 1).toNat = rows.length - 1 by omega]
  refine forW_range (fun i σ' H' => ∃ (oy ox o4 : Option V) (xs : List V), σ' = [some (.ref l), some (.ref lf), oy, ox, o4] ∧ Same H H' ∧ H' lf = some (.lst xs) ∧ PwPt H' xs (evs rows i)) ⟨none, none, none, [], rfl, slf, elf, PwPt.nil⟩ ?_ ?_
  ·rintro i σ' H3 hi ⟨oy, ox, o4, xs, rfl, s3, e3, pw3⟩
   have tb3 := tb.mono s3
   obtain ⟨xs1, a1, q1, q2, q3⟩ := tb3.row (i := 0) (by omega) (by omega)
   rw [show (0 : Int).toNat = 0 from rfl] at q3
   walk_at "rd"
   refine rd_rng2 ?_
   walk_at "rd"
   refine rd_ixL (SqL.of q1) q2 ?_
   walk_at "rd"
   refine rd_lenL q3 ?_
   rw [List.length_map, show (rows.getD 0 []).length = wdT rows from rfl]
   walk_at "rd"
   refine ⟨1, _, rfl, ⟨by decide, by decide, by omega, by omega⟩, ?_⟩
   rw [show (((wdT rows : Nat) : Int) - 1).toNat = wdT rows - 1 by omega]
   refine forW_range (fun j σ' H' => ∃ (ox o4 : Option V) (xs : List V), σ' = [some (.ref l), some (.ref lf), some (.int (1 + (i : Nat))), ox, o4] ∧ Same H H' ∧ H' lf = some (.lst xs) ∧ PwPt H' xs (evs rows i ++ evRow rows j i)) ⟨_, _, xs, rfl, s3, e3, by unfold evRow; simpa using pw3⟩ ?_ ?_
   ·rintro j σ' H4 hj ⟨ox, o4, xs, rfl, s4, e4, pw4⟩
    have tb4 := tb.mono s4
    obtain ⟨w1, b1⟩ := goodT_row g b (show i < rows.length by omega)
    obtain ⟨w2, b2⟩ := goodT_row g b (show i + 1 < rows.length by omega)
    obtain ⟨xs1, a1, q1, q2, q3⟩ := tb4.row (i := ((i : Nat) : Int)) (by omega) (by omega)
    obtain ⟨xs2, a2, r1, r2, r3⟩ := tb4.row (i := ((i : Nat) : Int) + 1) (by omega) (by omega)
    rw [Int.toNat_natCast] at q3
    rw [show (((i : Nat) : Int) + 1).toNat = i + 1 by omega] at r3
    have ei : (1 + ((i : Nat) : Int)) - 1 = ((i : Nat) : Int) := by omega
    have ei' : (1 + ((i : Nat) : Int)) = ((i : Nat) : Int) + 1 := by omega
    have ej : (1 + ((j : Nat) : Int)) - 1 = ((j : Nat) : Int) := by omega
    have ej' : (1 + ((j : Nat) : Int)) = ((j : Nat) : Int) + 1 := by omega
    walk_at "rd"
    rw [ei]
    refine rd_ixL (SqL.of q1) q2 ?_
    walk_at "rd"
    rw [ej]
    refine rd_ixL (SqL.of q3) (atI_ints (i := ((j : Nat) : Int)) (by omega) (by omega)) ?_
    rw [Int.toNat_natCast]
    walk_at "rd"
    rw [ei]
    refine rd_ixL (SqL.of q1) q2 ?_
    walk_at "rd"
    rw [ej']
    refine rd_ixL (SqL.of q3) (atI_ints (i := ((j : Nat) : Int) + 1) (by omega) (by omega)) ?_
    rw [show (((j : Nat) : Int) + 1).toNat = j + 1 by omega]
    walk_at "rd"
    rw [ei']
    refine rd_ixL (SqL.of r1) r2 ?_
    walk_at "rd"
    rw [show ((j : Nat) : Int) + 1 - 1 = ((j : Nat) : Int) by omega]
    refine rd_ixL (SqL.of r3) (atI_ints (i := ((j : Nat) : Int)) (by omega) (by omega)) ?_
    rw [Int.toNat_natCast]
    walk_at "rd"
    refine rd_ixL (SqL.of r1) r2 ?_
    walk_at "rd"
    refine rd_ixL (SqL.of r3) (atI_ints (i := ((j : Nat) : Int) + 1) (by omega) (by omega)) ?_
    rw [show (((j : Nat) : Int) + 1).toNat = j + 1 by omega]
    walk_at "rd"
    have v1 := getD_bit b1 j
    have v2 := getD_bit b1 (j + 1)
    have v3 := getD_bit b2 j
    have v4 := getD_bit b2 (j + 1)
    have ee : evB rows j i = decide (((rows.getD i []).getD j 0 + (rows.getD i []).getD (j + 1) 0 + ((rows.getD (i + 1) []).getD j 0 + (rows.getD (i + 1) []).getD (j + 1) 0)) % 2 = 0) := rfl
    have es := evRow_succ rows j i
    generalize (rows.getD i []).getD j 0 = y1 at v1 ee ⊢
    generalize (rows.getD i []).getD (j + 1) 0 = y2 at v2 ee ⊢
    generalize (rows.getD (i + 1) []).getD j 0 = y3 at v3 ee ⊢
    generalize (rows.getD (i + 1) []).getD (j + 1) 0 = y4 at v4 ee ⊢
    refine ⟨by show 4 ≤ sizeLine; decide, fun lq nlq => ?_⟩
    have slq := Same.new (o := HO.lst [V.int y1, V.int y2, V.int y3, V.int y4]) nlq
    have elq := upd_same (H := H4) (a := lq) (o := HO.lst [V.int y1, V.int y2, V.int y3, V.int y4])
    generalize upd H4 lq (HO.lst [V.int y1, V.int y2, V.int y3, V.int y4]) = H5 at slq elq ⊢
    walk_at "rd"
    refine rd_bmL elq ?_
    walk_at "rd"
    refine rd_countI (ns := [y1, y2, y3, y4]) elq ?_
    walk_at "rd"
    refine ⟨by show 3 ≤ sizeLine; decide, fun tt ntt => ?_⟩
    have stt := Same.new (o := HO.tup [V.int 0, V.int 2, V.int 4]) ntt
    have ett := upd_same (H := H5) (a := tt) (o := HO.tup [V.int 0, V.int 2, V.int 4])
    generalize upd H5 tt (HO.tup [V.int 0, V.int 2, V.int 4]) = H6 at stt ett ⊢
    walk_at "rd"
    refine ⟨tt, _, rfl, .inr (SqT.of ett), rfl, rfl, ?_⟩
    rw [cnt4 v1 v2 v3 v4, ← ee, if_neg (by decide)]
    have s46 := slq.trans stt
    cases he : evB rows j i with
    | true =>
     rw [he, if_pos rfl] at es
     walk_at "rd"
     refine rd_bmL (s46 _ _ e4) ?_
     walk_at "rd"
     rw [show ((j : Nat) : Int) + 1 - 1 = ((j : Nat) : Int) by omega, show ((i : Nat) : Int) + 1 - 1 = ((i : Nat) : Int) by omega]
     refine ⟨by show 2 ≤ sizeLine; decide, fun pt npt => ?_⟩
     have spt := Same.new (o := HO.tup [V.int ((j : Nat) : Int), V.int ((i : Nat) : Int)]) npt
     have ept := upd_same (H := H6) (a := pt) (o := HO.tup [V.int ((j : Nat) : Int), V.int ((i : Nat) : Int)])
     generalize upd H6 pt (HO.tup [V.int ((j : Nat) : Int), V.int ((i : Nat) : Int)]) = H7 at spt ept ⊢
     walk_at "rd"
     refine rd_append (spt _ _ (s46 _ _ e4)) (by rw [pw4.1, List.length_append]; have h1 := evs_small (rows := rows) (n := i) (by omega) g4; have h2 := evRow_len rows j i; exact small1000' (by omega)) ?_
     have nt : ∀ ys', HO.tup ys' ≠ HO.lst xs := fun _ z => by cases z
     walk_at "rd"
     refine ⟨_, _, _, rfl, fun c o e => ?_, upd_same, ?_⟩
     ·rw [upd_ne (ne_of_none e nlf)]
      exact spt _ _ (s46 _ _ (s4 _ _ e))
     ·rw [es, ← List.append_assoc]
      exact (((pw4.mono (s46.trans spt)).snoc ⟨pt, rfl, ept⟩)).upd (spt _ _ (s46 _ _ e4)) nt
    | false =>
     rw [he, if_neg (by decide), List.append_nil] at es
     walk_at "rd"
     exact ⟨_, _, xs, rfl, s4.trans s46, s46 _ _ e4, by rw [es]; exact pw4.mono s46⟩
   ·rintro σ' H4 ⟨ox, o4, xs, rfl, s4, e4, pw4⟩
    exact ⟨_, _, _, xs, rfl, s4, e4, pw4⟩
  ·rintro σ' H3 ⟨oy, ox, o4, xs, rfl, s3, e3, pw3⟩
   walk_at "rd"
   exact k lf xs H3 s3 nlf e3 pw3
end
section
variable {P : Program} {w : World} {K : PySem.W.Frag} {mg : Str → Option Value} {base : Heap} {t : Ad}
theorem ixN_of {n j : Nat} (h : j < n) : ixN n (j : Int) = some j := by
 unfold ixN
 simp [h]
 try omega
theorem goodT_set {rows : List (List Int)} (g : GoodT rows) {y : Nat} (hy : y < rows.length) {r' : List Int} (hr : r'.length = wdT rows) : GoodT (rows.set y r') ∧ wdT (rows.set y r') = wdT rows ∧ (rows.set y r').length = rows.length := by
 have ll : (rows.set y r').length = rows.length := List.length_set ..
 have ew : wdT (rows.set y r') = wdT rows := by
  unfold wdT at hr ⊢
  rw [List.getD_eq_getElem?_getD, List.getElem?_set]
  by_cases h0 : y = 0
  ·rw [if_pos h0, if_pos hy]; exact hr
  ·rw [if_neg h0, ← List.getD_eq_getElem?_getD]
 refine ⟨⟨by rw [ll]; exact g.1, by rw [ew]; exact g.2.1, fun r hm => ?_⟩, ew, ll⟩
 rw [ew]
 rcases List.mem_or_eq_of_mem_set hm with h | h
 ·exact g.2.2 r h
 ·rw [h]; exact hr
theorem bitsT_iff {rows : List (List Int)} : bitsT rows = true ↔ ∀ r ∈ rows, ∀ z ∈ r, z = 0 ∨ z = 1 := by
 unfold bitsT
 rw [List.all_eq_true]
 refine forall_congr' fun r => forall_congr' fun _ => ?_
 rw [List.all_eq_true]
 refine forall_congr' fun z => forall_congr' fun _ => ?_
 unfold isBit
 rw [Bool.and_eq_true, decide_eq_true_eq, decide_eq_true_eq]; omega
theorem bitsT_set {rows : List (List Int)} (b : bitsT rows = true) {y : Nat} {r' : List Int} (hr : ∀ z ∈ r', z = 0 ∨ z = 1) : bitsT (rows.set y r') = true :=
 bitsT_iff.mpr fun r hm => by
  rcases List.mem_or_eq_of_mem_set hm with h | h
  ·exact bitsT_iff.mp b r h
  ·rw [h]; exact hr
theorem copyF {H0 H : Hp} {lt : Addr} {rows : List (List Int)} {xs : List V} {as : List Addr} (lx : xs.length = rows.length) (nl : H0 lt = none) (e : H lt = some (.lst (as.map V.ref))) (la : as.length = xs.length) (nd : as.Nodup) (hR : ∀ (i : Nat) b, as[i]? = some b → b ≠ lt ∧ H0 b = none ∧ ∀ r, rows[i]? = some r → H b = some (.lst (r.map V.int))) : TblF H0 H lt rows :=
 ⟨nl, as, e, la.trans lx, nd, fun a ha => let ⟨i, hi⟩ := List.mem_iff_getElem?.mp ha; (hR i a hi).2.1, fun i a r e1 e2 => ⟨(hR i a e1).1, (hR i a e1).2.2 r e2⟩⟩
def sp_Lspots : Sp := fun vs H Q _ => ∃ (ls l : Addr) (zs : List Int) (m : Nat) (rows : List (List Int)), vs = [.ref ls, .ref l, .int m] ∧ H ls = some (.lst (zs.map V.int)) ∧ TblAt H l rows ∧ GoodT rows ∧ bitsT rows = true ∧ m ≤ 10 ∧ 20 ≤ zs.length ∧
 ∀ lt rows' H', Same H H' → TblF H H' lt rows' → GoodT rows' → wdT rows' = wdT rows → rows'.length = rows.length → bitsT rows' = true → (m = 0 → rows' = rows) → Q (.ref lt) H'
theorem ok_Lspots (T : Txt K mg t) : FnOk P w K mg base CX0 1 t.f_Lspots t.d_Lspots ["_law_some", "_law_table_here", "_law_many"] sp_Lspots := by
 refine T.F_Lspots.ok sc_Lspots (fun vs H Q E h => ?_) (fun cdv A outer s H vs Q E hr h => ?_)
 ·obtain ⟨ls, l, zs, m, rows, rfl, _⟩ := h; rfl
 ·obtain ⟨ls, l, zs, m, rows, rfl, hls, tb, g, b, lm, lz, k⟩ := h
  obtain ⟨⟨g1, g2⟩, ⟨g3, g4⟩, g5⟩ := id g
  obtain ⟨xs, hl, lx, it⟩ := tbl_at tb
  refine cutC (ps_setC (i := 1) sc_Lspots.nd rfl (Or.inl rfl) (N := ["_law_row_here"]) (cap := [none]) rfl ⟨rfl, rfl, rfl, rfl, rfl, rfl⟩ (pi_list (pv 1)) (fun _ _ _ => (pg_name (i := 0) (show (["_law_row_here"] : List Str).Nodup by decide +kernel) rfl (Or.inl rfl))) (fun _ _ _ => pts_nil) (fun _ _ _ => (pe_callTy (cI_listK K rfl) rfl T.no_list (by rfl) (pa_cons (pv 0) pa_nil))) (by rfl)) fun _ _ => cutC (ps_for PassesOwn.never rfl (pi_range1 rfl T.no_range (pa_cons (pv 2) pa_nil)) (pg_name (i := 3) sc_Lspots.nd rfl (Or.inl rfl)) (pss_cons (ps_set (i := 4) sc_Lspots.nd rfl (Or.inl rfl) (pe_op op_mod (pe_ix (ix_listK K rfl) (pv 0) (pe_op op_mul pe_int (pv 3)) (fun _ _ => rfl)) (pe_callB (cI_lenK K rfl) rfl T.no_len (by rfl) (pa_cons (pe_ix (ix_listK K rfl) (pv 1) pe_int (fun _ _ => rfl)) pa_nil)))) (pss_cons (ps_set (i := 5) sc_Lspots.nd rfl (Or.inl rfl) (pe_op op_mod (pe_ix (ix_listK K rfl) (pv 0) (pe_op op_add (pe_op op_mul pe_int (pv 3)) pe_int) (fun _ _ => rfl)) (pe_callB (cI_lenK K rfl) rfl T.no_len (by rfl) (pa_cons (pv 1) pa_nil)))) (pss_one (ps_asg (pe_op op_sub pe_int (pe_ix (ix_listK K rfl) (pe_ix (ix_listK K rfl) (pv 1) (pv 5) (fun _ _ => rfl)) (pv 4) (fun _ _ => rfl))) (pg_sub (pe_ix (ix_listK K rfl) (pv 1) (pv 5) (fun _ _ => rfl)) (pv 4) set_list)))))) fun _ _ => cutE (ps_ret (pv 1)) fun _ _ => ?_
  walk_at "rd"
  refine ⟨⟨_, SqL.of hl⟩, fun lt nlt => ?_⟩
  refine compW_listN (fun i b H' => ∀ r, rows[i]? = some r → H' b = some (.lst (r.map V.int))) (SqL.of hl) (by omega) nlt (fun i b Ha Hb sb hb q r hr => sb _ _ (q r hr) hb) (fun i x o H' Q' hx s1 q => ?_) (fun as H1 s1 e1 la nd hR => ?_)
  ·have hi : i < rows.length := by rw [← lx]; exact (List.getElem?_eq_some_iff.mp hx).1
   obtain ⟨a, rfl, ha⟩ := it i x _ hx (List.getElem?_eq_getElem hi)
   walk_at "rd"
   refine rd_listL (s1 _ _ ha) fun u nu => ?_
   exact q u _ (Same.new nu) nu ⟨_, upd_same⟩ fun r hr => by rw [List.getElem?_eq_getElem hi] at hr; cases hr; exact upd_same
  ·have tf := copyF lx nlt e1 la nd hR
   walk_at "rd"
   refine ⟨m, rfl, by omega, by omega, ?_⟩
   rw [Int.toNat_natCast]
   refine forW_range (fun i σ' H' => ∃ (o3 o4 o5 : Option V) (rows' : List (List Int)), σ' = [some (.ref ls), some (.ref lt), some (.int m), o3, o4, o5] ∧ Same H H' ∧ TblF H H' lt rows' ∧ GoodT rows' ∧ wdT rows' = wdT rows ∧ rows'.length = rows.length ∧ bitsT rows' = true ∧ (i = 0 → rows' = rows)) ⟨none, none, none, rows, rfl, s1, tf, g, rfl, rfl, b, fun _ => rfl⟩ ?_ ?_
   ·rintro i σ' H2 hi ⟨o3, o4, o5, rows', rfl, s2, tf2, gg, ew, el, bb, i0⟩
    rw [Int.zero_add]
    have tb2 := tf2.tbl
    obtain ⟨xs2, hl2, lx2, _⟩ := tbl_at tb2
    obtain ⟨xs1, a1, q1, q2, q3⟩ := tb2.row (i := 0) (by omega) (by omega)
    rw [show (0 : Int).toNat = 0 from rfl] at q3
    have hls2 := s2 _ _ hls
    walk_at "rd"
    refine rd_I (.inl ⟨by decide, by decide⟩) ?_
    walk_at "rd"
    refine rd_ixL (SqL.of hls2) (atI_ints (by omega) (by omega)) ?_
    walk_at "rd"
    refine rd_ixL (SqL.of q1) q2 ?_
    walk_at "rd"
    refine rd_lenL q3 ?_
    rw [List.length_map, show (rows'.getD 0 []).length = wdT rows' from rfl, ew]
    walk_at "rd"
    refine rd_I (show (0 : Int) < ((wdT rows : Nat) : Int) by omega) ?_
    walk_at "rd"
    refine rd_I (.inl ⟨by decide, by decide⟩) ?_
    walk_at "rd"
    refine rd_ixL (SqL.of hls2) (atI_ints (by omega) (by omega)) ?_
    walk_at "rd"
    refine rd_lenL hl2 ?_
    rw [lx2, el]
    walk_at "rd"
    refine rd_I (show (0 : Int) < ((rows.length : Nat) : Int) by omega) ?_
    generalize zs.getD (2 * ((i : Nat) : Int)).toNat 0 = z1
    generalize zs.getD (2 * ((i : Nat) : Int) + 1).toNat 0 = z2
    have p0 := Int.emod_nonneg z1 (show ((wdT rows : Nat) : Int) ≠ 0 by omega)
    have p1 := Int.emod_lt_of_pos z1 (show (0 : Int) < (wdT rows : Nat) by omega)
    obtain ⟨x, hx, xl⟩ : ∃ x : Nat, z1 % ((wdT rows : Nat) : Int) = x ∧ x < wdT rows := ⟨(z1 % ((wdT rows : Nat) : Int)).toNat, by omega, by omega⟩
    have p2 := Int.emod_nonneg z2 (show ((rows.length : Nat) : Int) ≠ 0 by omega)
    have p3 := Int.emod_lt_of_pos z2 (show (0 : Int) < (rows.length : Nat) by omega)
    obtain ⟨y, hy, yl⟩ : ∃ y : Nat, z2 % ((rows.length : Nat) : Int) = y ∧ y < rows.length := ⟨(z2 % ((rows.length : Nat) : Int)).toNat, by omega, by omega⟩
    rw [hx, hy]
    obtain ⟨w1, b1⟩ := goodT_row gg bb (show y < rows'.length by omega)
    obtain ⟨as, a, f1, f2, f3, f4, f5, f6⟩ := tf2.set (i := y) (by omega) ((rows'.getD y []).set x (1 - (rows'.getD y []).getD x 0))
    walk_at "rd"
    refine rd_ixL (SqL.of f1) (atI_nat f2) ?_
    walk_at "rd"
    refine rd_ixL (SqL.of f3) (atI_ints (i := ((x : Nat) : Int)) (by omega) (by omega)) ?_
    rw [Int.toNat_natCast]
    walk_at "rd"
    refine rd_ixL (SqL.of f1) (atI_nat f2) ?_
    walk_at "rd"
    refine rd_setl f3 (ixN_of (by rw [List.length_map]; omega)) ?_
    rw [← List.map_set]
    obtain ⟨h1, h2, h3⟩ := goodT_set gg (show y < rows'.length by omega) (r' := (rows'.getD y []).set x (1 - (rows'.getD y []).getD x 0)) (by rw [List.length_set]; exact w1)
    walk_at "rd"
    refine ⟨_, _, _, _, rfl, fun c o e => ?_, f6, h1, by rw [h2]; exact ew, by rw [h3]; exact el, bitsT_set bb fun z hz => ?_, fun h => absurd h (Nat.succ_ne_zero _)⟩
    ·rw [upd_ne (ne_of_none e f4)]; exact s2 _ _ e
    ·rcases List.mem_or_eq_of_mem_set hz with h | h
     ·exact b1 z h
     ·have := getD_bit b1 x; omega
   ·rintro σ' H2 ⟨o3, o4, o5, rows', rfl, s2, tf2, gg, ew, el, bb, i0⟩
    walk_at "rd"
    exact k lt rows' H2 s2 tf2 gg ew el bb i0
end
section
variable {P : Program} {w : World} {K : PySem.W.Frag} {mg : Str → Option Value} {base : Heap} {t : Ad}
theorem yx_ne : ¬ (("y" : Str) = "x") := by decide +kernel
theorem xy_ne : ¬ (("x" : Str) = "y") := by decide +kernel
def xyF (x y : Int) : List (Str × V) := [("x", .int x), ("y", .int y)]
theorem xyF_put (x y : Int) : putF "y" (.int y) [("x", .int x)] = xyF x y := by
 unfold putF
 rw [if_neg xy_ne]
 rfl
theorem xyF_x (x y : Int) : (xyF x y).lookup ("x" : Str) = some (V.int x) := by
 unfold xyF; rw [List.lookup_cons, show (("x" : Str) == "x") = true from beq_self_eq_true _]
theorem xyF_y (x y : Int) : (xyF x y).lookup ("y" : Str) = some (V.int y) := by
 unfold xyF; rw [List.lookup_cons, show (("y" : Str) == "x") = false from beq_eq_false_iff_ne.mpr yx_ne, List.lookup_cons, show (("y" : Str) == "y") = true from beq_self_eq_true _]
def sp_NoPictureInit (C : Addr) : Sp := fun vs H Q _ => ∃ (e : Addr) (x y : Nat), vs = [.ref e, .int (x : Int), .int (y : Int)] ∧ x < 100 ∧ y < 100 ∧ H e = some (ExcM e C none) ∧
 ∀ d, H d = none → d ≠ e → ∀ H', (∀ b o, H b = some o → b ≠ e → H' b = some o) → H' e = some (ExcM e C (some d)) → H' d = some (XdO d (xyF x y)) → (∀ b, b ≠ d → b ≠ e → H' b = H b) → Q .non H'
theorem ok_NoPictureInit (T : Txt K mg t) : FnOk P w K mg base CX0 1 t.f_NoPictureInit t.d_NoPictureInit ["self", "x", "y"] (sp_NoPictureInit t.a_NoPicture) := by
 refine T.F_NoPictureInit.ok sc_NoPictureInit (fun vs H Q E h => ?_) (fun cdv A outer s H vs Q E hr h => ?_)
 ·obtain ⟨e, x, y, rfl, _⟩ := h; rfl
 ·obtain ⟨e, x, y, rfl, hx, hy, he, k⟩ := h
  refine cutC (ps_expr (pe_initX rfl T.mg_SewError T.bi_SewError (pa_cons (pv 0) (pa_cons (pe_fstr (PEs.cons pe_str (PEs.cons (pe_fmt (pv 1)) (PEs.cons pe_str (PEs.cons (pe_fmt (pv 2)) (PEs.cons pe_str PEs.nil))))) (by decide)) pa_nil)))) fun _ _ => cutC (ps_fldX (pv 0) (pv 1) rfl) fun _ _ => cutE (ps_fldX (pv 0) (pv 2) rfl) fun _ _ => ?_
  walk_at "rd"
  refine rd_initX ?_
  walk_at "rd"
  refine rd_fstr ?_
  refine ⟨_, rfl, by decide, ?_⟩
  refine rd_fmt ?_
  walk_at "rd"
  refine ⟨x, rfl, hx, fun x1 l1 => ⟨x1, rfl, l1, ?_⟩⟩
  refine ⟨_, rfl, by decide, ?_⟩
  refine rd_fmt ?_
  walk_at "rd"
  refine ⟨y, rfl, hy, fun x2 l2 => ⟨x2, rfl, l2, ?_⟩⟩
  refine ⟨_, rfl, by decide, fun x3 => ?_⟩
  walk_at "rd"
  refine ⟨e, t.a_NoPicture, none, _, rfl, he, T.mx_NoPicture.ei, ?_⟩
  walk_at "rd"
  refine rd_fldXs ?_
  walk_at "rd"
  refine ⟨e, t.a_NoPicture, rfl, T.mx_NoPicture.ei, T.nx_NoPicture_x, .inl ⟨he, fun d hd ne => ?_⟩⟩
  walk_at "rd"
  refine rd_fldXs ?_
  walk_at "rd"
  refine ⟨e, t.a_NoPicture, rfl, T.mx_NoPicture.ei, T.nx_NoPicture_y, .inr ⟨d, _, upd_same, by rw [upd_ne ne]; exact upd_same, by show 1 < 1000; decide, ?_⟩⟩
  rw [xyF_put]
  refine k d hd ne _ (fun b o z q => ?_) (by rw [upd_ne (Ne.symm ne)]; exact upd_same) upd_same fun b h1 h2 => by rw [upd_ne h1, upd_ne h2, upd_ne h1]
  have h1 : b ≠ d := fun z' => by rw [z', hd] at z; cases z
  rw [upd_ne h1, upd_ne q, upd_ne h1]
  exact z
end
theorem made_at {C p dx c r : Addr} {H1 H4 : Hp} (nx : H1 p = none) (ndx : H1 dx = none) (kp : ∀ b o, upd (upd H1 dx (.own p)) p (.ins C dx []) b = some o → b ≠ p → H4 b = some o) : Same H1 H4 := fun b o e =>
 kp b o (((Same.new ndx).later nx) b o e) (ne_of_none e nx)
section
variable {P : Program} {w : World} {K : PySem.W.Frag} {mg : Str → Option Value} {base : Heap} {t : Ad}
def unl (r : List Int) : List Int := (List.range (r.length - 1)).map fun k => (r.getD k 0 + r.getD (k + 1) 0) % 2
theorem unl_len (r : List Int) : (unl r).length = r.length - 1 := by unfold unl; rw [List.length_map, List.length_range]
theorem unl_get {r : List Int} {k : Nat} (h : k < r.length - 1) : (unl r).getD k 0 = (r.getD k 0 + r.getD (k + 1) 0) % 2 := by
 unfold unl
 rw [List.getD_eq_getElem?_getD, List.getElem?_map, List.getElem?_range h]; rfl
theorem unl_bits {r : List Int} (h : r.length ≤ 40) : Bits (unl r) := ⟨by rw [unl_len]; omega, fun z hz => by
 unfold unl at hz
 obtain ⟨k, _, rfl⟩ := List.mem_map.mp hz
 omega⟩
def sp_unlike : Sp := fun vs H Q _ => ∃ (a : Addr) (r : List Int), vs = [.ref a] ∧ H a = some (.lst (r.map V.int)) ∧ r.length ≤ 1000 ∧ 0 < r.length ∧ ∀ l H', Same H H' → H l = none → H' l = some (.lst ((unl r).map V.int)) → Q (.ref l) H'
theorem ok_unlike (T : Txt K mg t) : FnOk P w K mg base CX0 1 t.f_unlike t.d_unlike ["numbers"] sp_unlike := by
 refine T.F_unlike.ok sc_unlike (fun vs H Q E h => ?_) (fun cdv A outer s H vs Q E hr h => ?_)
 ·obtain ⟨a, r, rfl, _⟩ := h; rfl
 ·obtain ⟨a, r, rfl, ha, hl, h0, k⟩ := h
  refine ⟨_, (pss_one (ps_ret (pe_comp (N := ["k", "numbers"]) (cap := [none, some 0]) rfl ⟨rfl, rfl, rfl, rfl, rfl, rfl⟩ (pi_range1 rfl T.no_range (pa_cons (pe_op op_sub (pe_callB (cI_lenK K rfl) rfl T.no_len (by rfl) (pa_cons (pv 0) pa_nil)) pe_int) pa_nil)) (fun _ _ _ => (pg_name (i := 0) (show (["k", "numbers"] : List Str).Nodup by decide +kernel) rfl (Or.inl rfl))) (fun _ _ _ => pts_nil) (fun _ _ _ => (pe_op op_mod (pe_op op_add (pe_ix (ix_listK K rfl) (pv 1) (pv 0) (fun _ _ => rfl)) (pe_ix (ix_listK K rfl) (pv 1) (pe_op op_add (pv 0) pe_int) (fun _ _ => rfl))) pe_int))))), ?_⟩
  walk_at "rd"
  refine rd_lenL ha ?_
  rw [List.length_map]
  walk_at "rd"
  refine ⟨_, rfl, by omega, by omega, fun l hn => ?_⟩
  rw [show ((r.length : Int) - 1).toNat = r.length - 1 by omega]
  refine compW_range (fun i => .int ((r.getD i 0 + r.getD (i + 1) 0) % 2)) (by omega) hn (fun i o H' Q' hi s1 q => ?_) (fun H' s1 e => ?_)
  ·walk_at "rd"
   rw [Int.zero_add]
   refine rd_ixL (SqL.of (s1 _ _ ha)) (atI_ints (i := (i : Int)) (by omega) (by omega)) ?_
   walk_at "rd"
   refine rd_ixL (SqL.of (s1 _ _ ha)) (atI_ints (i := (i : Int) + 1) (by omega) (by omega)) ?_
   rw [Int.toNat_natCast, show ((i : Int) + 1).toNat = i + 1 by omega]
   walk_at "rd"
   refine rd_I (by decide) ?_
   exact q H' (Same.refl _)
  ·walk_at "rd"
   exact k l H' s1 hn (by rw [e]; unfold unl; rw [List.map_map]; rfl)
theorem evs_mem {rows : List (List Int)} : ∀ {n : Nat} {p : Int × Int}, p ∈ evs rows n → ∃ x y : Nat, p = ((x : Int), (y : Int)) ∧ x < wdT rows - 1 ∧ y < n
 | 0, p, h => by cases h
 | n + 1, p, h => by
  rcases List.mem_append.mp h with h | h
  ·obtain ⟨x, y, e, hx, hy⟩ := evs_mem h
   exact ⟨x, y, e, hx, by omega⟩
  ·unfold evRow at h
   obtain ⟨x, hx, rfl⟩ := List.mem_map.mp h
   exact ⟨x, n, rfl, List.mem_range.mp (List.mem_filter.mp hx).1, by omega⟩
theorem evs_none {rows : List (List Int)} : ∀ {n : Nat}, evs rows n = [] → ∀ x y : Nat, x < wdT rows - 1 → y < n → evB rows x y = false
 | 0, _, x, y, _, hy => absurd hy (Nat.not_lt_zero _)
 | n + 1, h, x, y, hx, hy => by
  obtain ⟨h1, h2⟩ := List.append_eq_nil_iff.mp h
  by_cases e : y = n
  ·subst e
   cases q : evB rows x y with
   | false => rfl
   | true =>
    have : (((x : Nat) : Int), ((y : Nat) : Int)) ∈ evRow rows (wdT rows - 1) y := List.mem_map.mpr ⟨x, List.mem_filter.mpr ⟨List.mem_range.mpr hx, q⟩, rfl⟩
    rw [h2] at this
    cases this
  ·exact evs_none h1 x y hx (by omega)
def colT (rows : List (List Int)) : List Int := rows.map fun r => r.getD 0 0
theorem colT_len (rows : List (List Int)) : (colT rows).length = rows.length := by unfold colT; rw [List.length_map]
theorem colT_get {rows : List (List Int)} {y : Nat} (h : y < rows.length) : (colT rows).getD y 0 = getT rows y 0 := by
 unfold colT getT
 have e : rows.getD y [] = rows[y] := by rw [List.getD_eq_getElem?_getD, List.getElem?_eq_getElem h]; rfl
 rw [e, List.getD_eq_getElem?_getD, List.getElem?_map, List.getElem?_eq_getElem h]; rfl
theorem pic_of {rows : List (List Int)} (g : GoodT rows) (b : bitsT rows = true) (n : evs rows (rows.length - 1) = []) : ∀ y x : Nat, y < rows.length → x < wdT rows → colr (getT rows 0 0) (unl (rows.getD 0 [])) (unl (colT rows)) (x : Int) (y : Int) = getT rows y x := by
 have bit : ∀ y x : Nat, y < rows.length → (getT rows y x = 0 ∨ getT rows y x = 1) := fun y x hy => getD_bit (goodT_row g b hy).2 x
 have ⟨⟨g1, _⟩, ⟨g3, _⟩, _⟩ := g
 -- the first row
 have row0 : ∀ x : Nat, x < wdT rows → colr (getT rows 0 0) (unl (rows.getD 0 [])) (unl (colT rows)) (x : Int) (0 : Nat) = getT rows 0 x := by
  intro x
  induction x with
  | zero => intro _; exact colr_0 (bit 0 0 g1)
  | succ x ih =>
   intro hx
   have h := ih (by omega)
   rw [show (((x + 1 : Nat)) : Int) = (x : Int) + 1 by omega, colr_right (by rw [unl_len]; show x < wdT rows - 1; omega), h, unl_get (show x < wdT rows - 1 by omega)]
   have b0 : (rows.getD 0 []).getD x 0 = getT rows 0 x := rfl
   have b1 : (rows.getD 0 []).getD (x + 1) 0 = getT rows 0 (x + 1) := rfl
   rw [b0, b1]
   have p := bit 0 x g1
   have q := bit 0 (x + 1) g1
   generalize getT rows 0 x = u at p ⊢
   generalize getT rows 0 (x + 1) = v at q ⊢
   by_cases c : (((0 : Nat) : Int) + (u + v) % 2) % 2 = 1
   ·rw [decide_eq_true c, if_pos rfl]; omega
   ·rw [decide_eq_false c, if_neg (by decide)]; omega
 have col0 : ∀ y : Nat, y < rows.length → colr (getT rows 0 0) (unl (rows.getD 0 [])) (unl (colT rows)) 0 (y : Int) = getT rows y 0 := by
  intro y
  induction y with
  | zero => intro _; exact colr_0 (bit 0 0 g1)
  | succ y ih =>
   intro hy
   have h := ih (by omega)
   rw [show (((y + 1 : Nat)) : Int) = (y : Int) + 1 by omega, colr_up (by rw [unl_len, colT_len]; omega), h, unl_get (by rw [colT_len]; omega), colT_get (by omega), colT_get hy]
   have p := bit y 0 (by omega)
   have q := bit (y + 1) 0 hy
   generalize getT rows y 0 = u at p ⊢
   generalize getT rows (y + 1) 0 = v at q ⊢
   by_cases c : ((0 : Int) + (u + v) % 2) % 2 = 1
   ·rw [decide_eq_true c, if_pos rfl]; omega
   ·rw [decide_eq_false c, if_neg (by decide)]; omega
 -- the block of four
 have four : ∀ (s : Int) (cs rs : List Int) (x y : Nat), (colr s cs rs x y + colr s cs rs ((x : Int) + 1) y + (colr s cs rs x ((y : Int) + 1) + colr s cs rs ((x : Int) + 1) ((y : Int) + 1))) % 2 = 1 := fun s cs rs x y => by
  unfold colr
  have e1 : ((x : Int) + 1) * (y : Int) = (x : Int) * y + y := by rw [Int.add_mul, Int.one_mul]
  have e2 : (x : Int) * ((y : Int) + 1) = (x : Int) * y + x := by rw [Int.mul_add, Int.mul_one]
  have e3 : ((x : Int) + 1) * ((y : Int) + 1) = (x : Int) * y + x + y + 1 := by rw [Int.add_mul, Int.one_mul, e2]; omega
  rw [e1, e2, e3]
  generalize (x : Int) * (y : Int) = m
  generalize (cs.take (x : Int).toNat).sum = a
  generalize (cs.take ((x : Int) + 1).toNat).sum = a'
  generalize (rs.take (y : Int).toNat).sum = c
  generalize (rs.take ((y : Int) + 1).toNat).sum = c'
  omega
 intro y
 induction y with
 | zero => intro x _ hx; exact row0 x hx
 | succ y ihy =>
  intro x
  induction x with
  | zero => intro hy _; exact col0 (y + 1) hy
  | succ x ihx =>
   intro hy hx
   have h1 := ihy x (by omega) (by omega)
   have h2 := ihy (x + 1) (by omega) hx
   have h3 := ihx hy (by omega)
   have h4 := four (getT rows 0 0) (unl (rows.getD 0 [])) (unl (colT rows)) x y
   have e := evs_none n x y (by omega) (by omega)
   unfold evB at e
   have e := of_decide_eq_false e
   have b4 := bit (y + 1) (x + 1) hy
   have c4 := colr_bit (getT rows 0 0) (unl (rows.getD 0 [])) (unl (colT rows)) ((x : Int) + 1) ((y : Int) + 1)
   rw [show (((x + 1 : Nat)) : Int) = (x : Int) + 1 by omega] at h2 ⊢
   rw [show (((y + 1 : Nat)) : Int) = (y : Int) + 1 by omega] at h3 ⊢
   rw [h1, h2, h3] at h4
   generalize colr (getT rows 0 0) (unl (rows.getD 0 [])) (unl (colT rows)) ((x : Int) + 1) ((y : Int) + 1) = z at h4 c4 ⊢
   generalize getT rows (y + 1) (x + 1) = z' at e b4 ⊢
   have p1 := bit y x (by omega)
   have p2 := bit y (x + 1) (by omega)
   have p3 := bit (y + 1) x hy
   omega
theorem tbl_of {rows : List (List Int)} (g : GoodT rows) (b : bitsT rows = true) (n : evs rows (rows.length - 1) = []) : tblOf (getT rows 0 0) (unl (rows.getD 0 [])) (unl (colT rows)) ((unl (colT rows)).length + 1) = rows := by
 have ⟨⟨g1, _⟩, ⟨g3, _⟩, g5⟩ := g
 have el : (unl (colT rows)).length + 1 = rows.length := by rw [unl_len, colT_len]; omega
 have ew : (unl (rows.getD 0 [])).length + 1 = wdT rows := by rw [unl_len]; show wdT rows - 1 + 1 = _; omega
 rw [el]
 refine List.ext_getElem (tblOf_len _ _ _ _) fun y h1 h2 => ?_
 have e1 := tblOf_get (s := getT rows 0 0) (cs := unl (rows.getD 0 [])) (rs := unl (colT rows)) h2
 rw [List.getD_eq_getElem?_getD, List.getElem?_eq_getElem h1] at e1
 have e1 : (tblOf (getT rows 0 0) (unl (rows.getD 0 [])) (unl (colT rows)) rows.length)[y] = _ := e1
 rw [e1, ew]
 refine List.ext_getElem (by rw [rowOf_len]; exact (g5 _ (List.getElem_mem h2)).symm) fun x h3 h4 => ?_
 rw [rowOf_len] at h3
 have e2 := rowOf_get (s := getT rows 0 0) (cs := unl (rows.getD 0 [])) (rs := unl (colT rows)) (y := (y : Int)) h3
 rw [List.getD_eq_getElem?_getD, List.getElem?_eq_getElem (by rw [rowOf_len]; exact h3)] at e2
 have e2 : (rowOf (getT rows 0 0) (unl (rows.getD 0 [])) (unl (colT rows)) (y : Int) (wdT rows))[x]'(by rw [rowOf_len]; exact h3) = _ := e2
 rw [e2, pic_of g b n y x h2 h3]
 unfold getT
 have e : rows.getD y [] = rows[y] := by rw [List.getD_eq_getElem?_getD, List.getElem?_eq_getElem h2]; rfl
 rw [e]
 rw [List.getD_eq_getElem?_getD, List.getElem?_eq_getElem h4]; rfl
def spx_clothof (C NP : Addr) : Sp := fun vs H Q E => ∃ (l : Addr) (rows : List (List Int)), vs = [.ref l] ∧ TblAt H l rows ∧ GoodT rows ∧ bitsT rows = true ∧
 (evs rows (rows.length - 1) = [] → ∀ x H', Same H H' → H x = none → ClothAt C H' x (getT rows 0 0) (unl (rows.getD 0 [])) (unl (colT rows)) → Q (.ref x) H') ∧
 (∀ p r, evs rows (rows.length - 1) = p :: r → ∀ d H', Same H H' → H' d = some (XdO d (xyF p.1 p.2)) → E (.ref NP) (some d) H')
theorem okx_clothof (T : Txt K mg t) : FnOk P w K mg base (CX1 P w) 9 t.f_clothof t.d_clothof ["table"] (spx_clothof t.a_Cloth t.a_NoPicture) := by
 have G_evenblocks := ok_evenblocks (P := P) (w := w) (base := base) T
 have G_NoPictureInit := ok_NoPictureInit (P := P) (w := w) (base := base) T
 have GX_ClothInit := okx_ClothInit (P := P) (w := w) (base := base) T
 have G_unlike := ok_unlike (P := P) (w := w) (base := base) T
 refine T.F_clothof.ok1 sc_clothof (fun vs H Q E h => ?_) (fun cdv A outer s H vs Q E hr h => ?_)
 ·obtain ⟨l, rows, rfl, _⟩ := h; rfl
 ·obtain ⟨l, rows, rfl, tb, g, b, k1, k2⟩ := h
  obtain ⟨⟨g1, g2⟩, ⟨g3, g4⟩, g5⟩ := id g
  refine cutC (ps_set (i := 1) sc_clothof.nd rfl (Or.inl rfl) (pe_call G_evenblocks.up (hr.mono (by first | decide | omega)) rfl T.mg_evenblocks T.F_evenblocks.kp T.b_evenblocks .nil pass1 (pa_cons (pv 0) pa_nil))) fun _ _ => cutC (ps_if (pt_cmpR op_gt (pe_callB (cI_lenK K rfl) rfl T.no_len (by rfl) (pa_cons (pv 1) pa_nil)) pe_int (nomark _)) (pss_cons (ps_set (i := 2) sc_clothof.nd rfl (Or.inl rfl) (pe_ix (ix_listK K rfl) (pv 1) pe_int (fun _ _ => rfl))) (pss_one (ps_raiseI T.mx_NoPicture G_NoPictureInit (hr.mono (by first | decide | omega)) rfl T.mg_NoPicture T.b_NoPictureInit rfl rfl (fun _ _ _ _ _ _ _ _ I a b c d e f g h => xe_made I a b c d e f g h) (pa_cons (pe_ix (ix_tupK K rfl) (pv 2) pe_int (fun _ _ => rfl)) (pa_cons (pe_ix (ix_tupK K rfl) (pv 2) pe_int (fun _ _ => rfl)) pa_nil))))) pss_nil) fun _ _ => cutE (ps_ret (pe_make T.mk_Cloth GX_ClothInit (hr.mono (by first | decide | omega)) rfl T.mg_Cloth T.b_ClothInit .nil pass1 (pa_cons (pe_ix (ix_listK K rfl) (pe_ix (ix_listK K rfl) (pv 0) pe_int (fun _ _ => rfl)) pe_int (fun _ _ => rfl)) (pa_cons (pe_call G_unlike.up (hr.mono (by first | decide | omega)) rfl T.mg_unlike T.F_unlike.kp T.b_unlike .nil pass1 (pa_cons (pe_ix (ix_listK K rfl) (pv 0) pe_int (fun _ _ => rfl)) pa_nil)) (pa_cons (pe_call G_unlike.up (hr.mono (by first | decide | omega)) rfl T.mg_unlike T.F_unlike.kp T.b_unlike .nil pass1 (pa_cons (pe_comp (N := ["row"]) (cap := [none]) rfl ⟨rfl, rfl, rfl, rfl, rfl, rfl⟩ (pi_list (pv 0)) (fun _ _ _ => (pg_name (i := 0) (show (["row"] : List Str).Nodup by decide +kernel) rfl (Or.inl rfl))) (fun _ _ _ => pts_nil) (fun _ _ _ => (pe_ix (ix_listK K rfl) (pv 0) pe_int (fun _ _ => rfl)))) pa_nil)) pa_nil))))) fun _ _ => ?_
  walk_at "rd"
  refine ⟨l, rows, rfl, tb, g, b, fun lf xs H1 s1 n1 e1 pw => ?_⟩
  walk_at "rd"
  refine rd_lenL e1 ?_
  walk_at "rd"
  have tb1 := tb.mono s1
  cases hev : evs rows (rows.length - 1) with
  | cons p r =>
   rw [hev] at pw
   obtain ⟨v, vr, rfl, ⟨a, rfl, ha⟩, _⟩ := pw.inv
   rw [decide_eq_true (by show (((vr.length + 1 : Nat)) : Int) > 0; omega)]
   walk_at "rd"
   refine rd_ixL (SqL.of e1) (atI_nat (j := 0) rfl) ?_
   walk_at "rd"
   refine rd_raiseI ?_
   walk_at "rd"
   refine rd_ixT (SqT.of ha) (v := .int p.1) rfl ?_
   walk_at "rd"
   refine rd_ixT (SqT.of ha) (v := .int p.2) rfl ?_
   walk_at "rd"
   obtain ⟨x, y, rfl, hx, hy⟩ := evs_mem (rows := rows) (n := rows.length - 1) (p := p) (by rw [hev]; exact List.mem_cons_self)
   refine ⟨by show 2 ≤ sizeLine; decide, fun e he => ⟨e, x, y, rfl, by omega, by omega, upd_same, fun d hd ne H2 kp ee ed fr => ⟨rfl, some d, ee, ?_⟩⟩⟩
   refine k2 _ _ hev d _ (s1.trans fun c o z => ?_) (by rw [del_ne ne]; exact ed)
   have hc : c ≠ e := fun q => by rw [q, he] at z; cases z
   rw [del_ne hc]
   exact kp c o (by rw [upd_ne hc]; exact z) hc
  | nil =>
   have k1 := k1 hev
   rw [hev] at pw
   have : xs = [] := List.eq_nil_of_length_eq_zero pw.1
   subst this
   rw [decide_eq_false (by decide)]
   walk_at "rd"
   obtain ⟨xs0, a0, q1, q2, q3⟩ := tb1.row (i := 0) (by decide) (by omega)
   rw [show (0 : Int).toNat = 0 from rfl] at q3
   refine rd_ixL (SqL.of q1) q2 ?_
   walk_at "rd"
   have w0 : (rows.getD 0 []).length = wdT rows := rfl
   refine rd_ixL (SqL.of q3) (atI_ints (i := 0) (by decide) (by omega)) ?_
   have e00 : (rows.getD 0 []).getD (0 : Int).toNat 0 = getT rows 0 0 := rfl
   rw [e00]
   walk_at "rd"
   refine rd_ixL (SqL.of q1) q2 ?_
   walk_at "rd"
   refine ⟨a0, _, rfl, q3, by omega, by omega, fun l2 H2 s2 n2 e2 => ?_⟩
   walk_at "rd"
   obtain ⟨ys, hl2, ly2, it2⟩ := tbl_at (tb1.mono s2)
   refine ⟨⟨_, SqL.of hl2⟩, fun l3 n3 => ?_⟩
   refine compW_listL ((colT rows).map V.int) (by rw [List.length_map, colT_len, ly2]) (SqL.of hl2) (by omega) n3 (fun i x y o H' Q' hx hy s3 q => ?_) (fun H3 s3 e3 => ?_)
   ·have hi : i < rows.length := by rw [← ly2]; exact (List.getElem?_eq_some_iff.mp hx).1
    obtain ⟨a, rfl, ha⟩ := it2 i x _ hx (List.getElem?_eq_getElem hi)
    unfold colT at hy
    rw [List.getElem?_map, List.getElem?_map, List.getElem?_eq_getElem hi] at hy
    cases hy
    walk_at "rd"
    have := g5 _ (List.getElem_mem hi)
    refine rd_ixL (SqL.of (s3 _ _ ha)) (atI_ints (i := 0) (by decide) (by omega)) ?_
    exact q H' (Same.refl _)
   ·walk_at "rd"
    refine ⟨l3, colT rows, rfl, e3, by rw [colT_len]; omega, by rw [colT_len]; omega, fun l4 H4 s4 n4 e4 => ?_⟩
    walk_at "rd"
    intro x dx nx ndx nex
    have sM : Same H4 (upd (upd H4 dx (.own x)) x (.ins t.a_Cloth dx [])) := (Same.new ndx).later nx
    have b1 := unl_bits (r := rows.getD 0 []) (by omega)
    have b2 := unl_bits (r := colT rows) (by rw [colT_len]; omega)
    have b0 : getT rows 0 0 = 0 ∨ getT rows 0 0 = 1 := getD_bit (goodT_row g b g1).2 0
    have s14 := s2.trans (s3.trans s4)
    refine ⟨x, dx, l2, l4, _, _, _, rfl, upd_same, sM _ _ (s4 _ _ (s3 _ _ e2)), sM _ _ e4, by have := b1.1; omega, by have := b2.1; omega, .inr (.inr ⟨⟨b1.1, b2.1⟩, Bits.ok b0 b1 b2, fun HC kp hX => ⟨rfl, ?_⟩⟩)⟩
    exact k1 x HC (s1.trans (s14.trans (made_at (c := 0) (r := 0) nx ndx kp))) ((s1.trans s14).free nx) hX
end
section
variable {K : PySem.W.Frag} {σ : L2.St} {H : Hp} {Q : VK} {te : TE} {cap : List (Option Nat)} {l : Addr}
theorem compW_rangeR2 {n : Nat} (R : Nat → V → Hp → Prop) (hz : n ≤ 1000) (hl : H l = none) (mono : ∀ i v H1 H2, SameBut l H1 H2 → R i v H1 → R i v H2)
  (step : ∀ i o H' (Q' : VK), i < n → Same H H' → (∃ ys : List V, H' l = some (.lst ys) ∧ ys.length = i ∧ ∀ (j : Nat) v, ys[j]? = some v → R j v H') → (∀ v H5, Same H' H5 → R i v H5 → Q' v H5) → te (((capS (none :: cap) σ).set 0 o).set 0 (some (.int ((0 : Int) + (i : Nat))))) H' Q')
  (fin : ∀ ys H', Same H H' → H' l = some (.lst ys) → ys.length = n → (∀ (i : Nat) v, ys[i]? = some v → R i v H') → Q (.ref l) H') : CompW (Itr 0 n) (gName 0) tTrue te (none :: cap) l σ H Q := by
 refine ⟨n, fun i ys σ' H' => ys.length = i ∧ (∀ (j : Nat) v, ys[j]? = some v → R j v H') ∧ (∃ o, σ' = (capS (none :: cap) σ).set 0 o) ∧ Same H H' ∧ H' l = some (.lst ys), ⟨rfl, fun j v e => by simp at e, ⟨none, rfl⟩, Same.new hl, upd_same⟩, ?_, ?_⟩
 ·rintro i ys σ' H' hi ⟨ly, hR, ⟨o, rfl⟩, s, e⟩
  refine ⟨hi, fun x H2 y => ?_⟩
  obtain ⟨e2, rfl⟩ := y
  subst e2
  refine rd_name (rd_true (iteT ?_))
  refine step i o H2 _ hi s ⟨ys, e, ly, hR⟩ fun v H5 s5 r => ⟨s5 _ _ e, small1000 (by omega), ?_⟩
  have sb : SameBut l H5 (upd H5 l (.lst (ys ++ [v]))) := fun b u eb hb => by rw [upd_ne hb]; exact eb
  refine ⟨by rw [List.length_append, ly]; rfl, fun j u ej => ?_, ⟨_, List.set_set ..⟩, (s.trans s5).later hl, upd_same⟩
  by_cases hj : j < ys.length
  ·rw [List.getElem?_append_left hj] at ej
   exact mono j u _ _ sb (mono j u _ _ (s5.but l) (hR j u ej))
  ·rw [List.getElem?_append_right (by omega)] at ej
   have : j = i := by
    have hh := (List.getElem?_eq_some_iff.mp ej).1
    rw [List.length_singleton] at hh
    omega
   subst this
   rw [ly, Nat.sub_self] at ej
   cases ej
   exact mono j _ _ _ sb r
 ·rintro ys σ' H' ⟨ly, hR, _, s, e⟩
  exact ⟨Nat.le_refl _, fin ys H' s e ly hR⟩
end
section
variable {P : Program} {w : World} {K : PySem.W.Frag} {mg : Str → Option Value} {base : Heap} {t : Ad}
def PwR (H : Hp) (as : List Addr) (rows : List (List Int)) : Prop := as.length = rows.length ∧ ∀ (i : Nat) a r, as[i]? = some a → rows[i]? = some r → H a = some (.lst (r.map V.int))
def ptD (q : Int × Int) : PyData := .tuple [.int q.1, .int q.2]
theorem rep_pt {H : Hp} {v : V} {q : Int × Int} (h : Pt H v q) : Rep H (ptD q) v := by
 obtain ⟨a, rfl, ha⟩ := h
 unfold ptD
 simp only [Rep, RepL]
 exact ⟨a, _, rfl, ha, _, _, rfl, rfl, _, _, rfl, rfl, rfl⟩
theorem repL_pts {H : Hp} : ∀ {xs : List V} {ps : List (Int × Int)}, PwPt H xs ps → RepL H (ps.map ptD) xs
 | [], [], _ => by simp only [List.map_nil, RepL]
 | [], _ :: _, h => by have := h.1; simp at this
 | _ :: _, [], h => by have := h.1; simp at this
 | v :: xs, p :: ps, h => by
  obtain ⟨v', r, e, h1, h2⟩ := h.inv
  cases e
  simp only [List.map_cons, RepL]
  exact ⟨v, xs, rfl, rep_pt h1, repL_pts h2⟩
theorem rep_pts {H : Hp} {l : Addr} {xs : List V} {ps : List (Int × Int)} (e : H l = some (.lst xs)) (h : PwPt H xs ps) : Rep H (.list (ps.map ptD)) (.ref l) := by
 simp only [Rep]
 exact ⟨l, xs, rfl, e, repL_pts h⟩
def tbD (rows : List (List Int)) : PyData := .list (rows.map fun r => PyData.list (r.map PyData.int))
theorem tbD_eqv (rows : List (List Int)) : PyData.eqv (tbD rows) (tbD rows) = true := by
 unfold tbD
 simp only [PyData.eqv]
 induction rows with
 | nil => rfl
 | cons r rows ih => simp only [List.map_cons, PyData.eqvAll, PyData.eqv, eqv_ints, decide_true, Bool.true_and]; exact ih
theorem tbD_lay : ∀ rows : List (List Int), PyData.canLayAll0 (rows.map fun r => PyData.list (r.map PyData.int)) = true
 | [] => rfl
 | r :: rows => by simp only [List.map_cons, PyData.canLayAll0, PyData.canLay0, lay_ints, tbD_lay rows, Bool.and_self]
theorem tbD_deep : ∀ rows : List (List Int), PyData.depthAll (rows.map fun r => PyData.list (r.map PyData.int)) ≤ 1
 | [] => Nat.zero_le _
 | r :: rows => by
  have := tbD_deep rows
  simp only [List.map_cons, PyData.depthAll, PyData.depth, deep_ints]
  omega
theorem tbD_shp (rows : List (List Int)) : SeqAt.shaped (tbD rows) = true := by
 have h1 := tbD_lay rows
 have h2 := tbD_deep rows
 unfold tbD
 simp only [SeqAt.shaped, PyData.canLay0, PyData.depth, h1, Bool.true_and]
 simp
 omega
theorem tblOf_good {s : Int} {cs rs : List Int} (lc : cs.length ≤ 39) (lr : rs.length ≤ 39) : GoodT (tblOf s cs rs (rs.length + 1)) ∧ bitsT (tblOf s cs rs (rs.length + 1)) = true := by
 have hr : ∀ r ∈ tblOf s cs rs (rs.length + 1), r.length = cs.length + 1 ∧ ∀ z ∈ r, z = 0 ∨ z = 1 := fun r hm => by
  unfold tblOf at hm
  obtain ⟨y, _, rfl⟩ := List.mem_map.mp hm
  refine ⟨rowOf_len _ _ _ _ _, fun z hz => ?_⟩
  unfold rowOf at hz
  obtain ⟨x, _, rfl⟩ := List.mem_map.mp hz
  exact colr_bit _ _ _ _ _
 have ll := tblOf_len s cs rs (rs.length + 1)
 have ew : wdT (tblOf s cs rs (rs.length + 1)) = cs.length + 1 := by
  unfold wdT
  rw [List.getD_eq_getElem?_getD, List.getElem?_eq_getElem (by omega)]
  exact (hr _ (List.getElem_mem _)).1
 exact ⟨⟨by rw [ll]; omega, by rw [ew]; omega, fun r hm => by rw [ew]; exact (hr r hm).1⟩, bitsT_iff.mpr fun r hm => (hr r hm).2⟩
theorem choose_rows {H : Hp} {l : Addr} {n : Nat} : ∀ {ys : List V}, (∀ (i : Nat) v, ys[i]? = some v → ∃ b bs, v = .ref b ∧ b ≠ l ∧ H b = some (.lst (List.map V.int bs)) ∧ bs.length = n ∧ ∀ z ∈ bs, z = 0 ∨ z = 1) → ∃ as rows, ys = as.map V.ref ∧ PwR H as rows ∧ (∀ a ∈ as, a ≠ l) ∧ (∀ r ∈ rows, r.length = n ∧ ∀ z ∈ r, z = 0 ∨ z = 1) ∧ rows.length = ys.length
 | [], _ => ⟨[], [], rfl, ⟨rfl, fun i a r e => by simp at e⟩, (fun _ h => nomatch h), (fun _ h => nomatch h), rfl⟩
 | v :: ys, h => by
  obtain ⟨b, bs, rfl, hb, hB, hl, hz⟩ := h 0 v rfl
  obtain ⟨as, rows, e1, p, q, r, ll⟩ := choose_rows (ys := ys) fun i v hv => h (i + 1) v (by simpa using hv)
  refine ⟨b :: as, bs :: rows, by rw [e1]; rfl, ⟨by rw [List.length_cons, List.length_cons, p.1], fun i a r e1 e2 => ?_⟩, fun a ha => ?_, fun x hx => ?_, by rw [List.length_cons, List.length_cons, ll]⟩
  ·cases i with
   | zero => simp only [List.getElem?_cons_zero, Option.some.injEq] at e1 e2; subst e1 e2; exact hB
   | succ i => exact p.2 i a r (by simpa using e1) (by simpa using e2)
  ·rcases List.mem_cons.mp ha with rfl | ha
   ·exact hb
   ·exact q a ha
  ·rcases List.mem_cons.mp hx with rfl | hx
   ·exact ⟨hl, hz⟩
   ·exact r x hx
end
section
variable {P : Program} {w : World} {K : PySem.W.Frag} {mg : Str → Option Value} {base : Heap} {t : Ad}
theorem pic_tbl {H' : Hp} {l : Addr} {as : List Addr} {s : Int} {cs rs : List Int} (e : H' l = some (.lst (as.map V.ref))) (hl : as.length = rs.length + 1) (h : ∀ (i : Nat) a, as[i]? = some a → a ≠ l ∧ H' a = some (.lst ((rowOf s cs rs (i : Nat) (cs.length + 1)).map V.int))) : TblAt H' l (tblOf s cs rs (rs.length + 1)) :=
 ⟨as, e, by rw [tblOf_len]; exact hl, fun i a r e1 e2 => by
  have hi : i < rs.length + 1 := by have := (List.getElem?_eq_some_iff.mp e1).1; omega
  have e3 := tblOf_get (s := s) (cs := cs) (rs := rs) hi
  rw [List.getD_eq_getElem?_getD, e2] at e3
  have e3 : r = _ := e3
  rw [e3]
  exact h i a e1⟩
def sp_clothof (C : Addr) : Sp := fun vs H Q _ => ∃ (l : Addr) (rows : List (List Int)), vs = [.ref l] ∧ TblAt H l rows ∧ GoodT rows ∧ bitsT rows = true ∧ evs rows (rows.length - 1) = [] ∧
 ∀ x H', Same H H' → H x = none → ClothAt C H' x (getT rows 0 0) (unl (rows.getD 0 [])) (unl (colT rows)) → Q (.ref x) H'
theorem ok_clothof (T : Txt K mg t) : FnOk P w K mg base CX0 9 t.f_clothof t.d_clothof ["table"] (sp_clothof t.a_Cloth) :=
 (okx_clothof T).down fun vs H Q E hh => by
  obtain ⟨l, rows, e, tb, g, b, n, k⟩ := hh
  exact ⟨l, rows, e, tb, g, b, fun _ => k, fun p r z => by rw [n] at z; cases z⟩
def sp_Ltried : Sp := fun vs H Q _ => ∃ (l : Addr) (rows : List (List Int)), vs = [.ref l] ∧ TblAt H l rows ∧ GoodT rows ∧ bitsT rows = true ∧
 (evs rows (rows.length - 1) = [] → ∀ tp c r lp H', Same H H' → H' tp = some (.tup [.str "yes", .int (getT rows 0 0), .ref c, .ref r, .ref lp]) → H' c = some (.lst ((unl (rows.getD 0 [])).map V.int)) → H' r = some (.lst ((unl (colT rows)).map V.int)) → TblAt H' lp rows → Q (.ref tp) H') ∧
 (∀ p r, evs rows (rows.length - 1) = p :: r → ∀ tp H', Same H H' → H' tp = some (.tup [.str "no", .int p.1, .int p.2, .bl true]) → Q (.ref tp) H')
theorem ok_Ltried (T : Txt K mg t) : FnOk P w K mg base CX0 11 t.f_Ltried t.d_Ltried ["_law_table_here"] sp_Ltried := by
 have GX_clothof := okx_clothof (P := P) (w := w) (base := base) T
 have G_picture := ok_picture (P := P) (w := w) (base := base) T
 have G_Clothshade := ok_Clothshade (P := P) (w := w) (base := base) T
 have G_Clothcols := ok_Clothcols (P := P) (w := w) (base := base) T
 have G_Clothrows := ok_Clothrows (P := P) (w := w) (base := base) T
 refine T.F_Ltried.ok sc_Ltried (fun vs H Q E h => ?_) (fun cdv A outer s H vs Q E hr h => ?_)
 ·obtain ⟨l, rows, rfl, _⟩ := h; rfl
 ·obtain ⟨l, rows, rfl, tb, g, b, k1, k2⟩ := h
  obtain ⟨⟨g1, g2⟩, ⟨g3, g4⟩, g5⟩ := id g
  refine ⟨_, (pss_cons (ps_try (i := 2) sc_Ltried.nd rfl rfl rfl T.mg_NoPicture (fun _ _ => (pss_one (ps_set (i := 1) sc_Ltried.nd rfl (Or.inl rfl) (pe_callS GX_clothof (hr.mono (by first | decide | omega)) rfl T.mg_clothof T.F_clothof.kp T.b_clothof .nil passT (pa_cons (pv 0) pa_nil))))) (fun _ => (pss_one (ps_ret (pe_tup (pa_cons pe_str (pa_cons (pe_fldXK K rfl (pv 2) rfl) (pa_cons (pe_fldXK K rfl (pv 2) rfl) (pa_cons (pe_and (pe_callB (cI_isinstXK K rfl) rfl T.no_isinstance (by rfl) (pa_cons (pv 2) (pa_cons (pe_glob (v := .ref _) rfl T.mg_SewError rfl) pa_nil))) (pe_one (pe_callB (cI_isinstXK K rfl) rfl T.no_isinstance (by rfl) (pa_cons (pv 2) (pa_cons (pe_bltn (v := .ty "ValueError") rfl T.no_ValueError (by rfl : bootBuiltins "ValueError" = some (.type "ValueError")) rfl) pa_nil))))) pa_nil))))))))) (pss_one (ps_ret (pe_tup (pa_cons pe_str (pa_cons (pe_meth0 (pv 1) T.cl_Cloth T.m_Clothshade G_Clothshade (hr.mono (by first | decide | omega)) T.b_Clothshade .nil pass0) (pa_cons (pe_meth0 (pv 1) T.cl_Cloth T.m_Clothcols G_Clothcols (hr.mono (by first | decide | omega)) T.b_Clothcols .nil pass0) (pa_cons (pe_meth0 (pv 1) T.cl_Cloth T.m_Clothrows G_Clothrows (hr.mono (by first | decide | omega)) T.b_Clothrows .nil pass0) (pa_cons (pe_call G_picture (hr.mono (by first | decide | omega)) rfl T.mg_picture T.F_picture.kp T.b_picture .nil pass0 (pa_cons (pv 1) pa_nil)) pa_nil))))))))), ?_⟩
  walk_at "rd"
  refine ⟨l, rows, rfl, tb, g, b, fun n x H1 s1 nx hC => ?_, fun p r ev d H1 s1 ed => ?_⟩
  ·have b1 := unl_bits (r := rows.getD 0 []) (by show wdT rows ≤ 40; omega)
   have b2 := unl_bits (r := colT rows) (by rw [colT_len]; omega)
   obtain ⟨dx, a', b', e1, e2, e3⟩ := hC.ob
   have nl : ∀ {s : Int} {a b : Addr} {w h : Int} {m : Str}, NoF m → (cfl s a b w h).lookup m = none := fun x => cfl_no _ _ _ x
   walk_at "rd"
   refine rd_methv e1 (nl (by decide +kernel)) ?_
   walk_at "rd"
   refine ⟨x, _, _, _, rfl, hC, ?_⟩
   walk_at "rd"
   refine rd_methv e1 (nl (by decide +kernel)) ?_
   walk_at "rd"
   refine ⟨x, _, _, _, rfl, hC, fun l1 n1 => ?_⟩
   have t1 := Same.new (o := HO.lst ((unl (rows.getD 0 [])).map V.int)) n1
   have f1 := upd_same (H := H1) (a := l1) (o := HO.lst ((unl (rows.getD 0 [])).map V.int))
   generalize upd H1 l1 (HO.lst ((unl (rows.getD 0 [])).map V.int)) = H2 at t1 f1 ⊢
   walk_at "rd"
   refine rd_methv (t1 _ _ e1) (nl (by decide +kernel)) ?_
   walk_at "rd"
   refine ⟨x, _, _, _, rfl, hC.mono t1, fun l2 n2 => ?_⟩
   have t2 := Same.new (o := HO.lst ((unl (colT rows)).map V.int)) n2
   have f2 := upd_same (H := H2) (a := l2) (o := HO.lst ((unl (colT rows)).map V.int))
   generalize upd H2 l2 (HO.lst ((unl (colT rows)).map V.int)) = H3 at t2 f2 ⊢
   walk_at "rd"
   refine ⟨x, _, _, _, rfl, hC.mono (t1.trans t2), b1, b2, fun lp as H4 s4 _ _ e4 la hR => ?_⟩
   have tp4 := pic_tbl e4 la hR
   rw [tbl_of g b n] at tp4
   walk_at "rd"
   refine ⟨by show 5 ≤ sizeLine; decide, fun tp ht => ?_⟩
   have t5 := Same.new (o := HO.tup [V.str "yes", V.int (getT rows 0 0), V.ref l1, V.ref l2, V.ref lp]) ht
   exact k1 n tp l1 l2 lp _ (s1.trans (t1.trans (t2.trans (s4.trans t5)))) upd_same (t5 _ _ (s4 _ _ (t2 _ _ f1))) (t5 _ _ (s4 _ _ f2)) (tp4.mono t5)
  ·refine ⟨t.a_NoPicture, rfl, T.ct_NoPicture, fun e he => ?_⟩
   have ne : d ≠ e := fun z => by rw [z, he] at ed; cases ed
   have ed' : upd H1 e (ExcX e t.a_NoPicture (some d)) d = some (XdO d (xyF p.1 p.2)) := by rw [upd_ne ne]; exact ed
   walk_at "rd"
   refine rd_fldX ?_
   walk_at "rd"
   refine ⟨e, t.a_NoPicture, d, _, .int p.1, rfl, upd_same, ed', T.xi_NoPicture, T.mx_NoPicture.ei, T.nx_NoPicture_x, xyF_x _ _, ?_⟩
   walk_at "rd"
   refine rd_fldX ?_
   walk_at "rd"
   refine ⟨e, t.a_NoPicture, d, _, .int p.2, rfl, upd_same, ed', T.xi_NoPicture, T.mx_NoPicture.ei, T.nx_NoPicture_y, xyF_y _ _, ?_⟩
   walk_at "rd"
   refine rd_isiX upd_same T.xi_NoPicture T.kt_NoPicture_SewError ?_
   walk_at "rd"
   refine rd_isiXT upd_same T.xi_NoPicture T.kt_NoPicture_ValueError ?_
   walk_at "rd"
   refine ⟨by show 4 ≤ sizeLine; decide, fun tp ht => ?_⟩
   exact k2 p r ev tp _ (s1.trans ((Same.new he).trans (Same.new ht))) upd_same
end
section
variable {P : Program} {w : World} {K : PySem.W.Frag} {mg : Str → Option Value} {base : Heap} {t : Ad}
theorem lay_pts : ∀ ps : List (Int × Int), PyData.canLayAll0 (ps.map ptD) = true
 | [] => rfl
 | _ :: r => by simp [PyData.canLayAll0, PyData.canLay0, ptD, lay_pts r]
theorem deep_pts : ∀ ps : List (Int × Int), PyData.depthAll (ps.map ptD) ≤ 1
 | [] => Nat.zero_le _
 | q :: r => by
  have := deep_pts r
  have e : PyData.depth (ptD q) ≤ 1 := by simp [ptD, PyData.depth, PyData.depthAll]
  simp only [List.map_cons, PyData.depthAll]
  omega
theorem shp_pts (ps : List (Int × Int)) : SeqAt.shaped (.list (ps.map ptD)) = true := by
 unfold SeqAt.shaped
 rw [Bool.and_eq_true]
 refine ⟨by simp only [PyData.canLay0]; exact lay_pts ps, decide_eq_true ?_⟩
 have := deep_pts ps
 simp only [PyData.depth]
 omega
theorem rd_neNil {H : Hp} {Q : VK} {l m : Addr} {xs : List V} {ps : List (Int × Int)} (e : H l = some (.lst xs)) (h : PwPt H xs ps) (e' : H m = some (.lst [])) (q : Q (.bl (!ps.isEmpty)) H) : rEqD true (.ref l) (.ref m) H Q :=
 ⟨_, _, rep_pts e h, rep_pts (ps := []) e' PwPt.nil, shp_pts _, shp_pts _, by
  rw [if_pos rfl]
  cases ps with
  | nil => exact q
  | cons p r => simp only [List.map_cons, List.map_nil, PyData.eqv, PyData.eqvAll]; exact q⟩
theorem tbl_s {s : Int} {cs rs : List Int} {n : Nat} (h : s = 0 ∨ s = 1) : getT (tblOf s cs rs (n + 1)) 0 0 = s := by
 unfold getT
 rw [tblOf_get (Nat.succ_pos _), rowOf_get (Nat.succ_pos _)]
 exact colr_0 h
theorem tbl_c {s : Int} {cs rs : List Int} {n : Nat} (bc : Bits cs) : unl ((tblOf s cs rs (n + 1)).getD 0 []) = cs := by
 rw [tblOf_get (Nat.succ_pos _)]
 refine List.ext_getElem (by rw [unl_len, rowOf_len]; omega) fun k h1 h2 => ?_
 have e := unl_get (r := rowOf s cs rs ((0 : Nat) : Int) (cs.length + 1)) (k := k) (by rw [rowOf_len]; omega)
 rw [List.getD_eq_getElem?_getD, List.getElem?_eq_getElem h1] at e
 have e : (unl (rowOf s cs rs ((0 : Nat) : Int) (cs.length + 1)))[k] = _ := e
 rw [e, rowOf_get (by omega), rowOf_get (by omega), show (((k + 1 : Nat)) : Int) = (k : Int) + 1 by omega, colr_right h2]
 have eb : cs.getD k 0 = cs[k] := by rw [List.getD_eq_getElem?_getD, List.getElem?_eq_getElem h2]; rfl
 have b := bc.2 _ (List.getElem_mem h2)
 rw [eb]
 have cb := colr_bit s cs rs (k : Int) ((0 : Nat) : Int)
 generalize colr s cs rs (k : Int) ((0 : Nat) : Int) = u at cb ⊢
 generalize cs[k] = v at b ⊢
 by_cases c : (((0 : Nat) : Int) + v) % 2 = 1
 ·rw [decide_eq_true c, if_pos rfl]; omega
 ·rw [decide_eq_false c, if_neg (by decide)]; omega
theorem tbl_r {s : Int} {cs rs : List Int} (br : Bits rs) : unl (colT (tblOf s cs rs (rs.length + 1))) = rs := by
 refine List.ext_getElem (by rw [unl_len, colT_len, tblOf_len]; omega) fun k h1 h2 => ?_
 have e := unl_get (r := colT (tblOf s cs rs (rs.length + 1))) (k := k) (by rw [colT_len, tblOf_len]; omega)
 rw [List.getD_eq_getElem?_getD, List.getElem?_eq_getElem h1] at e
 have e : (unl (colT (tblOf s cs rs (rs.length + 1))))[k] = _ := e
 have gt : ∀ y : Nat, y < rs.length + 1 → getT (tblOf s cs rs (rs.length + 1)) y 0 = colr s cs rs 0 (y : Int) := fun y hy => by
  unfold getT
  rw [tblOf_get hy, rowOf_get (Nat.succ_pos _)]; rfl
 rw [e, colT_get (by rw [tblOf_len]; omega), colT_get (by rw [tblOf_len]; omega), gt k (by omega), gt (k + 1) (by omega), show (((k + 1 : Nat)) : Int) = (k : Int) + 1 by omega, colr_up h2]
 have eb : rs.getD k 0 = rs[k] := by rw [List.getD_eq_getElem?_getD, List.getElem?_eq_getElem h2]; rfl
 have b := br.2 _ (List.getElem_mem h2)
 rw [eb]
 have cb := colr_bit s cs rs 0 (k : Int)
 generalize colr s cs rs 0 (k : Int) = u at cb ⊢
 generalize rs[k] = v at b ⊢
 by_cases c : ((0 : Int) + v) % 2 = 1
 ·rw [decide_eq_true c, if_pos rfl]; omega
 ·rw [decide_eq_false c, if_neg (by decide)]; omega
theorem ok_no4 (x y : Int) : Ok3 (.tuple [.str "no", .int x, .int y, .bool true]) := .inr (.inr ⟨_, rfl, by show 4 ≤ 1000; decide, fun e he => by
 simp only [List.mem_cons, List.not_mem_nil, or_false] at he
 rcases he with rfl | rfl | rfl | rfl
 ·exact okS_str (by decide +kernel)
 ·exact okS_int _
 ·exact okS_int _
 ·exact okS_bool _⟩)
theorem rep_no4 {H : Hp} {a : Addr} {x y : Int} (h : H a = some (.tup [.str "no", .int x, .int y, .bl true])) : Rep H (.tuple [.str "no", .int x, .int y, .bool true]) (.ref a) := by
 simp only [Rep, RepL]
 exact ⟨a, _, rfl, h, _, _, rfl, rfl, _, _, rfl, rfl, _, _, rfl, rfl, _, _, rfl, rfl, rfl⟩
def yesD (s : Int) (cs rs : List Int) : PyData := .tuple [.str "yes", .int s, .list (cs.map PyData.int), .list (rs.map PyData.int)]
theorem ok_yes {s : Int} {cs rs : List Int} (bc : Bits cs) (br : Bits rs) : Ok3 (yesD s cs rs) := .inr (.inr ⟨_, rfl, by show 4 ≤ 1000; decide, fun e he => by
 simp only [List.mem_cons, List.not_mem_nil, or_false] at he
 rcases he with rfl | rfl | rfl | rfl
 ·exact okS_str (by decide +kernel)
 ·exact okS_int _
 ·exact okS_ints (by have := bc.1; omega)
 ·exact okS_ints (by have := br.1; omega)⟩)
theorem rep_yes {H : Hp} {a c r : Addr} {s : Int} {cs rs : List Int} (h : H a = some (.tup [.str "yes", .int s, .ref c, .ref r])) (hc : H c = some (.lst (cs.map V.int))) (hr : H r = some (.lst (rs.map V.int))) : Rep H (yesD s cs rs) (.ref a) := by
 have r1 := rep_ints hc
 have r2 := rep_ints hr
 simp only [yesD, Rep, RepL] at r1 r2 ⊢
 exact ⟨a, _, rfl, h, _, _, rfl, rfl, _, _, rfl, rfl, _, _, rfl, r1, _, _, rfl, r2, rfl⟩
theorem ok_tbD {rows : List (List Int)} (g : GoodT rows) : Ok3 (tbD rows) := .inr (.inl ⟨_, rfl, by rw [List.length_map]; have := g.1.2; omega, fun e he => by
 obtain ⟨r, hr, rfl⟩ := List.mem_map.mp he
 exact okS_ints (by have := g.2.2 r hr; have := g.2.1.2; omega)⟩)
def sp_law (K : PySem.W.Frag) : Sp := fun vs H Q _ => ∃ (a : Addr) (ns : List Int), vs = [.ref a] ∧ SqL K H a (ns.map V.int) ∧ ns.length ≤ 63 ∧ ∀ H', Q (.bl true) H'
theorem ok_law (T : Txt K mg t) : FnOk P w K mg base CX0 13 t.f_law t.d_law ["_law_script"] (sp_law K) := by
 have G_Ldraws := ok_Ldraws (P := P) (w := w) (base := base) T
 have G_Lplan := ok_Lplan (P := P) (w := w) (base := base) T
 have G_Ltable := ok_Ltable (P := P) (w := w) (base := base) T
 have G_Lrow := ok_Lrow (P := P) (w := w) (base := base) T
 have G_Lspots := ok_Lspots (P := P) (w := w) (base := base) T
 have G_Leven := ok_Leven (P := P) (w := w) (base := base) T
 have G_Lsame := ok_Lsame (P := P) (w := w) (base := base) T
 have G_Ltried := ok_Ltried (P := P) (w := w) (base := base) T
 have G_clothof := ok_clothof (P := P) (w := w) (base := base) T
 have G_picture := ok_picture (P := P) (w := w) (base := base) T
 have G_Clothcolour := ok_Clothcolour (P := P) (w := w) (base := base) T
 refine T.F_law.ok sc_law (fun vs H Q E h => ?_) (fun cdv A outer s H vs Q E hr h => ?_)
 ·obtain ⟨a, ns, rfl, _⟩ := h; rfl
 ·obtain ⟨a, ns, rfl, hS, hl, z⟩ := h
  refine cutC (ps_set (i := 1) sc_law.nd rfl (Or.inr rfl) (pe_call G_Ldraws (hr.mono (by first | decide | omega)) rfl T.mg_Ldraws T.F_Ldraws.kp T.b_Ldraws .nil pass0 (pa_cons (pv 0) (pa_cons pe_int pa_nil)))) fun _ _ => cutC (ps_set (i := 2) sc_law.nd rfl (Or.inl rfl) (pe_call G_Lplan (hr.mono (by first | decide | omega)) rfl T.mg_Lplan T.F_Lplan.kp T.b_Lplan .nil pass0 (pa_cons (pv 1) pa_nil))) fun _ _ => cutC (ps_set (i := 3) sc_law.nd rfl (Or.inr rfl) (pe_call G_Ltable (hr.mono (by first | decide | omega)) rfl T.mg_Ltable T.F_Ltable.kp T.b_Ltable .nil pass0 (pa_cons (pv 2) pa_nil))) fun _ _ => cutC (ps_set (i := 4) sc_law.nd rfl (Or.inl rfl) pe_int) fun _ _ => cutC (ps_join (ps_if (pt_cmpR op_eq (pe_op op_mod (pe_ix (ix_listK K rfl) (pv 1) pe_int (fun _ _ => rfl)) pe_int) pe_int (nomark _)) (pss_cons (ps_set (i := 3) sc_law.nd rfl (Or.inr rfl) (pe_comp (N := ["_law_y", "_law_some", "_law_table_here"]) (cap := [none, some 1, some 3]) rfl ⟨rfl, rfl, rfl, rfl, rfl, rfl⟩ (pi_range1 rfl T.no_range (pa_cons (pe_callB (cI_lenK K rfl) rfl T.no_len (by rfl) (pa_cons (pv 3) pa_nil)) pa_nil)) (fun _ _ _ => (pg_name (i := 0) (show (["_law_y", "_law_some", "_law_table_here"] : List Str).Nodup by decide +kernel) rfl (Or.inl rfl))) (fun _ _ _ => pts_nil) (fun _ _ _ => (pe_call G_Lrow (hr.mono (by first | decide | omega)) rfl T.mg_Lrow T.F_Lrow.kp T.b_Lrow .nil pass0 (pa_cons (pe_slice (sl_listK K rfl) (pv 1) (po_some (pe_op op_add pe_int (pe_op op_mod (pv 0) pe_int))) po_none) (pa_cons (pe_callB (cI_lenK K rfl) rfl T.no_len (by rfl) (pa_cons (pe_ix (ix_listK K rfl) (pv 2) pe_int (fun _ _ => rfl)) pa_nil)) pa_nil)))))) (pss_one (ps_set (i := 4) sc_law.nd rfl (Or.inl rfl) pe_int))) (pss_one (ps_if (pt_cmpR op_gt (pe_op op_mod (pe_ix (ix_listK K rfl) (pv 1) pe_int (fun _ _ => rfl)) pe_int) pe_int (nomark _)) (pss_cons (ps_set (i := 4) sc_law.nd rfl (Or.inl rfl) (pe_op op_mod (pe_op op_fdiv (pe_ix (ix_listK K rfl) (pv 1) pe_int (fun _ _ => rfl)) pe_int) pe_int)) (pss_one (ps_set (i := 3) sc_law.nd rfl (Or.inr rfl) (pe_call G_Lspots (hr.mono (by first | decide | omega)) rfl T.mg_Lspots T.F_Lspots.kp T.b_Lspots .nil pass0 (pa_cons (pe_slice (sl_listK K rfl) (pv 1) (po_some pe_int) po_none) (pa_cons (pv 3) (pa_cons (pv 4) pa_nil))))))) pss_nil)))) fun _ _ => cutC (ps_set (i := 5) sc_law.nd rfl (Or.inl rfl) (pe_call G_Leven (hr.mono (by first | decide | omega)) rfl T.mg_Leven T.F_Leven.kp T.b_Leven .nil pass0 (pa_cons (pv 3) pa_nil))) fun _ _ => cutC (ps_setC (i := 6) sc_law.nd rfl (Or.inl rfl) (N := ["_law_row_here"]) (cap := [none]) rfl ⟨rfl, rfl, rfl, rfl, rfl, rfl⟩ (pi_list (pv 3)) (fun _ _ _ => (pg_name (i := 0) (show (["_law_row_here"] : List Str).Nodup by decide +kernel) rfl (Or.inl rfl))) (fun _ _ _ => pts_nil) (fun _ _ _ => (pe_callTy (cI_listK K rfl) rfl T.no_list (by rfl) (pa_cons (pv 0) pa_nil))) (by rfl)) fun _ _ => cutC (ps_set (i := 7) sc_law.nd rfl (Or.inl rfl) (pe_call G_Ltried (hr.mono (by first | decide | omega)) rfl T.mg_Ltried T.F_Ltried.kp T.b_Ltried .nil pass0 (pa_cons (pv 6) pa_nil))) fun _ _ => cutC (ps_if (pt_cmpR (op_neD hr.units) (pv 6) (pv 3) (nomark _)) (pss_one (ps_ret pe_bl)) pss_nil) fun _ _ => cutC (ps_if (pt_cmpR (op_neD hr.units) (pv 5) (pe_lst pa_nil) (nomark _)) (pss_one (ps_ret (pe_call G_Lsame (hr.mono (by first | decide | omega)) rfl T.mg_Lsame T.F_Lsame.kp T.b_Lsame .nil pass0 (pa_cons (pv 7) (pa_cons (pe_tup (pa_cons pe_str (pa_cons (pe_ix (ix_tupK K rfl) (pe_ix (ix_listK K rfl) (pv 5) pe_int (fun _ _ => rfl)) pe_int (fun _ _ => rfl)) (pa_cons (pe_ix (ix_tupK K rfl) (pe_ix (ix_listK K rfl) (pv 5) pe_int (fun _ _ => rfl)) pe_int (fun _ _ => rfl)) (pa_cons pe_bl pa_nil))))) pa_nil))))) pss_nil) fun _ _ => cutC (ps_join (ps_if (PW.pt (pw_and (pt_cmpR op_eq (pv 4) pe_int (nomark _)) (pw_and1 (pt_not (pt_val (pe_call G_Lsame (hr.mono (by first | decide | omega)) rfl T.mg_Lsame T.F_Lsame.kp T.b_Lsame .nil pass0 (pa_cons (pe_slice (sl_tupK K rfl) (pv 7) po_none (po_some pe_int)) (pa_cons (pe_tup (pa_cons pe_str (pa_cons (pe_ix (ix_tupK K rfl) (pv 2) pe_int (fun _ _ => rfl)) (pa_cons (pe_ix (ix_tupK K rfl) (pv 2) pe_int (fun _ _ => rfl)) (pa_cons (pe_ix (ix_tupK K rfl) (pv 2) pe_int (fun _ _ => rfl)) pa_nil))))) pa_nil)))))))) (pss_one (ps_ret pe_bl)) pss_nil)) fun _ _ => cutC (ps_if (PW.pt (pw_or (pt_cmpR op_ne (pe_ix (ix_tupK K rfl) (pv 7) pe_int (fun _ _ => rfl)) pe_str (nomark _)) (pw_or1 (pt_not (pt_val (pe_call G_Lsame (hr.mono (by first | decide | omega)) rfl T.mg_Lsame T.F_Lsame.kp T.b_Lsame .nil pass0 (pa_cons (pe_ix (ix_tupK K rfl) (pv 7) pe_int (fun _ _ => rfl)) (pa_cons (pv 3) pa_nil)))))))) (pss_one (ps_ret pe_bl)) pss_nil) fun _ _ => cutC (ps_set (i := 8) sc_law.nd rfl (Or.inl rfl) (pe_call G_clothof (hr.mono (by first | decide | omega)) rfl T.mg_clothof T.F_clothof.kp T.b_clothof .nil pass0 (pa_cons (pv 6) pa_nil))) fun _ _ => cutC (ps_par (i := 9) (j := 10) rfl sc_law.nd rfl rfl (by decide) rfl rfl (pa_cons (pe_op op_mod (pe_ix (ix_listK K rfl) (pv 1) pe_int (fun _ _ => rfl)) (pe_callB (cI_lenK K rfl) rfl T.no_len (by rfl) (pa_cons (pe_ix (ix_listK K rfl) (pv 3) pe_int (fun _ _ => rfl)) pa_nil))) (pa_cons (pe_op op_mod (pe_ix (ix_listK K rfl) (pv 1) pe_int (fun _ _ => rfl)) (pe_callB (cI_lenK K rfl) rfl T.no_len (by rfl) (pa_cons (pv 3) pa_nil))) pa_nil)) (by rfl)) fun _ _ => cutC (ps_asg (pe_op op_sub pe_int (pe_ix (ix_listK K rfl) (pe_ix (ix_listK K rfl) (pv 6) (pv 10) (fun _ _ => rfl)) (pv 9) (fun _ _ => rfl))) (pg_sub (pe_ix (ix_listK K rfl) (pv 6) (pv 10) (fun _ _ => rfl)) (pv 9) set_list)) fun _ _ => cutC (ps_expr (pe_bm PySem.F.plainAttrs_list PySem.F.slot_list_append PySem.F.type_list_append mt_append (pv 6) (pa_cons (pe_lst pa_nil) pa_nil))) fun _ _ => cutE (ps_ret (pe_and (pe_call G_Lsame (hr.mono (by first | decide | omega)) rfl T.mg_Lsame T.F_Lsame.kp T.b_Lsame .nil pass0 (pa_cons (pe_call G_picture (hr.mono (by first | decide | omega)) rfl T.mg_picture T.F_picture.kp T.b_picture .nil pass0 (pa_cons (pv 8) pa_nil)) (pa_cons (pv 3) pa_nil))) (pe_one (pe_call G_Lsame (hr.mono (by first | decide | omega)) rfl T.mg_Lsame T.F_Lsame.kp T.b_Lsame .nil pass0 (pa_cons (pe_meth (pv 8) T.cl_Cloth T.m_Clothcolour G_Clothcolour (hr.mono (by first | decide | omega)) T.b_Clothcolour .nil pass0 (pa_cons (pv 9) (pa_cons (pv 10) pa_nil))) (pa_cons (pe_ix (ix_listK K rfl) (pe_ix (ix_listK K rfl) (pv 3) (pv 10) (fun _ _ => rfl)) (pv 9) (fun _ _ => rfl)) pa_nil)))))) fun _ _ => ?_
  walk_at "rd"
  refine ⟨a, 34, ns, rfl, hS, hl, by decide, fun ls zs H1 s1 es lz _ sm => ?_⟩
  walk_at "rd"
  refine ⟨ls, zs, rfl, es, by omega, fun pp s cs rs H2 s2 pl => ?_⟩
  walk_at "rd"
  have es := s2 _ _ es
  refine ⟨pp, s, cs, rs, rfl, pl, fun l H3 s3 nl3 tb => ?_⟩
  have es := s3 _ _ es
  have pl := pl.mono s3
  obtain ⟨gd, bt⟩ := tblOf_good (s := s) (cs := cs) (rs := rs) pl.bc.1 pl.br.1
  obtain ⟨rows0, hrows0⟩ : ∃ r0, r0 = tblOf s cs rs (rs.length + 1) := ⟨_, rfl⟩
  rw [← hrows0] at tb gd bt
  walk_at "rd"
  refine rd_join (fun σ' H' => ∃ (l : Addr) (rows : List (List Int)) (ch : Int), σ' = [some (.ref a), some (.ref ls), some (.ref pp), some (.ref l), some (.int ch), none, none, none, none, none, none] ∧ Same H3 H' ∧ TblAt H' l rows ∧ GoodT rows ∧ bitsT rows = true ∧ (ch = 0 → rows = rows0)) ?_ ?_
  ·obtain ⟨⟨g1, g2⟩, ⟨g3, g4⟩, g5⟩ := id gd
   have I12 : atI (zs.map V.int) 12 = _ := atI_ints (by decide) (by omega)
   generalize zs.getD (12 : Int).toNat 0 = z12 at I12
   walk_at "rd"
   refine rd_ixL (SqL.of es) I12 ?_
   walk_at "rd"
   refine rd_I (by decide) ?_
   walk_at "rd"
   refine ite2 (fun _ => ?_) (fun _ => ?_)
   ·obtain ⟨xs, hl3, lx, _⟩ := tbl_at tb
    walk_at "rd"
    refine rd_lenL hl3 ?_
    rw [lx]
    walk_at "rd"
    refine ⟨_, rfl, by omega, by omega, fun l4 n4 => ?_⟩
    rw [Int.toNat_natCast]
    refine compW_rangeR2 (fun i v H' => ∃ b bs, v = .ref b ∧ b ≠ l4 ∧ H' b = some (.lst (List.map V.int bs)) ∧ bs.length = wdT rows0 ∧ ∀ z ∈ bs, z = 0 ∨ z = 1) (by omega) n4 (fun i v Ha Hb sb q => ?_) (fun i o H' Q' hi s4 hl4 q => ?_) (fun ys H4 s4 e4 ly hR => ?_)
    ·obtain ⟨b, bs, rfl, hb, hB, r⟩ := q
     exact ⟨b, bs, rfl, hb, sb _ _ hB hb, r⟩
    ·rw [Int.zero_add]
     walk_at "rd"
     refine rd_I (by decide) ?_
     walk_at "rd"
     obtain ⟨m, hm, m1, m2⟩ : ∃ m : Nat, (13 : Int) + ((i : Nat) : Int) % 16 = m ∧ 13 ≤ m ∧ m ≤ 28 := ⟨13 + i % 16, by omega, by omega, by omega⟩
     rw [hm]
     refine rd_slS (s4 _ _ es) fun u5 H5 s5 _ e5 => ?_
     rw [cutV_drop] at e5
     obtain ⟨xs6, a6, q1, q2, q3⟩ := (tb.mono (s4.trans s5)).row (i := 0) (by omega) (by omega)
     rw [show (0 : Int).toNat = 0 from rfl] at q3
     walk_at "rd"
     refine rd_ixL (SqL.of q1) q2 ?_
     walk_at "rd"
     refine rd_lenL q3 ?_
     rw [List.length_map, show (rows0.getD 0 []).length = wdT rows0 from rfl]
     walk_at "rd"
     refine ⟨u5, wdT rows0, zs.drop m, rfl, e5, by rw [List.length_drop]; omega, by omega, fun lb bs H6 s6 e6 l6 b6 => ?_⟩
     obtain ⟨yy, hyy, lyy, hRR⟩ := hl4
     refine q (.ref lb) H6 (s5.trans s6) ⟨lb, bs, rfl, fun zz => ?_, e6, l6, b6⟩
     have e7 := s6 _ _ (s5 _ _ hyy)
     rw [← zz, e6] at e7
     injection e7 with e7
     injection e7 with e7
     cases bs with
     | nil => rw [← l6] at g3; exact absurd g3 (by decide)
     | cons b0 bs =>
      obtain ⟨b', _, hb', _⟩ := hRR 0 (.int b0) (by rw [← e7]; rfl)
      cases hb'
    ·obtain ⟨as, rows', e5, p, q, r, ll⟩ := choose_rows (fun i v hv => hR i v hv)
     subst e5
     have tb4 : TblAt H4 l4 rows' := ⟨as, e4, p.1, fun i a r e1 e2 => ⟨q a (List.mem_of_getElem? e1), p.2 i a r e1 e2⟩⟩
     have l0 : rows'.length = rows0.length := by rw [ll, ly]
     have ew : wdT rows' = wdT rows0 := by
      show (rows'.getD 0 []).length = _
      rw [List.getD_eq_getElem?_getD, List.getElem?_eq_getElem (by omega)]
      exact (r _ (List.getElem_mem _)).1
     walk_at "rd"
     exact ⟨l4, rows', 1, rfl, s4, tb4, ⟨by rw [l0]; exact ⟨g1, g2⟩, by rw [ew]; exact ⟨g3, g4⟩, fun x hx => by rw [ew]; exact (r x hx).1⟩, bitsT_iff.mpr fun x hx => (r x hx).2, fun h => absurd h (by decide)⟩
   ·walk_at "rd"
    refine rd_ixL (SqL.of es) I12 ?_
    walk_at "rd"
    refine rd_I (by decide) ?_
    walk_at "rd"
    refine ite2 (fun _ => ?_) (fun _ => ?_)
    ·walk_at "rd"
     refine rd_ixL (SqL.of es) I12 ?_
     walk_at "rd"
     refine rd_I ⟨by decide, by decide⟩ ?_
     walk_at "rd"
     refine rd_I (by decide) ?_
     walk_at "rd"
     refine rd_slS es fun l5 H5 s5 _ e5 => ?_
     replace e5 : H5 l5 = some (.lst ((zs.drop 13).map V.int)) := e5.trans (congrArg (fun x => some (HO.lst x)) (cutV_drop (k := 13)))
     walk_at "rd"
     obtain ⟨m, hm, m4⟩ : ∃ m : Nat, z12 / 5 % 5 = (m : Int) ∧ m ≤ 4 := ⟨(z12 / 5 % 5).toNat, by omega, by omega⟩
     rw [hm]
     refine ⟨l5, l, zs.drop 13, m, rows0, rfl, e5, tb.mono s5, gd, bt, by omega, by rw [List.length_drop]; omega, fun lt rows' H6 s6 tf6 g6 ew6 el6 b6 i0 => ?_⟩
     walk_at "rd"
     exact ⟨lt, rows', m, rfl, s5.trans s6, tf6.tbl, g6, b6, fun h => i0 (by omega)⟩
    ·walk_at "rd"
     exact ⟨l, rows0, 0, rfl, Same.refl _, tb, gd, bt, fun _ => rfl⟩
  rintro σ' H4 ⟨lt, rows, ch, rfl, s4, tb4, g, b, h0⟩
  have es := s4 _ _ es
  have pl := pl.mono s4
  clear tb gd bt s4 s3 s2 s1 nl3
  obtain ⟨⟨g1, g2⟩, ⟨g3, g4⟩, g5⟩ := id g
  walk_at "rd"
  refine ⟨lt, rows, rfl, tb4, g, b, fun lb xb H5 s5 nb5 e5 pw5 => ?_⟩
  have es := s5 _ _ es
  have pl := pl.mono s5
  have tb5 := tb4.mono s5
  clear tb4 s5 nb5
  obtain ⟨xs5, hl5, lx5, it5⟩ := tbl_at tb5
  walk_at "rd"
  refine ⟨⟨_, SqL.of hl5⟩, fun lh nlh => ?_⟩
  refine compW_listN (fun i b H' => ∀ r, rows[i]? = some r → H' b = some (.lst (r.map V.int))) (SqL.of hl5) (by omega) nlh (fun i b Ha Hb sb hb q r hr => sb _ _ (q r hr) hb) (fun i x o H' Q' hx s8 q => ?_) (fun as H6 s6 e6 la nd hR => ?_)
  ·have hi : i < rows.length := by rw [← lx5]; exact (List.getElem?_eq_some_iff.mp hx).1
   obtain ⟨a', rfl, ha⟩ := it5 i x _ hx (List.getElem?_eq_getElem hi)
   walk_at "rd"
   refine rd_listL (s8 _ _ ha) fun u nu => ?_
   exact q u _ (Same.new nu) nu ⟨_, upd_same⟩ fun r hr => by rw [List.getElem?_eq_getElem hi] at hr; cases hr; exact upd_same
  have tfh := copyF lx5 nlh e6 la nd hR
  clear hR e6 la nd
  have es6 := s6 _ _ es
  have pl6 := pl.mono s6
  have tb6 := tb5.mono s6
  have e56 := s6 _ _ e5
  have pw6 := pw5.mono s6
  walk_at "rd"
  refine ⟨lh, rows, rfl, tfh.tbl, g, b, fun hev => ?_, fun p r hev tp H7 s7 etp => ?_⟩
  rotate_left
  ·walk_at "rd"
   refine ⟨tbD rows, tbD rows, (tfh.tbl.mono s7).rep, (tb6.mono s7).rep, tbD_shp _, tbD_shp _, ?_⟩
   rw [tbD_eqv, show (if (true : Bool) = true then !true else true) = false from rfl]
   walk_at "rd"
   refine ⟨by show 0 ≤ sizeLine; decide, fun ln nln => ?_⟩
   have sln := Same.new (o := HO.lst []) nln
   have eln := upd_same (H := H7) (a := ln) (o := HO.lst [])
   generalize upd H7 ln (HO.lst []) = H8 at sln eln ⊢
   refine rd_neNil (sln _ _ (s7 _ _ e56)) (pw6.mono (s7.trans sln)) eln ?_
   have pw8 := pw6.mono (s7.trans sln)
   have e8 := sln _ _ (s7 _ _ e56)
   rw [hev] at pw8 ⊢
   rw [show (!(p :: r).isEmpty) = true from rfl]
   obtain ⟨v, vr, rfl, ⟨ap, rfl, hap⟩, _⟩ := pw8.inv
   walk_at "rd"
   refine rd_ixL (SqL.of e8) (atI_nat (j := 0) rfl) ?_
   walk_at "rd"
   refine rd_ixT (SqT.of hap) (v := .int p.1) rfl ?_
   walk_at "rd"
   refine rd_ixL (SqL.of e8) (atI_nat (j := 0) rfl) ?_
   walk_at "rd"
   refine rd_ixT (SqT.of hap) (v := .int p.2) rfl ?_
   walk_at "rd"
   refine ⟨by show 4 ≤ sizeLine; decide, fun tn ntn => ?_⟩
   have stn := Same.new (o := HO.tup [V.str "no", V.int p.1, V.int p.2, V.bl true]) ntn
   have etn := upd_same (H := H8) (a := tn) (o := HO.tup [V.str "no", V.int p.1, V.int p.2, V.bl true])
   generalize upd H8 tn (HO.tup [V.str "no", V.int p.1, V.int p.2, V.bl true]) = H9 at stn etn ⊢
   exact ⟨_, _, _, rfl, ok_no4 p.1 p.2, rep_no4 (stn _ _ (sln _ _ etp)), rep_no4 etn, fun H10 _ => z H10⟩
  intro tp c r lp H7 s7 etp hc hr' tbp
  have es7 := s7 _ _ es6
  have pl7 := pl6.mono s7
  have tb7 := tb6.mono s7
  have tfh7 := tfh.mono s7
  have e57 := s7 _ _ e56
  have pw7 := pw6.mono s7
  walk_at "rd"
  refine ⟨tbD rows, tbD rows, tfh7.tbl.rep, tb7.rep, tbD_shp _, tbD_shp _, ?_⟩
  rw [tbD_eqv, show (if (true : Bool) = true then !true else true) = false from rfl]
  walk_at "rd"
  refine ⟨by show 0 ≤ sizeLine; decide, fun ln nln => ?_⟩
  have sln := Same.new (o := HO.lst []) nln
  have eln := upd_same (H := H7) (a := ln) (o := HO.lst [])
  generalize upd H7 ln (HO.lst []) = H8 at sln eln ⊢
  refine rd_neNil (sln _ _ e57) (pw7.mono sln) eln ?_
  rw [hev, show (!([] : List (Int × Int)).isEmpty) = false from rfl]
  have b1 := unl_bits (r := rows.getD 0 []) (by show wdT rows ≤ 40; omega)
  have b2 := unl_bits (r := colT rows) (by rw [colT_len]; omega)
  have es8 := sln _ _ es7
  have pl8 := pl7.mono sln
  have tb8 := tb7.mono sln
  have tfh8 := tfh7.mono sln
  have etp8 := sln _ _ etp
  have hc8 := sln _ _ hc
  have hr8 := sln _ _ hr'
  have tbp8 := tbp.mono sln
  walk_at "rd"
  refine rd_join (fun σ' H' => σ' = [some (.ref a), some (.ref ls), some (.ref pp), some (.ref lt), some (.int ch), some (.ref lb), some (.ref lh), some (.ref tp), none, none, none] ∧ Same H8 H') ?_ ?_
  ·walk_at "rd"
   by_cases c0 : ch = 0
   ·rw [decide_eq_true c0]
    walk_at "rd"
    refine rd_slT etp8 fun H9 tq s9 e9 => ?_
    have ec : ∀ v1 v2 v3 v4 v5 : V, cutV [v1, v2, v3, v4, v5] none (some 4) = [v1, v2, v3, v4] := fun v1 v2 v3 v4 v5 => by rw [show (some (4 : Int)) = some ((4 : Nat) : Int) from rfl, cutV_takeG]; rfl
    rw [ec] at e9
    obtain ⟨⟨pc, pr, hpp, hpc, hpr⟩, sh, bc, br⟩ := id (pl8.mono s9)
    have hpp : H9 pp = some (.tup [.int s, .ref pc, .ref pr]) := hpp
    walk_at "rd"
    refine rd_ixT (SqT.of hpp) (v := .int s) rfl ?_
    walk_at "rd"
    refine rd_ixT (SqT.of hpp) (v := .ref pc) rfl ?_
    walk_at "rd"
    refine rd_ixT (SqT.of hpp) (v := .ref pr) rfl ?_
    walk_at "rd"
    refine ⟨by show 4 ≤ sizeLine; decide, fun tn ntn => ?_⟩
    have stn := Same.new (o := HO.tup [V.str "yes", V.int s, V.ref pc, V.ref pr]) ntn
    have etn := upd_same (H := H9) (a := tn) (o := HO.tup [V.str "yes", V.int s, V.ref pc, V.ref pr])
    generalize upd H9 tn (HO.tup [V.str "yes", V.int s, V.ref pc, V.ref pr]) = H10 at stn etn ⊢
    have s810 := s9.trans stn
    have er := h0 c0
    have q1 : getT rows 0 0 = s := by rw [er, hrows0]; exact tbl_s sh
    have q2 : unl (rows.getD 0 []) = cs := by rw [er, hrows0]; exact tbl_c bc
    have q3 : unl (colT rows) = rs := by rw [er, hrows0]; exact tbl_r br
    have hcA := s810 _ _ hc8
    have hrA := s810 _ _ hr8
    have e9A := stn _ _ e9
    rw [q2] at hcA
    rw [q3] at hrA
    rw [q1] at e9A
    walk_at "rd"
    refine ⟨_, _, _, rfl, ok_yes bc br, rep_yes e9A hcA hrA, rep_yes etn (stn _ _ hpc) (stn _ _ hpr), fun H11 s11 => ?_⟩
    walk_at "rd"
    exact ⟨rfl, s810.trans s11⟩
   ·rw [decide_eq_false c0]
    walk_at "rd"
    exact ⟨rfl, Same.refl _⟩
  rintro σ' H9 ⟨rfl, s9⟩
  have etp9 := s9 _ _ etp8
  walk_at "rd"
  refine rd_ixT (SqT.of etp9) (v := .str "yes") rfl ?_
  walk_at "rd"
  refine rd_neS ?_
  rw [decide_eq_true rfl]
  walk_at "rd"
  refine rd_ixT (SqT.of etp9) (v := .ref lp) rfl ?_
  walk_at "rd"
  refine ⟨_, _, tbD rows, rfl, ok_tbD g, (tbp8.mono s9).rep, (tb8.mono s9).rep, fun H10 s10 => ?_⟩
  have s8A := s9.trans s10
  have tfhA := tfh8.mono s8A
  walk_at "rd"
  refine ⟨lh, rows, rfl, tfhA.tbl, g, b, hev, fun x H11 s11 nx hC => ?_⟩
  have s8B := s8A.trans s11
  have esB := s8B _ _ es8
  have tbB := tb8.mono s8B
  have tfhB := tfhA.mono s11
  have s5B := s6.trans (s7.trans (sln.trans s8B))
  clear tfhA tfh8 tfh7 s8A s9 s10 etp9 etp8 etp s8B hc8 hr8 tbp8 tb8 pl8 es8
  obtain ⟨xsB, hlB, lxB, _⟩ := tbl_at tbB
  obtain ⟨xs1, a1, q1, q2, q3⟩ := tbB.row (i := 0) (by decide) (by omega)
  rw [show (0 : Int).toNat = 0 from rfl] at q3
  walk_at "rd"
  refine rd_par ?_
  walk_at "rd"
  refine rd_ixL (SqL.of esB) (atI_ints (i := 31) (by decide) (by omega)) ?_
  walk_at "rd"
  refine rd_ixL (SqL.of q1) q2 ?_
  walk_at "rd"
  refine rd_lenL q3 ?_
  rw [List.length_map, show (rows.getD 0 []).length = wdT rows from rfl]
  walk_at "rd"
  refine rd_I (show (0 : Int) < ((wdT rows : Nat) : Int) by omega) ?_
  walk_at "rd"
  refine rd_ixL (SqL.of esB) (atI_ints (i := 32) (by decide) (by omega)) ?_
  walk_at "rd"
  refine rd_lenL hlB ?_
  rw [lxB]
  walk_at "rd"
  refine rd_I (show (0 : Int) < ((rows.length : Nat) : Int) by omega) ?_
  generalize zs.getD (31 : Int).toNat 0 = z1
  generalize zs.getD (32 : Int).toNat 0 = z2
  have p0 := Int.emod_nonneg z1 (show ((wdT rows : Nat) : Int) ≠ 0 by omega)
  have p1 := Int.emod_lt_of_pos z1 (show (0 : Int) < (wdT rows : Nat) by omega)
  obtain ⟨mx, hx, xl⟩ : ∃ x : Nat, z1 % ((wdT rows : Nat) : Int) = x ∧ x < wdT rows := ⟨(z1 % ((wdT rows : Nat) : Int)).toNat, by omega, by omega⟩
  have p2 := Int.emod_nonneg z2 (show ((rows.length : Nat) : Int) ≠ 0 by omega)
  have p3 := Int.emod_lt_of_pos z2 (show (0 : Int) < (rows.length : Nat) by omega)
  obtain ⟨my, hy, yl⟩ : ∃ y : Nat, z2 % ((rows.length : Nat) : Int) = y ∧ y < rows.length := ⟨(z2 % ((rows.length : Nat) : Int)).toNat, by omega, by omega⟩
  rw [hx, hy]
  obtain ⟨w1, b1'⟩ := goodT_row g b yl
  obtain ⟨as', ar, f1, f2, f3, f4, f5, f6⟩ := tfhB.set (i := my) yl ((rows.getD my []).set mx (1 - (rows.getD my []).getD mx 0))
  walk_at "rd"
  refine ⟨_, _, rfl, ?_⟩
  walk_at "rd"
  refine rd_ixL (SqL.of f1) (atI_nat f2) ?_
  walk_at "rd"
  refine rd_ixL (SqL.of f3) (atI_ints (i := ((mx : Nat) : Int)) (by omega) (by omega)) ?_
  rw [Int.toNat_natCast]
  walk_at "rd"
  refine rd_ixL (SqL.of f1) (atI_nat f2) ?_
  walk_at "rd"
  refine rd_setl f3 (ixN_of (by rw [List.length_map]; omega)) ?_
  rw [← List.map_set]
  -- what stands apart from the handed table stays
  obtain ⟨dx, ca, cb, d1, d2, d3⟩ := hC.ob
  have hC12 : ClothAt t.a_Cloth (upd H11 ar (.lst (((rows.getD my []).set mx (1 - (rows.getD my []).getD mx 0)).map V.int))) x (getT rows 0 0) (unl (rows.getD 0 [])) (unl (colT rows)) :=
   ⟨⟨dx, ca, cb, by rw [upd_ne (ne_of d1 f3 (by intro q; cases q))]; exact d1, by rw [upd_ne (ne_of d2 f3 (by intro q; cases q))]; exact d2, by rw [upd_ne (ne_of d3 f3 (by intro q; cases q))]; exact d3⟩⟩
  obtain ⟨as5, i1, i2, i3⟩ := id tb5.ob
  have s512 : Same H5 (upd H11 ar (.lst (((rows.getD my []).set mx (1 - (rows.getD my []).getD mx 0)).map V.int))) := fun c o e => by rw [upd_ne (ne_of_none e f4)]; exact s5B _ _ e
  obtain ⟨xsH, hlH, lxH, _⟩ := tbl_at f6.tbl
  generalize upd H11 ar (.lst (((rows.getD my []).set mx (1 - (rows.getD my []).getD mx 0)).map V.int)) = H12 at hC12 s512 hlH ⊢
  rw [List.length_set] at lxH
  walk_at "rd"
  refine rd_bmL hlH ?_
  walk_at "rd"
  refine ⟨by show 0 ≤ sizeLine; decide, fun le nle => ?_⟩
  have sle := Same.new (o := HO.lst []) nle
  have ele := upd_same (H := H12) (a := le) (o := HO.lst [])
  generalize upd H12 le (HO.lst []) = H13 at sle ele ⊢
  walk_at "rd"
  refine rd_append (sle _ _ hlH) (small1000 (by omega)) ?_
  have hC13 := hC12.mono sle
  obtain ⟨dx', ca', cb', d1', d2', d3'⟩ := hC13.ob
  have hlH3 := sle _ _ hlH
  have hC14 : ClothAt t.a_Cloth (upd H13 lh (.lst (xsH ++ [V.ref le]))) x (getT rows 0 0) (unl (rows.getD 0 [])) (unl (colT rows)) :=
   ⟨⟨dx', ca', cb', by rw [upd_ne (ne_of d1' hlH3 (by intro q; cases q))]; exact d1', by rw [upd_ne (ne_of d2' hlH3 (by intro q; cases q))]; exact d2', by rw [upd_ne (ne_of d3' hlH3 (by intro q; cases q))]; exact d3'⟩⟩
  have s514 : Same H5 (upd H13 lh (.lst (xsH ++ [V.ref le]))) := (s512.trans sle).later nlh
  generalize upd H13 lh (.lst (xsH ++ [V.ref le])) = H14 at hC14 s514 ⊢
  have tb14 := tb5.mono s514
  walk_at "rd"
  refine ⟨x, _, _, _, rfl, hC14, b1, b2, fun lp2 as2 H15 s15 _ _ e15 la2 hR2 => ?_⟩
  have tp15 := pic_tbl e15 la2 hR2
  rw [tbl_of g b hev] at tp15
  walk_at "rd"
  refine ⟨_, _, tbD rows, rfl, ok_tbD g, tp15.rep, (tb14.mono s15).rep, fun H16 s16 => ?_⟩
  have s1416 := s15.trans s16
  have hC16 := hC14.mono s1416
  have tb16 := tb14.mono s1416
  obtain ⟨dx6, ca6, cb6, d16, d26, d36⟩ := hC16.ob
  walk_at "rd"
  refine rd_methv d16 (cfl_no _ _ _ (by decide +kernel)) ?_
  walk_at "rd"
  have el1 : (unl (rows.getD 0 [])).length + 1 = wdT rows := by rw [unl_len]; show wdT rows - 1 + 1 = _; omega
  have el2 : (unl (colT rows)).length + 1 = rows.length := by rw [unl_len, colT_len]; omega
  refine ⟨x, (mx : Nat), (my : Nat), _, _, _, rfl, hC16, b1, b2, by omega, by omega, by omega, by omega, fun H17 s17 => ?_⟩
  rw [pic_of g b hev my mx yl xl]
  have tb17 := tb16.mono s17
  obtain ⟨xs9, a9, r1, r2, r3⟩ := tb17.row (i := ((my : Nat) : Int)) (by omega) (by omega)
  rw [Int.toNat_natCast] at r3
  walk_at "rd"
  refine rd_ixL (SqL.of r1) r2 ?_
  walk_at "rd"
  refine rd_ixL (SqL.of r3) (atI_ints (i := ((mx : Nat) : Int)) (by omega) (by omega)) ?_
  rw [Int.toNat_natCast]
  have eg : (rows.getD my []).getD mx 0 = getT rows my mx := rfl
  rw [eg]
  walk_at "rd"
  exact ⟨_, _, .int (getT rows my mx), rfl, okS_int _, by simp only [Rep], by simp only [Rep], fun H18 _ => z H18⟩
end
end My
set_option Elab.async false
set_option linter.all false
set_option maxRecDepth 100000
namespace PySem.W.Fast
theorem tw5083520652414989793:True:=⟨⟩
theorem tw14436095049668095491:True:=⟨⟩
theorem tw1946045175519561847:True:=⟨⟩
theorem tw1236117555878543079:True:=⟨⟩
theorem tw523385190993571769:True:=⟨⟩
theorem tw6662022024081629069:True:=⟨⟩
theorem tw2110621417340264289:True:=⟨⟩
theorem tw890135066825599548:True:=⟨⟩
theorem tw732005139704320176:True:=⟨⟩
theorem tw369740796195696754:True:=⟨⟩
theorem tw17285921930265345747:True:=⟨⟩
theorem tw3719420282310585556:True:=⟨⟩
theorem tw824260607597982123:True:=⟨⟩
theorem tw11429588033715172604:True:=⟨⟩
theorem tw12291203517944790594:True:=⟨⟩
theorem tw16055450367157481639:True:=⟨⟩
theorem tw9125195772829694312:True:=⟨⟩
theorem tw11438136759532681635:True:=⟨⟩
theorem tw442859170711207682:True:=⟨⟩
theorem tw423973342943695788:True:=⟨⟩
theorem tw8477142371693077706:True:=⟨⟩
theorem tw7937846278505236801:True:=⟨⟩
theorem tw15254613693681356438:True:=⟨⟩
theorem tw2101708680030916075:True:=⟨⟩
theorem tw12113692952562707375:True:=⟨⟩
theorem tw2118784057599119872:True:=⟨⟩
theorem tw14264958096090575228:True:=⟨⟩
theorem tw15256185345266916865:True:=⟨⟩
theorem tw6093484699665575228:True:=⟨⟩
theorem tw4208791338580460442:True:=⟨⟩
theorem tw5118545863386370045:True:=⟨⟩
theorem tw4757941539448983850:True:=⟨⟩
theorem tw4495099160451745980:True:=⟨⟩
theorem tw2467595573796503635:True:=⟨⟩
theorem tw15945877078125893766:True:=⟨⟩
theorem tw3654057511941899070:True:=⟨⟩
theorem tw16811976545269621575:True:=⟨⟩
theorem tw5872987555492534021:True:=⟨⟩
theorem tw16668305009878021089:True:=⟨⟩
theorem tw744604522064135495:True:=⟨⟩
theorem tw4119679162259857374:True:=⟨⟩
theorem tw3804739793090585843:True:=⟨⟩
theorem tw8497073774358808130:True:=⟨⟩
theorem tw8290889056473207168:True:=⟨⟩
theorem tw4316029404411483420:True:=⟨⟩
theorem tw8433315983869201594:True:=⟨⟩
theorem tw16041354892259778530:True:=⟨⟩
theorem tw1015190774349734782:True:=⟨⟩
theorem tw18312807299384524872:True:=⟨⟩
theorem tw12127758643609173473:True:=⟨⟩
theorem tw10426532963079407100:True:=⟨⟩
theorem tw5444275935432370419:True:=⟨⟩
theorem tw4653879051054381581:True:=⟨⟩
theorem tw14312689031843315601:True:=⟨⟩
theorem tw14076164988033208086:True:=⟨⟩
theorem tw16601044775703163244:True:=⟨⟩
theorem tw2827084746059323581:True:=⟨⟩
theorem tw4526627592532956226:True:=⟨⟩
theorem tw964847265380342031:True:=⟨⟩
theorem tw13386983149725852196:True:=⟨⟩
theorem tw11411994115962327879:True:=⟨⟩
theorem tw10869084582665139128:True:=⟨⟩
theorem tw4303936584814722806:True:=⟨⟩
theorem tw458326540187379254:True:=⟨⟩
theorem tw3682606463470341665:True:=⟨⟩
theorem tw5806520811229487880:True:=⟨⟩
theorem tw3194225755710769523:True:=⟨⟩
theorem tw14587921953823154541:True:=⟨⟩
theorem tw2029900740732739386:True:=⟨⟩
theorem tw69389499930535114:True:=⟨⟩
theorem tw8520283205169283547:True:=⟨⟩
theorem tw16822300727520526167:True:=⟨⟩
theorem tw14031144517404028468:True:=⟨⟩
theorem tw2418026291918716912:True:=⟨⟩
theorem tw2671070171602545272:True:=⟨⟩
theorem tw8440330487384867534:True:=⟨⟩
theorem tw6389871606449930266:True:=⟨⟩
theorem tw9752546134669806177:True:=⟨⟩
theorem tw10387561769769340611:True:=⟨⟩
theorem tw16980777016871045665:True:=⟨⟩
theorem tw6359391858578849386:True:=⟨⟩
theorem tw1969679764141735930:True:=⟨⟩
theorem tw11573766944357250377:True:=⟨⟩
theorem tw16223651034347205877:True:=⟨⟩
theorem tw3693636346223202405:True:=⟨⟩
theorem tw12290749655532972031:True:=⟨⟩
theorem tw9651143055428789483:True:=⟨⟩
theorem tw12542606080155439904:True:=⟨⟩
theorem tw12167541152318267491:True:=⟨⟩
theorem tw12611729664732404690:True:=⟨⟩
theorem tw6234808314278717856:True:=⟨⟩
theorem tw10601592360096023484:True:=⟨⟩
theorem tw7174221328740550530:True:=⟨⟩
theorem tw9989940571492243091:True:=⟨⟩
theorem tw5364332236756030480:True:=⟨⟩
theorem tw15768691404664438780:True:=⟨⟩
theorem tw11590291133514105463:True:=⟨⟩
theorem tw3594789790600433556:True:=⟨⟩
theorem tw2198112129250285039:True:=⟨⟩
theorem tw17817198060823582097:True:=⟨⟩
theorem tw17968522300679941060:True:=⟨⟩
theorem tw17637884341522490119:True:=⟨⟩
theorem tw10411044967109412326:True:=⟨⟩
theorem tw6603092627526768185:True:=⟨⟩
theorem tw11135661075108908779:True:=⟨⟩
theorem tw14721466870607362685:True:=⟨⟩
theorem tw11435062742810609063:True:=⟨⟩
theorem tw15140830781591925106:True:=⟨⟩
theorem tw4491099011413191529:True:=⟨⟩
theorem tw8511210312549603306:True:=⟨⟩
theorem tw4842090072501495682:True:=⟨⟩
theorem tw6544890170994912765:True:=⟨⟩
theorem tw9521588428397478887:True:=⟨⟩
theorem tw7463781252882459127:True:=⟨⟩
theorem tw16904282627987330210:True:=⟨⟩
theorem tw9148243697472239004:True:=⟨⟩
theorem tw6567576861145784372:True:=⟨⟩
theorem tw15380930632113108896:True:=⟨⟩
theorem tw17047934366166849018:True:=⟨⟩
theorem tw18416352377443018521:True:=⟨⟩
theorem tw11757851547199424715:True:=⟨⟩
theorem tw4533145157585087372:True:=⟨⟩
theorem tw16025247083228545835:True:=⟨⟩
theorem tw3386175457827639414:True:=⟨⟩
theorem tw14447769423570801267:True:=⟨⟩
theorem tw2100893874796074718:True:=⟨⟩
theorem tw8339918045076743012:True:=⟨⟩
theorem tw14561498745037813253:True:=⟨⟩
theorem tw1339164959067127395:True:=⟨⟩
theorem tw12752794094499109550:True:=⟨⟩
theorem tw18228704395131123148:True:=⟨⟩
theorem tw3583159739740835827:True:=⟨⟩
theorem tw9817223592930995955:True:=⟨⟩
theorem tw3732152028669259935:True:=⟨⟩
theorem tw6936871739313307110:True:=⟨⟩
theorem tw340877896986473591:True:=⟨⟩
theorem tw2855500933137258678:True:=⟨⟩
theorem tw9810207286861829544:True:=⟨⟩
theorem tw6138263012571680648:True:=⟨⟩
theorem tw10423100021660963104:True:=⟨⟩
theorem tw5896161600781330854:True:=⟨⟩
theorem tw1350735407502173917:True:=⟨⟩
theorem tw13629216030275014156:True:=⟨⟩
theorem tw15223383886484898241:True:=⟨⟩
theorem tw17082998160338205829:True:=⟨⟩
theorem tw1843549402162711778:True:=⟨⟩
theorem tw5573921177402700699:True:=⟨⟩
theorem tw10100708725536154878:True:=⟨⟩
theorem tw7403256977474394276:True:=⟨⟩
theorem tw7768627863316898703:True:=⟨⟩
theorem tw10591324505549477695:True:=⟨⟩
theorem tw14530187783815779458:True:=⟨⟩
theorem tw17192833780209016907:True:=⟨⟩
theorem tw680533847304032998:True:=⟨⟩
theorem tw18058647078695692596:True:=⟨⟩
theorem tw201557640488777106:True:=⟨⟩
theorem tw6203880865270548167:True:=⟨⟩
theorem tw10503708683855818259:True:=⟨⟩
theorem tw16665899690225163387:True:=⟨⟩
theorem tw18378611314991026620:True:=⟨⟩
theorem tw12300308366199048583:True:=⟨⟩
theorem tw13984737701047951881:True:=⟨⟩
theorem tw17749850988997986297:True:=⟨⟩
theorem tw17292294231585503601:True:=⟨⟩
theorem tw8828240988800576107:True:=⟨⟩
theorem tw9580927610285973553:True:=⟨⟩
theorem tw15869011575652847531:True:=⟨⟩
theorem tw11792519721882221197:True:=⟨⟩
theorem tw6275297460232794963:True:=⟨⟩
theorem tw12563421222141750947:True:=⟨⟩
theorem tw5883266626730375084:True:=⟨⟩
theorem tw5602497673160710678:True:=⟨⟩
theorem tw10125966879432008586:True:=⟨⟩
theorem tw8967788559641368733:True:=⟨⟩
theorem tw658497818714474075:True:=⟨⟩
theorem tw8404078741189372968:True:=⟨⟩
theorem tw3056728124618506546:True:=⟨⟩
theorem tw523712858674629318:True:=⟨⟩
theorem tw1266025368312810187:True:=⟨⟩
theorem tw1590960666785305659:True:=⟨⟩
theorem tw8066495785182379328:True:=⟨⟩
theorem tw15699234047921146750:True:=⟨⟩
theorem tw5624799076119203227:True:=⟨⟩
theorem tw1577786677040490512:True:=⟨⟩
theorem tw3353368651351980347:True:=⟨⟩
theorem tw16773526514238102563:True:=⟨⟩
theorem tw11713814286529894645:True:=⟨⟩
theorem tw5235325303107536866:True:=⟨⟩
theorem tw1658887672116381601:True:=⟨⟩
theorem tw477647595563623548:True:=⟨⟩
theorem tw15451055316137378783:True:=⟨⟩
theorem tw7659483906378957884:True:=⟨⟩
theorem tw15573807952402784309:True:=⟨⟩
theorem tw15978860267235068343:True:=⟨⟩
theorem tw15542487701947832546:True:=⟨⟩
theorem tw5408077041646100841:True:=⟨⟩
theorem tw13806915548194004065:True:=⟨⟩
theorem tw10876422381562293576:True:=⟨⟩
theorem tw6290217764587618682:True:=⟨⟩
theorem tw3443041893904443126:True:=⟨⟩
theorem tw16809286675666721704:True:=⟨⟩
theorem tw13043359418956252843:True:=⟨⟩
theorem tw15563670311781860056:True:=⟨⟩
theorem tw13546168939174842991:True:=⟨⟩
theorem tw10212581876939153944:True:=⟨⟩
theorem tw10931412318250448912:True:=⟨⟩
theorem tw11744871321108386748:True:=⟨⟩
theorem tw8190851371976020226:True:=⟨⟩
theorem tw10929064437118212143:True:=⟨⟩
theorem tw11902361119703183831:True:=⟨⟩
theorem tw14733521224065291076:True:=⟨⟩
theorem tw4951206527631231108:True:=⟨⟩
theorem tw7478758554870339773:True:=⟨⟩
theorem tw9514475265214802960:True:=⟨⟩
theorem tw3287790768671602022:True:=⟨⟩
theorem tw7058854500430318960:True:=⟨⟩
theorem tw9701629772895150801:True:=⟨⟩
theorem tw13993089153997416865:True:=⟨⟩
theorem tw5982864323566409102:True:=⟨⟩
theorem tw6695382613419672346:True:=⟨⟩
theorem tw8422772261673345404:True:=⟨⟩
theorem tw2929128447701488340:True:=⟨⟩
theorem tw18281912243623853895:True:=⟨⟩
theorem tw3938117099767186678:True:=⟨⟩
theorem tw12348877279923915662:True:=⟨⟩
theorem tw13260823304376354489:True:=⟨⟩
theorem tw1660098746127942565:True:=⟨⟩
theorem tw17778723150550542736:True:=⟨⟩
theorem tw820953089257119075:True:=⟨⟩
theorem tw3374283699892376091:True:=⟨⟩
theorem tw7928330425444737867:True:=⟨⟩
theorem tw11431042894806406375:True:=⟨⟩
theorem tw4654794987600981497:True:=⟨⟩
theorem tw3253475590120447965:True:=⟨⟩
theorem tw18033491076136688734:True:=⟨⟩
theorem tw6999515007599967487:True:=⟨⟩
theorem tw781017022025705340:True:=⟨⟩
theorem tw17865872699987733600:True:=⟨⟩
theorem tw14661786276293400479:True:=⟨⟩
theorem tw11847842860655220395:True:=⟨⟩
theorem tw16883998359731555808:True:=⟨⟩
theorem tw9248733027990262240:True:=⟨⟩
theorem tw2444366463552058070:True:=⟨⟩
theorem tw11282116065658129148:True:=⟨⟩
theorem tw14005059714760513719:True:=⟨⟩
theorem tw5120020655622208501:True:=⟨⟩
theorem tw14661111804037243848:True:=⟨⟩
theorem tw12778724981349787408:True:=⟨⟩
theorem tw3016421350888809206:True:=⟨⟩
theorem tw18251367369074810429:True:=⟨⟩
theorem tw11976787205076625559:True:=⟨⟩
theorem tw16731067293645526165:True:=⟨⟩
theorem tw16530073610920517846:True:=⟨⟩
theorem tw1383053741320085524:True:=⟨⟩
theorem tw567788736519529420:True:=⟨⟩
theorem tw5891702210419196288:True:=⟨⟩
theorem tw9369556490066607672:True:=⟨⟩
theorem tw17421767294413228691:True:=⟨⟩
theorem tw17504527365564345124:True:=⟨⟩
theorem tw4862826343949062543:True:=⟨⟩
theorem tw3671454708774952863:True:=⟨⟩
theorem tw4363973236312638723:True:=⟨⟩
theorem tw15691603068502732283:True:=⟨⟩
theorem tw899657703266046378:True:=⟨⟩
theorem tw18120922745274564058:True:=⟨⟩
theorem tw17744553693488810431:True:=⟨⟩
theorem tw3673393959884745089:True:=⟨⟩
theorem tw4247226029129026157:True:=⟨⟩
theorem tw3256844152858025794:True:=⟨⟩
theorem tw15533890163775137890:True:=⟨⟩
theorem tw754877404970208896:True:=⟨⟩
theorem tw4521975627996385300:True:=⟨⟩
theorem tw3086837367394636027:True:=⟨⟩
theorem tw13684010202908350137:True:=⟨⟩
theorem tw12576370360940663316:True:=⟨⟩
theorem tw8772794123857084406:True:=⟨⟩
theorem tw11972274500728032049:True:=⟨⟩
theorem tw17647362937010221434:True:=⟨⟩
theorem tw9516982231829661088:True:=⟨⟩
theorem tw1778496192020903977:True:=⟨⟩
theorem tw5543722925955988475:True:=⟨⟩
theorem tw13872181071518601864:True:=⟨⟩
theorem tw1942819128437563059:True:=⟨⟩
theorem tw3961281685906739081:True:=⟨⟩
theorem tw9479033958384553693:True:=⟨⟩
theorem tw2572026241860547966:True:=⟨⟩
theorem tw16960059360747736507:True:=⟨⟩
theorem tw6310872184563973655:True:=⟨⟩
theorem tw3166993551115829854:True:=⟨⟩
theorem tw10456213072584702378:True:=⟨⟩
theorem tw405478390896810177:True:=⟨⟩
theorem tw16018340964692755574:True:=⟨⟩
theorem tw4915178228358652466:True:=⟨⟩
theorem tw1007764696115615511:True:=⟨⟩
theorem tw8429765930341954849:True:=⟨⟩
theorem tw9885791448927713401:True:=⟨⟩
theorem tw2776755667513132482:True:=⟨⟩
theorem tw16651291998917401792:True:=⟨⟩
theorem tw11528402137664377674:True:=⟨⟩
theorem tw5773625419269641140:True:=⟨⟩
theorem tw6140624794400189731:True:=⟨⟩
theorem tw10886349914514443533:True:=⟨⟩
theorem tw16804609648148369143:True:=⟨⟩
theorem tw11863516669927152413:True:=⟨⟩
theorem tw14635201726621481114:True:=⟨⟩
theorem tw12293351716365809395:True:=⟨⟩
theorem tw2281945183459263766:True:=⟨⟩
theorem tw7906279979038616387:True:=⟨⟩
theorem tw7010079462471947097:True:=⟨⟩
theorem tw12208170188850254928:True:=⟨⟩
theorem tw4913058064877533119:True:=⟨⟩
theorem tw2361985787788258077:True:=⟨⟩
theorem tw16026963376842856715:True:=⟨⟩
theorem tw10532470299215513020:True:=⟨⟩
theorem tw16969749243041205394:True:=⟨⟩
theorem tw5677874760655000078:True:=⟨⟩
theorem tw10719164594056683706:True:=⟨⟩
theorem tw18179115741416532865:True:=⟨⟩
theorem tw3147062042098596962:True:=⟨⟩
theorem tw549207281538216754:True:=⟨⟩
theorem tw18139726823682552877:True:=⟨⟩
theorem tw12738127465245404809:True:=⟨⟩
theorem tw15860461040559731823:True:=⟨⟩
theorem tw2414623888169803632:True:=⟨⟩
theorem tw13906064568614504405:True:=⟨⟩
theorem tw7533440999879335337:True:=⟨⟩
end PySem.W.Fast
open PySem PySem.W PyProof.Rows
set_option maxRecDepth 100000 in
set_option maxHeartbeats 0 in
theorem PySem.Challenge.cw_sashiko_k23_whole_pictures_of_cloths_holds : PySem.Challenge.rw_sashiko_k23_whole_pictures_of_cloths.Holds := by
 w_on; o_law; k_head; (case hw => w_witness2)
 k_fill
 refine L2.walk_ofK (l := PySem.Challenge.rw_sashiko_k23_whole_pictures_of_cloths) (n := 63) (k := 13) (x := "_law_script") (CX := L2.CX0) (sp := My.sp_law) rfl (by decide) rfl ⟨rfl, by decide, by decide⟩ (fun w h Y => PySem.W.kIn_of Y) ?F ?S ?C
 case F =>
  intro w mg fa h KX G hmg
  have T : ∃ t : My.Ad, My.Txt (L2.KOf KX) mg t := by
   dsimp only [L2.KOf]
   refine' My.txt_mk KX G ?aC_Board ?ga_Board ?rd_Board ?aC_Cloth ?pg_Cloth ?hd_Cloth ?po_Cloth ?sa_Cloth ?mk_Cloth ?kc_Cloth ?na_columns_count ?na_rows_count ?na_col_bits ?na_row_bits ?na_first_colour ?F_NoPictureInit ?oi_NoPicture ?of_NoPicture ?ok_NoPicture ?os_NoPicture ?om_NoPicture ?ox_NoPicture ?a_isnumber ?F_isnumber ?a_isbelow ?F_isbelow ?a_isbit ?F_isbit ?a_allbits ?F_allbits ?a_isside ?F_isside ?a_needcell ?F_needcell ?fc_BoardInit ?F_BoardInit ?a_ClothInit ?i_ClothInit ?F_ClothInit ?a_Clothshade ?i_Clothshade ?F_Clothshade ?a_Clothwide ?i_Clothwide ?F_Clothwide ?a_Clothtall ?i_Clothtall ?F_Clothtall ?a_Clothcols ?i_Clothcols ?F_Clothcols ?a_Clothrows ?i_Clothrows ?F_Clothrows ?a_Clothbitsalong ?i_Clothbitsalong ?F_Clothbitsalong ?a_Clothbit ?i_Clothbit ?F_Clothbit ?a_Clothcolour ?i_Clothcolour ?F_Clothcolour ?a_coloursacross ?F_coloursacross ?a_picture ?F_picture ?a_needtable ?F_needtable ?a_iseven ?F_iseven ?a_evenblocks ?F_evenblocks ?a_unlike ?F_unlike ?a_clothof ?F_clothof ?a_Ldraws ?F_Ldraws ?a_Lbits ?F_Lbits ?a_Lrow ?F_Lrow ?a_Lplan ?F_Lplan ?a_Lsewn ?F_Lsewn ?a_Ltable ?F_Ltable ?a_Lspots ?F_Lspots ?a_Leven ?F_Leven ?a_Lsame ?F_Lsame ?a_Ltried ?F_Ltried ?a_law ?F_law ?aX_SewError ?aX_NoPicture ?aX_BadSize ?aX_BadBit ?aX_NoCell ?aX_NoLine ?bb ?bm ?bt ?nb ?nm ?nt ?ogs ?otk ?x_BadSize ?ga_BadSize ?gt_BadSize ?gc_BadSize ?go_BadSize ?gb_BadSize ?sb_BadSize ?x_BadBit ?ga_BadBit ?gt_BadBit ?gc_BadBit ?go_BadBit ?gb_BadBit ?sb_BadBit ?x_NoCell ?ga_NoCell ?gt_NoCell ?gc_NoCell ?go_NoCell ?gb_NoCell ?sb_NoCell ?x_NoLine ?ga_NoLine ?gt_NoLine ?gc_NoLine ?go_NoLine ?gb_NoLine ?sb_NoLine ?bg ?br ?ba ?nx_NoPicture_x ?nx_NoPicture_y ?ga_NoPicture ?gt_NoPicture ?gc_NoPicture ?go_NoPicture ?gb_NoPicture ?sb_NoPicture ?sc_NoPicture ?kt_NoPicture_SewError ?kt_NoPicture_ValueError ?v_LONGEST_SIDE ?z_isinstance ?z_int ?z_bool ?z_all ?z_len ?z_tuple ?z_list ?z_range ?z_abs ?z_sum ?z_min ?z_str ?z_zip ?z_ValueError
   (case aC_Board | aC_Cloth | aX_SewError | aX_NoPicture | aX_BadSize | aX_BadBit | aX_NoCell | aX_NoLine | ga_Board | rd_Board | pg_Cloth | hd_Cloth | po_Cloth | sa_Cloth | mk_Cloth | kc_Cloth | na_columns_count | na_rows_count | na_col_bits | na_row_bits | na_first_colour | oi_NoPicture | of_NoPicture | ok_NoPicture | os_NoPicture | om_NoPicture | a_isnumber | a_isbelow | a_isbit | a_allbits | a_isside | a_needcell | fc_BoardInit | a_ClothInit | i_ClothInit | a_Clothshade | i_Clothshade | a_Clothwide | i_Clothwide | a_Clothtall | i_Clothtall | a_Clothcols | i_Clothcols | a_Clothrows | i_Clothrows | a_Clothbitsalong | i_Clothbitsalong | a_Clothbit | i_Clothbit | a_Clothcolour | i_Clothcolour | a_coloursacross | a_picture | a_needtable | a_iseven | a_evenblocks | a_unlike | a_clothof | a_Ldraws | a_Lbits | a_Lrow | a_Lplan | a_Lsewn | a_Ltable | a_Lspots | a_Leven | a_Lsame | a_Ltried | a_law | bb | bm | bt | nb | nm | nt | ogs | otk | ga_BadSize | gt_BadSize | gc_BadSize | go_BadSize | gb_BadSize | sb_BadSize | ga_BadBit | gt_BadBit | gc_BadBit | go_BadBit | gb_BadBit | sb_BadBit | ga_NoCell | gt_NoCell | gc_NoCell | go_NoCell | gb_NoCell | sb_NoCell | ga_NoLine | gt_NoLine | gc_NoLine | go_NoLine | gb_NoLine | sb_NoLine | bg | br | ba | nx_NoPicture_x | nx_NoPicture_y | ga_NoPicture | gt_NoPicture | gc_NoPicture | go_NoPicture | gb_NoPicture | sb_NoPicture | sc_NoPicture | v_LONGEST_SIDE | z_isinstance | z_int | z_bool | z_all | z_len | z_tuple | z_list | z_range | z_abs | z_sum | z_min | z_str | z_zip | z_ValueError => k_is)
   (case ox_NoPicture => (refine' L2.exi_mk ?xa ?xb ?xc ?xd ?xe ?xf; (case xa => k_is); (case xb => rfl); (case xc => rfl); (case xd => rfl); (case xe => rfl); (case xf => k_exc)))
   (case F_NoPictureInit | F_isnumber | F_isbelow | F_isbit | F_allbits | F_isside | F_needcell | F_BoardInit | F_ClothInit | F_Clothshade | F_Clothwide | F_Clothtall | F_Clothcols | F_Clothrows | F_Clothbitsalong | F_Clothbit | F_Clothcolour | F_coloursacross | F_picture | F_needtable | F_iseven | F_evenblocks | F_unlike | F_clothof | F_Ldraws | F_Lbits | F_Lrow | F_Lplan | F_Lsewn | F_Ltable | F_Lspots | F_Leven | F_Lsame | F_Ltried | F_law => exact L2.fun_mk (by k_is) (by k_is) (by k_is))
   (case x_BadSize | x_BadBit | x_NoCell | x_NoLine => k_exc)
   (case kt_NoPicture_SewError | kt_NoPicture_ValueError => kit_is)
  obtain ⟨t, T⟩ := T
  have e0 := hmg.symm.trans T.mg_law
  cases e0
  exact ⟨t.d_law, T.F_law.bl fun _ _ _ _ _ _ _ => rfl, fun base _ _ => My.ok_law T⟩
 case S => exact fun K H a ns hl _ hS => ⟨a, ns, rfl, hS, hl, fun _ => rfl⟩
 case C => exact fun _ _ _ _ z => z
