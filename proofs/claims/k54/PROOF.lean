import PyProof.Rows.All
import Wide.All
import OpenK.AllK
import Wide.FinOn
import Lean
import PyProof.EqAt
import PyProof.EqKinds
import PyProof.TupleCall
import PyProof.NeKinds
import KE.KSortTup
import KE.KItemsList
import KE.KPairComp
import KE.KDictOf
import PyProof.AttrMissHeap
import PySem.Challenge.RW_sashiko_k54_cloths_as_texts
set_option Elab.async false
set_option linter.all false
set_option maxRecDepth 100000
namespace L2
open PySem PySem.Spec PyProof.Rows
abbrev Key := Sum Int Str
def keyIs : Key → Value → Bool
 | .inl k, v => Value.isInt k v
 | .inr x, v => Value.isStrOf x v
def keyH (w : World) : Key → Int
 | .inl k => hashInt k
 | .inr x => hashStr w x
theorem keyIs_shape : ∀ {k : Key} {v : Value}, keyIs k v = true → (∃ i t, k = Sum.inl i ∧ v = Value.int i t) ∨ (∃ x t, k = Sum.inr x ∧ v = Value.str x t)
 | .inl i, v, h => by
  obtain ⟨t, e⟩ := Value.isInt_shape (k := i) (v := v) h
  exact .inl ⟨i, t, rfl, e⟩
 | .inr x, v, h => by
  obtain ⟨t, e⟩ := Value.isStrOf_shape (x := x) (v := v) h
  exact .inr ⟨x, t, rfl, e⟩
theorem key_ll (a b : Int) : decide ((Sum.inl a : Key) = Sum.inl b) = (a == b) := by
 by_cases e : a = b
 ·subst e; simp
 ·have h : ¬ (Sum.inl a : Key) = Sum.inl b := fun q => e (Sum.inl.inj q)
  rw [decide_eq_false h]
  exact (beq_eq_false_iff_ne.mpr e).symm
theorem key_rr (a b : Str) : decide ((Sum.inr a : Key) = Sum.inr b) = decide (a = b) := by
 by_cases e : a = b
 ·subst e; simp
 ·have h : ¬ (Sum.inr a : Key) = Sum.inr b := fun q => e (Sum.inr.inj q)
  rw [decide_eq_false h, decide_eq_false e]
theorem key_lr (a : Int) (b : Str) : decide ((Sum.inl a : Key) = Sum.inr b) = false := decide_eq_false (fun q => nomatch q)
theorem key_rl (a : Str) (b : Int) : decide ((Sum.inr a : Key) = Sum.inl b) = false := decide_eq_false (fun q => nomatch q)
def mixKind (prog : Program) (w : World) : PySem.KeyKind prog w Key where
 is := keyIs
 hash := keyH w
 inj := fun v a b ha hb => by
  rcases keyIs_shape ha with ⟨i, t, rfl, rfl⟩ | ⟨x, t, rfl, rfl⟩
  ·rcases keyIs_shape hb with ⟨j, u, rfl, e⟩ | ⟨y, u, rfl, e⟩
   ·injection e with e1 _; rw [e1]
   ·exact nomatch e
  ·rcases keyIs_shape hb with ⟨j, u, rfl, e⟩ | ⟨y, u, rfl, e⟩
   ·exact nomatch e
   ·injection e with e1 _; rw [e1]
 byValue := fun k v h => by
  rcases keyIs_shape h with ⟨i, t, rfl, rfl⟩ | ⟨x, t, rfl, rfl⟩ <;> rfl
 pyHash := fun hv h => by
  rcases keyIs_shape hv with ⟨i, t, rfl, rfl⟩ | ⟨x, t, rfl, rfl⟩
  ·exact wpAny_pyHash_int h
  ·exact wpAny_pyHash_str h
 eqBool := fun hu hv h => by
  rcases keyIs_shape hu with ⟨i, t, rfl, rfl⟩ | ⟨x, t, rfl, rfl⟩
  ·rcases keyIs_shape hv with ⟨j, u, rfl, rfl⟩ | ⟨y, u, rfl, rfl⟩
   ·rw [key_ll] at h; exact wpAny_eqBool_int h
   ·rw [key_lr] at h; exact SeqAt.EqAt.int_str i t y u _ _ _ _ h
  ·rcases keyIs_shape hv with ⟨j, u, rfl, rfl⟩ | ⟨y, u, rfl, rfl⟩
   ·rw [key_rl] at h; exact SeqAt.EqAt.str_int x t j u _ _ _ _ h
   ·rw [key_rr] at h; exact wpAny_eqBool_str h
 «strs» := fun k x t v h => by
  rcases keyIs_shape h with ⟨i, u, rfl, e⟩ | ⟨y, u, rfl, e⟩
  ·exact nomatch e
  ·injection e with e1 _
   subst e1
   cases v <;> rfl
end L2
namespace L2
open PySem PySem.Spec PyProof.Rows
inductive V where
 | non | bl (b : Bool) | int (i : Int) | str (x : Str) | byt (b : Array UInt8) | flt (b : UInt64) | ref (a : Addr) | ty (n : String)
 deriving DecidableEq
def RelV : V → Value → Prop
 | .non, u => u = Value.none
 | .bl b, u => u = Value.bool b
 | .int i, u => ∃ t, u = Value.int i t
 | .str x, u => ∃ t, u = Value.str x t
 | .byt b, u => ∃ t, u = Value.bytes b t
 | .flt b, u => ∃ t, u = Value.float b t
 | .ref a, u => u = Value.ref a
 | .ty n, u => u = Value.type n
abbrev Vals : List V → List Value → Prop := Paired RelV
theorem Vals.length {xs : List V} {us : List Value} (r : Vals xs us) : xs.length = us.length := Paired.length r
theorem Vals.get : ∀ {xs : List V} {us : List Value} {i : Nat} {x : V}, Vals xs us → xs[i]? = some x → ∃ u, us[i]? = some u ∧ RelV x u
 | _, _, _, _, .nil, e => by simp at e
 | _, _, 0, _, .cons r _, e => by simp at e; subst e; exact ⟨_, rfl, r⟩
 | _, _, i + 1, x, .cons _ t, e => by
  obtain ⟨u, h1, h2⟩ := Vals.get (i := i) (x := x) t (by simpa using e)
  exact ⟨u, by simpa using h1, h2⟩
theorem Vals.append : ∀ {xs ys : List V} {us ws : List Value}, Vals xs us → Vals ys ws → Vals (xs ++ ys) (us ++ ws)
 | _, _, _, _, .nil, s => s
 | _, _, _, _, .cons r t, s => .cons r (Vals.append t s)
theorem Vals.take : ∀ {xs : List V} {us : List Value} (n : Nat), Vals xs us → Vals (xs.take n) (us.take n)
 | _, _, 0, _ => .nil
 | _, _, _ + 1, .nil => .nil
 | _, _, n + 1, .cons r t => .cons r (Vals.take n t)
theorem Vals.drop : ∀ {xs : List V} {us : List Value} (n : Nat), Vals xs us → Vals (xs.drop n) (us.drop n)
 | _, _, 0, r => r
 | _, _, _ + 1, .nil => .nil
 | _, _, n + 1, .cons _ t => Vals.drop n t
def RelO : Option V → Option Value → Prop
 | some v, some u => RelV v u
 | none, none => True
 | _, _ => False
def KV {κ : Type} : List (κ × V) → List (κ × Value) → Prop := Paired fun (p : κ × V) (q : κ × Value) => p.1 = q.1 ∧ RelV p.2 q.2
def kV : Key → V
 | .inl i => .int i
 | .inr x => .str x
inductive HO where
 | lst (xs : List V)
 | tup (xs : List V)
 | dK (kvs : List (Key × V)) | dT (kvs : List (List Key × V))
 | set (S : Int → Bool) (n : Nat)
 | ins (C dx : Addr) (fs : List (Str × V))
 | own (x : Addr)
 | xd (fs : List (Str × V))
 | met (f x : Addr)
 | rng (lo hi : Int)
 | frz (o : Obj) (u : HO)
 | tbl (ps : Array Value)
 | ext (φ : Heap → Prop)
abbrev Hp := Addr → Option HO
def upd (H : Hp) (a : Addr) (o : HO) : Hp := fun b => if b = a then some o else H b
theorem upd_same {H : Hp} {a : Addr} {o : HO} : upd H a o a = some o := by unfold upd; rw [if_pos rfl]
theorem upd_ne {H : Hp} {a b : Addr} {o : HO} (h : b ≠ a) : upd H a o b = H b := by unfold upd; rw [if_neg h]
theorem upd_upd {H : Hp} {a : Addr} {o u : HO} : upd (upd H a o) a u = upd H a u := by
 funext b; unfold upd; split <;> rfl
theorem ne_of {H : Hp} {a b : Addr} {o u : HO} (h : H a = some o) (h' : H b = some u) (d : o ≠ u) : a ≠ b := by
 intro e; subst e; rw [h] at h'; exact d (Option.some.inj h')
theorem ne_of_none {H : Hp} {a b : Addr} {o : HO} (h : H a = some o) (h' : H b = none) : a ≠ b := by
 intro e; subst e; rw [h] at h'; cases h'
section
variable (P : Program) (w : World)
def ObjOk (H : Hp) (h : Heap) (a : Addr) : HO → Prop
  | .lst xs => xs.length ≤ sizeLine ∧ ∃ (its : List Value) (n : Nat), Vals xs its ∧ h.get? a = some { cls := .type "list", data := .seq its.toArray n }
  | .tup xs => xs.length ≤ sizeLine ∧ ∃ its : List Value, Vals xs its ∧ IsTup h a its.toArray
  | .dK kvs => kvs.length ≤ sizeLine ∧ (a == sysModules) = false ∧ ∃ vs, KV kvs vs ∧ h.DictOf (mixKind P w) a vs
  | .dT kvs => kvs.length ≤ sizeLine ∧ (a == sysModules) = false ∧ ∃ xs : List (List Key × Addr × Value),
      Paired (fun (p : List Key × V) (q : List Key × Addr × Value) => p.1 = q.1 ∧ H q.2.1 = some (.tup (p.1.map kV)) ∧ RelV p.2 q.2.2) kvs xs ∧
      ∃ o es ep, h.get? a = some o ∧ o.ExactDict ∧ o.data = .dict es ep ∧ es.toList = xs.map (entryOfKey (tupleKind (mixKind P w))) ∧ (xs.map (·.1)).Nodup
  | .set S n => h.SetOf (intKind P w) a S n
  | .ins C dx fs => H dx = some (.own a) ∧ fs.length ≤ 1000 ∧ dx ≠ a ∧ h.get? a = some (PySem.W.instObj C dx) ∧
      ∃ mA, h.Ns1 dx mA ∧ (∀ f, RelO (fs.lookup f) (mA f)) ∧ PySem.Within mA (fs.map (·.1))
  | .own _ => ∃ o, h.get? a = some o
  | .xd fs => ∃ mA, h.Ns1 a mA ∧ ∀ f, RelO (fs.lookup f) (mA f)
  | .rng lo hi => ∃ t u v, h.get? a = some { cls := .type "range", data := .fields #[.int lo t, .int hi u, .int 1 v] }
  | .frz o u => h.get? a = some o ∧ ObjOk H h a u
  | .tbl ps => h.get? a = some { cls := .none, data := .fields ps }
  | .met f x => h.get? a = some (PySem.W.methodObj (.ref f) (.ref x))
  | .ext φ => φ h ∧ (∃ o, h.get? a = some o) ∧ ∀ h1 h2 : Heap, φ h1 → (∀ o, h1.get? a = some o → h2.get? a = some o) → φ h2
def HOk (H : Hp) (h : Heap) : Prop := ∀ a o, H a = some o → ObjOk P w H h a o
end
section
variable {P : Program} {w : World} {H H' : Hp} {h h' : Heap} {a : Addr} {o : HO}
theorem ObjOk.lt (x : ObjOk P w H h a o) : a < h.objs.size := by
 cases o with
 | lst xs => obtain ⟨_, _, _, _, e⟩ := x; exact Heap.lt_size e
 | tup xs => obtain ⟨_, _, _, p⟩ := x; exact p.lt
 | dK kvs => obtain ⟨_, _, _, _, o, _, _, e, _⟩ := x; exact Heap.lt_size e
 | dT kvs => obtain ⟨_, _, _, _, o, _, _, e, _⟩ := x; exact Heap.lt_size e
 | set S n => obtain ⟨o, _, _, _, e, _⟩ := x; exact Heap.lt_size e
 | ins C dx fs => obtain ⟨_, _, _, e, _⟩ := x; exact Heap.lt_size e
 | own y => obtain ⟨_, e⟩ := x; exact Heap.lt_size e
 | xd fs => obtain ⟨_, ⟨_, _, _, e, _⟩, _⟩ := x; exact Heap.lt_size e
 | rng lo hi => obtain ⟨_, _, _, e⟩ := x; exact Heap.lt_size e
 | frz ob u => obtain ⟨e, _⟩ := x; exact Heap.lt_size e
 | tbl ps => exact Heap.lt_size (show h.get? a = some _ from x)
 | met f y => exact Heap.lt_size (show h.get? a = some _ from x)
 | ext φ => obtain ⟨_, ⟨_, e⟩, _⟩ := x; exact Heap.lt_size e
theorem Paired.mapP {α β : Type} {F G : α → β → Prop} : ∀ {l₁ : List α} {l₂ : List β}, Paired F l₁ l₂ → (∀ a b, F a b → G a b) → Paired G l₁ l₂
 | _, _, .nil, _ => .nil
 | _, _, .cons r t, f => .cons (f _ _ r) (Paired.mapP t f)
theorem ObjOk.stay (x : ObjOk P w H h a o) (k : ∀ b u, (b = a ∨ H b = some (.own a)) → h.get? b = some u → h'.get? b = some u)
  (ho : ∀ b, H b = some (.own a) → H' b = some (.own a)) (ht : ∀ b xs, H b = some (.tup xs) → H' b = some (.tup xs)) : ObjOk P w H' h' a o := by
 induction o with
 | lst xs => obtain ⟨z, its, n, r, e⟩ := x; exact ⟨z, its, n, r, k _ _ (.inl rfl) e⟩
 | tup xs => obtain ⟨z, its, r, ob, e, c⟩ := x; exact ⟨z, its, r, ob, k _ _ (.inl rfl) e, c⟩
 | dK kvs => obtain ⟨z, y, vs, r, ob, es, ep, e, c⟩ := x; exact ⟨z, y, vs, r, ob, es, ep, k _ _ (.inl rfl) e, c⟩
 | dT kvs =>
  obtain ⟨z, y, xs, r, ob, es, ep, e, c⟩ := x
  exact ⟨z, y, xs, Paired.mapP r fun p q z => ⟨z.1, ht _ _ z.2.1, z.2.2⟩, ob, es, ep, k _ _ (.inl rfl) e, c⟩
 | set S n => obtain ⟨ob, es, ep, t, e, c⟩ := x; exact ⟨ob, es, ep, t, k _ _ (.inl rfl) e, c⟩
 | ins C dx fs =>
  obtain ⟨d, z, ne, e, mA, ⟨od, es, ep, e2, c⟩, r⟩ := x
  exact ⟨ho _ d, z, ne, k _ _ (.inl rfl) e, mA, ⟨od, es, ep, k _ _ (.inr d) e2, c⟩, r⟩
 | own y => obtain ⟨ob, e⟩ := x; exact ⟨ob, k _ _ (.inl rfl) e⟩
 | xd fs => obtain ⟨mA, ⟨od, es, ep, e, c⟩, r⟩ := x; exact ⟨mA, ⟨od, es, ep, k _ _ (.inl rfl) e, c⟩, r⟩
 | rng lo hi => obtain ⟨t, u, v, e⟩ := x; exact ⟨t, u, v, k _ _ (.inl rfl) e⟩
 | frz ob u ih => obtain ⟨e, q⟩ := x; exact ⟨k _ _ (.inl rfl) e, ih q⟩
 | tbl ps =>
  have e : h.get? a = some { cls := .none, data := .fields ps } := x
  show h'.get? a = some { cls := .none, data := .fields ps }
  exact k a _ (.inl rfl) e
 | met f y =>
  have e : h.get? a = some (PySem.W.methodObj (.ref f) (.ref y)) := x
  show h'.get? a = some (PySem.W.methodObj (.ref f) (.ref y))
  exact k a _ (.inl rfl) e
 | ext φ => obtain ⟨p, ⟨o, e⟩, st⟩ := x; exact ⟨st _ _ p fun o q => k _ _ (.inl rfl) q, ⟨o, k _ _ (.inl rfl) e⟩, st⟩
theorem HOk.lt (x : HOk P w H h) (e : H a = some o) : a < h.objs.size := (x a o e).lt
theorem HOk.fresh (x : HOk P w H h) (e : h.objs.size ≤ a) : H a = none := by
 cases q : H a with
 | none => rfl
 | some u => exact absurd (Nat.lt_of_lt_of_le (x.lt q) e) (Nat.lt_irrefl _)
theorem HOk.kept (x : HOk P w H h) (k : ∀ b u, h.get? b = some u → h'.get? b = some u) : HOk P w H h' := fun a o e =>
 (x a o e).stay (fun b u _ q => k b u q) (fun _ q => q) fun _ _ q => q
theorem HOk.laid (x : HOk P w H h) (k : ∀ b u, h.get? b = some u → h'.get? b = some u) (hp : h.objs.size ≤ a) (new : ObjOk P w (upd H a o) h' a o) : HOk P w (upd H a o) h' := fun b u e => by
 have hn := x.fresh hp
 by_cases hb : b = a
 ·subst hb; rw [upd_same] at e; cases e; exact new
 ·rw [upd_ne hb] at e
  exact (x b u e).stay (fun c v _ q => k c v q) (fun c q => by rw [upd_ne (ne_of_none q hn)]; exact q) fun c xs q => by rw [upd_ne (ne_of_none q hn)]; exact q
end
def Rd (H : Hp) (a : Addr) (u : HO) : Prop := H a = some u ∨ ∃ o, H a = some (.frz o u)
theorem Rd.ok {P : Program} {w : World} {H : Hp} {h : Heap} {a : Addr} {u : HO} (r : Rd H a u) (x : HOk P w H h) : ObjOk P w H h a u := by
 rcases r with r | ⟨o, r⟩
 ·exact x a u r
 ·obtain ⟨_, q⟩ := x a _ r
  exact q
def Mut : Option HO → Prop
 | some (.lst _) => True
 | some (.dK _) => True
 | some (.dT _) => True
 | some (.set _ _) => True
 | some (.ins _ _ _) => True
 | some (.ext _) => True
 | _ => False
section
variable {P : Program} {w : World} {H : Hp} {h h' : Heap} {x e : Addr} {o' : HO}
theorem HOk.write (ok : HOk P w H h) (mu : Mut (H x)) (he : e = x ∨ H e = some (.own x)) (k : ∀ b u, b ≠ e → h.get? b = some u → h'.get? b = some u) (heo : ∃ u, h'.get? e = some u)
    (new : ObjOk P w (upd H x o') h' x o') : HOk P w (upd H x o') h' := fun b u q => by
  have nown : ∀ c y, H c = some (.own y) → c ≠ x := fun c y r z => by subst z; rw [r] at mu; exact mu
  have ntup : ∀ c xs, H c = some (.tup xs) → c ≠ x := fun c xs r z => by subst z; rw [r] at mu; exact mu
  by_cases hb : b = x
  · subst hb; rw [upd_same] at q; cases q; exact new
  · rw [upd_ne hb] at q
    by_cases hbe : b = e
    · have q' : H b = some (.own x) := by
        rcases he with z | z
        · exact absurd (hbe.trans z) hb
        · rw [hbe]; exact z
      rw [q] at q'; cases q'
      obtain ⟨v, hv⟩ := heo
      exact ⟨v, by rw [hbe]; exact hv⟩
    · refine (ok b u q).stay (fun c v hc r => k c v ?_ r) (fun c r => by rw [upd_ne (nown c b r)]; exact r) fun c xs r => by rw [upd_ne (ntup c xs r)]; exact r
      rcases hc with rfl | hc
      · exact hbe
      · rintro rfl
        rcases he with z | z
        · exact nown c b hc z
        · rw [hc] at z; cases z; exact hb rfl
end
structure Un (fs ex : List Addr) (H H' : Hp) (h h' : Heap) : Prop where
 keep : ∀ b o, h.get? b = some o → H b = none → b ∉ fs → b ∉ ex → h'.get? b = some o
 slot : ∀ b o, h.get? b = some o → H b = none → b ∈ fs → b ∉ ex → ∃ sl, h'.get? b = some { o with slots := sl }
 free : ∀ b o, h.get? b = some o → H b = none → b ∉ ex → H' b = none
 there : ∀ b o, h.get? b = some o → b ∉ ex → ∃ o', h'.get? b = some o'
 tups : ∀ b xs, H b = some (.tup xs) → H' b = some (.tup xs)
 frzs : ∀ b o u, H b = some (.frz o u) → H' b = some (.frz o u)
 tbls : ∀ b ps, H b = some (.tbl ps) → ∃ more, H' b = some (.tbl (ps ++ more))
section
variable {fs fs' ex ex' : List Addr} {H H1 H2 : Hp} {h h1 h2 h' : Heap} {a x e : Addr} {o : HO}
theorem Un.any (u : Un fs ex H H1 h h1) {b : Addr} {ob : Obj} (q : h.get? b = some ob) (n : H b = none) (hx : b ∉ ex) : ∃ sl, h1.get? b = some { ob with slots := sl } := by
 by_cases hb : b ∈ fs
 ·exact u.slot b ob q n hb hx
 ·exact ⟨ob.slots, u.keep b ob q n hb hx⟩
theorem Un.kept (k : ∀ b u, h.get? b = some u → h'.get? b = some u) : Un fs ex H H h h' :=
 ⟨fun b ob q _ _ _ => k b ob q, fun b ob q _ _ _ => ⟨ob.slots, k b ob q⟩, fun _ _ _ n _ => n, fun b ob q _ => ⟨ob, k b ob q⟩, fun _ _ q => q, fun _ _ _ q => q, fun _ ps q => ⟨#[], by rw [q]; simp⟩⟩
theorem Un.refl : Un fs ex H H h h := Un.kept fun _ _ q => q
theorem Un.laid (k : ∀ b u, h.get? b = some u → h'.get? b = some u) (hp : h.objs.size ≤ a) (hn : H a = none) : Un fs ex H (upd H a o) h h' where
 keep := fun b u q _ _ _ => k b u q
 slot := fun b u q _ _ _ => ⟨u.slots, k b u q⟩
 free := fun b u q n _ => by rw [upd_ne (Nat.ne_of_lt (Nat.lt_of_lt_of_le (Heap.lt_size q) hp))]; exact n
 there := fun b u q _ => ⟨u, k b u q⟩
 tups := fun b xs q => by rw [upd_ne (ne_of_none q hn)]; exact q
 frzs := fun b u xs q => by rw [upd_ne (ne_of_none q hn)]; exact q
 tbls := fun b ps q => ⟨#[], by rw [upd_ne (ne_of_none q hn), q]; simp⟩
theorem Un.write (mu : Mut (H x)) (he : e = x ∨ H e = some (.own x)) (k : ∀ b u, b ≠ e → h.get? b = some u → h'.get? b = some u) (heo : ∃ u, h'.get? e = some u) : Un fs ex H (upd H x o) h h' := by
 have hx : ∀ b, H b = none → b ≠ x := fun b n z => by subst z; rw [n] at mu; exact mu
 have hb : ∀ b, H b = none → b ≠ e := fun b n z => by
  subst z
  rcases he with r | r
  ·exact hx b n r
  ·rw [n] at r; cases r
 have hm : ∀ b u, H b = some u → ¬ Mut (some u) → b ≠ x := fun b u q nm z => by subst z; rw [q] at mu; exact nm mu
 refine ⟨fun b u q n _ _ => k b u (hb b n) q, fun b u q n _ _ => ⟨u.slots, k b u (hb b n) q⟩, fun b u q n _ => by rw [upd_ne (hx b n)]; exact n, fun b u q _ => ?_,
  fun b xs q => by rw [upd_ne (hm b _ q fun z => z)]; exact q, fun b u xs q => by rw [upd_ne (hm b _ q fun z => z)]; exact q, fun b ps q => ⟨#[], by rw [upd_ne (hm b _ q fun z => z), q]; simp⟩⟩
 by_cases hbe : b = e
 ·subst hbe; exact heo
 ·exact ⟨u, k b u hbe q⟩
end
def trk (h : Heap) (H : Hp) : List Addr := (List.range h.objs.size).filter fun a => (H a).isSome
def hidT (h : Heap) (H : Hp) : Heap := PySem.W.hideAll h (trk h H)
theorem hidT_size (h : Heap) (H : Hp) : (hidT h H).objs.size = h.objs.size := PySem.W.hideAll_size _ _
theorem hidT_get {h : Heap} {H : Hp} {b : Addr} {o : Obj} (e : h.get? b = some o) (n : H b = none) : (hidT h H).get? b = some o :=
 PySem.W.hideAll_get _ e fun hm => by
  have q : (H b).isSome = true := (List.mem_filter.mp hm).2
  rw [n] at q; simp at q
theorem of_hidT {h : Heap} {H : Hp} {b : Addr} {o : Obj} (e : (hidT h H).get? b = some o) : h.get? b = some o ∧ H b = none := by
 have e' : h.get? b = some o := PySem.W.of_hideAll (trk h H) e
 refine ⟨e', ?_⟩
 cases q : H b with
 | none => rfl
 | some x =>
  have hm : b ∈ trk h H := List.mem_filter.mpr ⟨List.mem_range.mpr (Heap.lt_size e'), by simp [q]⟩
  have z : (hidT h H).get? b = none := PySem.W.hideAll_none (trk h H) hm
  rw [z] at e; cases e
def allNews (g h : Heap) (L : Addr) : List (Addr × Obj) := (List.range h.objs.size).filterMap fun a => if a = L ∨ (g.get? a).isSome = true then none else (h.get? a).map fun o => (a, o)
def rest (g h : Heap) (L d : Addr) : List (Addr × Obj) := (allNews g h L).filter fun p => decide (p.1 ≠ d)
end L2
namespace L2
open PySem PySem.Spec PyProof.Rows
structure Mod (K : PySem.W.Frag) (mg : Str → Option Value) (base : Heap) : Prop where
 kin : K.In base
 glob : base.Ns mainGlobals mg
 blt : ∃ mb, base.Ns builtinsNs mb ∧ ∀ x : Str, x ≠ "__name__" → mb x = bootBuiltins x
 nolimit : base.NoLimit
structure Cx where
 prog : Program
 w : World
 K : PySem.W.Frag
 mg : Str → Option Value
 base : Heap
 A : Around
 N : List Str
 s₀ : Shared
 H₀ : Hp
 env : Env
 outer : List Env
 stack : List Env
 ex : List Addr
 fn : Str → Bool
 calm : Bool
 pn : List (Addr × Obj)
 xe : Value → Shared → Prop
def frs (l : List Env) : List Addr := l.filterMap (·.frame)
abbrev Cx.fs (X : Cx) : List Addr := frs X.outer
def Vis (sc : Scope) (x : Str) : Prop := sc.names.lookup x = some .local ∨ sc.names.lookup x = some .cell ∨ sc.names.lookup x = some .free
def Loc (sc : Scope) (x : Str) : Prop := sc.names.lookup x = some .local ∨ sc.names.lookup x = some .cell
def Look (env : Env) (h : Heap) (m : Str → Option Value) (x : Str) (u : Value) : Prop :=
 (env.kindOf x = some .local ∧ m x = some u) ∨ ((env.kindOf x = some .cell ∨ env.kindOf x = some .free) ∧ ∃ c, env.cells.lookup x = some c ∧ h.IsCell c (some u))
structure Cx.Ok (X : Cx) : Prop where
 mod : Mod X.K X.mg X.base
 kind : X.env.scope.kind = .function
 glob : X.env.globals = mainGlobals
 blt : X.env.builtins = builtinsNs
 above : X.s₀.heap.objs.size ≤ X.env.locals
 inj : ∀ x y c, X.env.cells.lookup x = some c → X.env.cells.lookup y = some c → x = y
 has : ∀ x, (X.env.kindOf x = some .cell ∨ X.env.kindOf x = some .free) → ∃ c, X.env.cells.lookup x = some c
 cab : ∀ x c, X.fn x = true → X.env.cells.lookup x = some c → X.s₀.heap.objs.size ≤ c
 hd : X.calm = true → X.A.handled = none
 frames : X.A.frames = some X.stack
 stk : X.stack = X.outer ∨ (X.stack = X.env :: X.outer ∧ X.env.frame = some X.env.locals)
 exf : ∀ b ∈ X.ex, b ≠ X.env.locals ∧ ∀ x c, X.env.cells.lookup x = some c → c ≠ b
 bs : ∀ b o, X.base.get? b = some o → X.s₀.heap.get? b = some o ∧ X.H₀ b = none
 bsz : X.base.objs.size ≤ X.s₀.heap.objs.size
 noex : ∀ b o, X.base.get? b = some o → b ∉ X.ex
 exfs : ∀ b ∈ X.ex, b ∉ X.fs
 funs : X.s₀.heap.FunFrames X.base X.outer
 frf : ∀ b ∈ X.fs, X.H₀ b = none
structure Inv (X : Cx) (pins : List (Addr × Obj)) (σ : List (Option V)) (H : Hp) (s : Shared) : Prop where
 ok : X.Ok
 os : s.os = X.s₀.os
 bare : AllBare s.gens
 base : Un X.fs X.ex X.H₀ H X.s₀.heap s.heap
 loc : ∃ m, s.heap.Ns X.env.locals m ∧ ∀ (i : Nat) (x : Str) (v : V), X.N[i]? = some x → σ[i]? = some (some v) → Vis X.env.scope x → ∃ u, RelV v u ∧ Look X.env s.heap m x u
 cell : ∀ x c, X.env.cells.lookup x = some c → ∃ v, s.heap.IsCell c v
 free : H X.env.locals = none
 freeC : ∀ x c, X.env.cells.lookup x = some c → H c = none
 pin : ∀ p ∈ X.pn ++ pins, s.heap.get? p.1 = some p.2 ∧ H p.1 = none ∧ p.1 ≠ X.env.locals ∧ p.1 ∉ X.fs ∧ ∀ v, p.2.data ≠ .cell v
 hok : HOk X.prog X.w H s.heap
 len : σ.length = X.N.length
section
variable {X : Cx} {pins : List (Addr × Obj)} {σ : List (Option V)} {H H' : Hp} {s : Shared} {h' : Heap}
theorem Cx.Ok.nofr (ok : X.Ok) {b : Addr} {o : Obj} (e : X.base.get? b = some o) : b ∉ X.fs := fun hb => by
 have := (ok.funs.mem hb).1
 rw [e] at this; cases this
theorem Inv.bs (I : Inv X pins σ H s) : ∀ b o, X.base.get? b = some o → s.heap.get? b = some o ∧ H b = none := fun b o e =>
 ⟨I.base.keep b o (I.ok.bs b o e).1 (I.ok.bs b o e).2 (I.ok.nofr e) (I.ok.noex b o e), I.base.free b o (I.ok.bs b o e).1 (I.ok.bs b o e).2 (I.ok.noex b o e)⟩
theorem Inv.bk (I : Inv X pins σ H s) : ∀ b o, X.base.get? b = some o → s.heap.get? b = some o := fun b o e => (I.bs b o e).1
theorem Inv.mod (I : Inv X pins σ H s) : Mod X.K X.mg X.base := I.ok.mod
theorem Inv.kIn (I : Inv X pins σ H s) : X.K.In s.heap := I.ok.mod.kin.keeps I.bk
theorem Inv.lt (I : Inv X pins σ H s) : X.env.locals < s.heap.objs.size := let ⟨_, hn, _⟩ := I.loc; hn.lt
theorem Inv.sz (I : Inv X pins σ H s) : X.s₀.heap.objs.size ≤ s.heap.objs.size := Nat.le_trans I.ok.above (Nat.le_of_lt I.lt)
theorem Inv.nofs (I : Inv X pins σ H s) {a : Addr} (h : s.heap.objs.size ≤ a) : a ∉ X.fs := fun hb => by
 obtain ⟨_, o, ho, _⟩ := I.ok.funs.mem hb
 exact absurd (Nat.lt_of_lt_of_le (Heap.lt_size ho) (Nat.le_trans I.sz h)) (Nat.lt_irrefl _)
theorem Inv.cne (I : Inv X pins σ H s) : ∀ x c, X.env.cells.lookup x = some c → c ≠ X.env.locals := fun x c e z => by
 obtain ⟨v, o, ho, hd⟩ := I.cell x c e
 obtain ⟨m, ⟨o', es, ep, ho', hd', _⟩, _⟩ := I.loc
 rw [z, ho'] at ho; cases ho; rw [hd'] at hd; cases hd
theorem Inv.funs (I : Inv X pins σ H s) : s.heap.FunFrames X.base X.outer := by
 have all : ∀ (l : List Env), (∀ b ∈ frs l, b ∈ X.fs) → X.s₀.heap.FunFrames X.base l → s.heap.FunFrames X.base l := by
  intro l
  induction l with
  | nil => intro _ _; trivial
  | cons env r ih =>
   intro hs hl
   obtain ⟨hk, ⟨L, o, hf, hn, ho, hd⟩, hr⟩ := hl
   have hL : L ∈ X.fs := hs L (by unfold frs; rw [List.filterMap_cons, hf]; exact List.mem_cons_self)
   obtain ⟨sl, e⟩ := I.base.slot L o ho (I.ok.frf L hL) hL fun z => I.ok.exfs L z hL
   exact ⟨hk, ⟨L, _, hf, hn, e, hd⟩, ih (fun b hb => hs b (by unfold frs; rw [List.filterMap_cons, hf]; exact List.mem_cons_of_mem _ hb)) hr⟩
 exact all X.outer (fun _ hb => hb) I.ok.funs
theorem Inv.stack (I : Inv X pins σ H s) : s.heap.FunFrames X.base X.stack := by
 rcases I.ok.stk with e | ⟨e, hf⟩
 ·rw [e]; exact I.funs
 ·rw [e]
  obtain ⟨m, hn, _⟩ := I.loc
  refine .cons (by rw [I.ok.kind]; decide) hf hn ?_ I.funs
  exact Heap.get?_none_of_le (Nat.le_trans I.ok.bsz I.ok.above)
theorem Inv.stkSub (I : Inv X pins σ H s) : ∀ b ∈ frs X.stack, b ∈ X.env.locals :: X.fs := fun b hb => by
 rcases I.ok.stk with e | ⟨e, hf⟩
 ·rw [e] at hb; exact List.mem_cons_of_mem _ hb
 ·rw [e] at hb
  unfold frs at hb
  rw [List.filterMap_cons, hf] at hb
  exact hb
theorem Inv.stkFree (I : Inv X pins σ H s) : ∀ b ∈ frs X.stack, H b = none := fun b hb => by
 rcases List.mem_cons.mp (I.stkSub b hb) with e | hb
 ·rw [e]; exact I.free
 ·obtain ⟨_, o, ho, _⟩ := I.ok.funs.mem hb
  exact I.base.free b o ho (I.ok.frf b hb) fun z => I.ok.exfs b z hb
theorem Inv.step {g' : Array GenState} {t' : Nat} {d' : Drawn} {ch : List Addr} (I : Inv X pins σ H s)
  (hch : ∀ b ∈ ch, (b ∈ X.ex ∨ X.s₀.heap.objs.size ≤ b) ∧ b ≠ X.env.locals ∧ (∀ x c, X.env.cells.lookup x = some c → c ≠ b) ∧ ∀ p ∈ X.pn ++ pins, p.1 ≠ b)
  (keep : ∀ b o, b ≠ X.env.locals → b ∉ X.fs → b ∉ ch → s.heap.get? b = some o → H b = none → h'.get? b = some o)
  (slot : ∀ b o, b ≠ X.env.locals → b ∈ X.fs → b ∉ ch → s.heap.get? b = some o → H b = none → ∃ sl, h'.get? b = some { o with slots := sl }) (free : ∀ b o, b ∉ ch → s.heap.get? b = some o → H b = none → H' b = none)
  (there : ∀ b o, b ∉ ch → s.heap.get? b = some o → ∃ o', h'.get? b = some o')
  (tups : ∀ b xs, H b = some (.tup xs) → H' b = some (.tup xs)) (frzs : ∀ b o u, H b = some (.frz o u) → H' b = some (.frz o u)) (tbls : ∀ b ps, H b = some (.tbl ps) → ∃ more, H' b = some (.tbl (ps ++ more)))
  (ns : ∀ m, s.heap.Ns X.env.locals m → h'.Ns X.env.locals m) (hok : HOk X.prog X.w H' h') (hg : AllBare g') :
  Inv X pins σ H' { s with heap := h', gens := g', drawn := d', toks := t' } := by
 have neL : ∀ b o, X.s₀.heap.get? b = some o → b ≠ X.env.locals := fun b o e => Nat.ne_of_lt (Nat.lt_of_lt_of_le (Heap.lt_size e) I.ok.above)
 have neC : ∀ b o, X.s₀.heap.get? b = some o → b ∉ X.ex → b ∉ ch := fun b o e hx hb => by
  rcases (hch b hb).1 with z | z
  ·exact hx z
  ·exact absurd (Nat.lt_of_lt_of_le (Heap.lt_size e) z) (Nat.lt_irrefl _)
 have cellK : ∀ x c, X.env.cells.lookup x = some c → ∀ v, s.heap.IsCell c v → h'.IsCell c v := fun x c e v ⟨o, ho, hd⟩ => by
  have nch : c ∉ ch := fun z => (hch c z).2.2.1 x c e rfl
  by_cases hc : c ∈ X.fs
  ·obtain ⟨sl, q⟩ := slot c o (I.cne x c e) hc nch ho (I.freeC x c e)
   exact ⟨_, q, hd⟩
  ·exact ⟨o, keep c o (I.cne x c e) hc nch ho (I.freeC x c e), hd⟩
 refine ⟨I.ok, I.os, hg, ⟨fun b o e n hb hx => ?_, fun b o e n hb hx => ?_, fun b o e n hx => ?_, fun b o e hx => ?_, fun b xs e => tups b xs (I.base.tups b xs e), fun b o xs e => frzs b o xs (I.base.frzs b o xs e), fun b ps e => ?_⟩, ?_, fun x c e => ?_, ?_, fun x c e => ?_, fun p hp => ?_, hok, I.len⟩
 ·exact keep b o (neL b o e) hb (neC b o e hx) (I.base.keep b o e n hb hx) (I.base.free b o e n hx)
 ·obtain ⟨sl, e1⟩ := I.base.slot b o e n hb hx
  obtain ⟨sl', e2⟩ := slot b _ (neL b o e) hb (neC b o e hx) e1 (I.base.free b o e n hx)
  exact ⟨sl', e2⟩
 ·obtain ⟨o', e1⟩ := I.base.there b o e hx
  exact free b o' (neC b o e hx) e1 (I.base.free b o e n hx)
 ·obtain ⟨o', e1⟩ := I.base.there b o e hx
  exact there b o' (neC b o e hx) e1
 ·obtain ⟨m1, e1⟩ := I.base.tbls b ps e
  obtain ⟨m2, e2⟩ := tbls b _ e1
  exact ⟨m1 ++ m2, by rw [e2, Array.append_assoc]⟩
 ·obtain ⟨m, hn, hl⟩ := I.loc
  refine ⟨m, ns m hn, fun i x v e1 e2 e3 => ?_⟩
  obtain ⟨u, r, l⟩ := hl i x v e1 e2 e3
  refine ⟨u, r, ?_⟩
  rcases l with l | ⟨k, c, e, z⟩
  ·exact .inl l
  ·exact .inr ⟨k, c, e, cellK x c e _ z⟩
 ·obtain ⟨v, z⟩ := I.cell x c e
  exact ⟨v, cellK x c e v z⟩
 ·obtain ⟨m, ⟨o, _, _, ho, _⟩, _⟩ := I.loc
  exact free _ o (fun z => (hch _ z).2.1 rfl) ho I.free
 ·obtain ⟨v, o, ho, hd⟩ := I.cell x c e
  exact free c o (fun z => (hch c z).2.2.1 x c e rfl) ho (I.freeC x c e)
 ·obtain ⟨e, n, ne, nf, d⟩ := I.pin p hp
  have nch : p.1 ∉ ch := fun z => (hch p.1 z).2.2.2 p hp rfl
  exact ⟨keep p.1 p.2 ne nf nch e n, free p.1 p.2 nch e n, ne, nf, d⟩
theorem Inv.un {t' : Nat} (I : Inv X pins σ H s) (u : Un X.fs [] H H' s.heap h') (hok : HOk X.prog X.w H' h') : Inv X pins σ H' { s with heap := h', toks := t' } := by
 obtain ⟨m, ⟨o, es, ep, ho, r⟩, _⟩ := id I.loc
 obtain ⟨sl, hL⟩ := u.any ho I.free (by simp)
 exact I.step (g' := s.gens) (d' := s.drawn) (ch := []) (fun _ z => nomatch z) (fun b o _ hb _ e n => u.keep b o e n hb (by simp)) (fun b o _ hb _ e n => u.slot b o e n hb (by simp)) (fun b o _ e n => u.free b o e n (by simp)) (fun b o _ e => u.there b o e (by simp)) u.tups u.frzs u.tbls (fun m' hm => by
  obtain ⟨o', es', ep', ho', r'⟩ := hm
  rw [ho] at ho'; cases ho'
  exact ⟨_, es', ep', hL, r'⟩) hok I.bare
theorem Inv.call {g' : Array GenState} {t' : Nat} {d' : Drawn} {ch : List Addr} (I : Inv X pins σ H s) (u : Un (frs X.stack) ch H H' s.heap h') (hok : HOk X.prog X.w H' h') (hg : AllBare g')
  (hch : ∀ b ∈ ch, (b ∈ X.ex ∨ X.s₀.heap.objs.size ≤ b) ∧ b ≠ X.env.locals ∧ (∀ x c, X.env.cells.lookup x = some c → c ≠ b) ∧ ∀ p ∈ X.pn ++ pins, p.1 ≠ b) :
  Inv X pins σ H' { s with heap := h', gens := g', drawn := d', toks := t' } := by
 obtain ⟨m, ⟨o, es, ep, ho, r⟩, _⟩ := id I.loc
 obtain ⟨sl, hL⟩ := u.any ho I.free fun z => (hch _ z).2.1 rfl
 exact I.step (ch := ch) hch (fun b o hL hb hc e n => u.keep b o e n (fun z => (List.mem_cons.mp (I.stkSub b z)).elim hL hb) hc) (fun b o _ _ hc e n => u.any e n hc) (fun b o hc e n => u.free b o e n hc) (fun b o hc e => u.there b o e hc) u.tups u.frzs u.tbls (fun m' hm => by
  obtain ⟨o', es', ep', ho', r'⟩ := hm
  rw [ho] at ho'; cases ho'
  exact ⟨_, es', ep', hL, r'⟩) hok hg
theorem Inv.turned {t' : Nat} {it : Addr} (I : Inv X pins σ H s) (k : ∀ b o, b ≠ it → s.heap.get? b = some o → h'.get? b = some o) (hn : H it = none) (hL : it ≠ X.env.locals)
  (h1 : it ∈ X.ex ∨ X.s₀.heap.objs.size ≤ it) (h2 : ∀ x c, X.env.cells.lookup x = some c → c ≠ it) (h3 : ∀ p ∈ X.pn ++ pins, p.1 ≠ it) : Inv X pins σ H { s with heap := h', toks := t' } := by
 have nit : ∀ b u, H b = some u → b ≠ it := fun b u e z => by rw [z, hn] at e; cases e
 refine I.step (g' := s.gens) (d' := s.drawn) (ch := [it]) (fun b hb => ?_) (fun b o _ _ hc e _ => k b o (fun z => hc (by simp [z])) e) (fun b o _ _ hc e _ => ⟨o.slots, k b o (fun z => hc (by simp [z])) e⟩) (fun _ _ _ _ n => n)
  (fun b o hc e => ⟨o, k b o (fun z => hc (by simp [z])) e⟩) (fun _ _ e => e) (fun _ _ _ e => e) (fun b ps e => ⟨#[], by rw [e]; simp⟩) (fun m hm => ?_) (fun b u e => ?_) I.bare
 ·have e : b = it := by simpa using hb
  subst e
  exact ⟨h1, hL, h2, h3⟩
 ·obtain ⟨o, es, ep, ho, r⟩ := hm
  exact ⟨o, es, ep, k _ o (Ne.symm hL) ho, r⟩
 ·refine (I.hok b u e).stay (fun c v hc q => k c v ?_ q) (fun _ q => q) fun _ _ q => q
  rcases hc with z | z
  ·rw [z]; exact nit b u e
  ·exact nit c _ z
theorem Inv.tok (I : Inv X pins σ H s) (t : Nat) : Inv X pins σ H { s with toks := t } := I.un (h' := s.heap) (t' := t) Un.refl I.hok
theorem Inv.kept {t' : Nat} (I : Inv X pins σ H s) (k : ∀ b u, s.heap.get? b = some u → h'.get? b = some u) : Inv X pins σ H { s with heap := h', toks := t' } := I.un (Un.kept k) (I.hok.kept k)
theorem Inv.laid {a : Addr} {o : HO} {t' : Nat} (I : Inv X pins σ H s) (k : ∀ b u, s.heap.get? b = some u → h'.get? b = some u) (hp : s.heap.objs.size ≤ a) (new : ObjOk X.prog X.w (upd H a o) h' a o) :
  Inv X pins σ (upd H a o) { s with heap := h', toks := t' } := I.un (Un.laid k hp (I.hok.fresh hp)) (I.hok.laid k hp new)
theorem Inv.write {x e : Addr} {o : HO} {t' : Nat} (I : Inv X pins σ H s) (mu : Mut (H x)) (he : e = x ∨ H e = some (.own x)) (k : ∀ b u, b ≠ e → s.heap.get? b = some u → h'.get? b = some u) (heo : ∃ u, h'.get? e = some u)
  (new : ObjOk X.prog X.w (upd H x o) h' x o) : Inv X pins σ (upd H x o) { s with heap := h', toks := t' } := I.un (Un.write mu he k heo) (I.hok.write mu he k heo new)
theorem Inv.pins_of {pins' : List (Addr × Obj)} (I : Inv X pins σ H s) (h : ∀ p ∈ pins', s.heap.get? p.1 = some p.2 ∧ H p.1 = none ∧ p.1 ≠ X.env.locals ∧ p.1 ∉ X.fs ∧ ∀ v, p.2.data ≠ .cell v) : Inv X pins' σ H s :=
 ⟨I.ok, I.os, I.bare, I.base, I.loc, I.cell, I.free, I.freeC, fun p hp => (List.mem_append.mp hp).elim (fun z => I.pin p (List.mem_append_left _ z)) (h p), I.hok, I.len⟩
theorem nodup_ix {N : List Str} (hN : N.Nodup) {i j : Nat} {x : Str} (a : N[i]? = some x) (b : N[j]? = some x) : i = j := by
 obtain ⟨h1, e1⟩ := List.getElem?_eq_some_iff.mp a
 obtain ⟨h2, e2⟩ := List.getElem?_eq_some_iff.mp b
 exact (List.getElem_inj hN).mp (e1.trans e2.symm)
theorem store_ok2 {M : Model} {A : Around} {E : Value → Shared → Prop} {i : Nat} {x : Str} {v : V} {u : Value} {Q : Unit → Shared → Prop} (I : Inv X pins σ H s) (hN : X.N.Nodup) (hi : X.N[i]? = some x) (hx : Loc X.env.scope x) (r : RelV v u)
    (h : ∀ s', Inv X pins (σ.set i (some v)) H s' → (∃ a, Heap.SameBut a s.heap s'.heap ∧ (a = X.env.locals ∨ X.env.cells.lookup x = some a)) → Q () s') (hf : X.fn x = true ∨ X.env.scope.names.lookup x = some .local := by first | exact .inl rfl | exact .inr rfl | assumption) : wpAny M A (storeName X.env x u) Q E s := by
  obtain ⟨m, hn, hl⟩ := id I.loc
  have hcls : (X.env.scope.kind == .class || (X.env.scope.kind == .module && X.env.locals != X.env.globals)) = false := by rw [I.ok.kind]; rfl
  have hiσ : i < σ.length := by rw [I.len]; exact (List.getElem?_eq_some_iff.mp hi).1
  have cne := I.cne
  have tracked : ∀ {a : Addr} {h' : Heap}, (∃ o, s.heap.get? a = some o ∧ H a = none) → Heap.SameBut a s.heap h' → HOk X.prog X.w H h' := fun {a h'} ha hs b ob e => by
    obtain ⟨_, _, hfree⟩ := ha
    refine (I.hok b ob e).stay (fun c w' hc q => (hs.2 c ?_).trans q) (fun _ q => q) fun _ _ q => q
    rintro rfl
    rcases hc with rfl | hc
    · rw [hfree] at e; cases e
    · rw [hfree] at hc; cases hc
  rcases hx with hk | hk
  · refine wpAny_storeName_local hk hn (fun h' hn' hs => ?_) hcls
    obtain ⟨oL, _, _, hoL, _⟩ := id hn
    refine h _ ⟨I.ok, I.os, I.bare, ⟨fun b o e n hb hx => ?_, fun b o e n hb hx => ?_, I.base.free, fun b o e hx => ?_, I.base.tups, I.base.frzs, I.base.tbls⟩, ⟨_, hn', fun j y v' e1 e2 e3 => ?_⟩, fun y c e => ?_, I.free, I.freeC, fun p hp => ?_, tracked ⟨oL, hoL, I.free⟩ hs, by simpa using I.len⟩ ⟨_, hs, .inl rfl⟩
    · exact (hs.2 b (Nat.ne_of_lt (Nat.lt_of_lt_of_le (Heap.lt_size e) I.ok.above))).trans (I.base.keep b o e n hb hx)
    · obtain ⟨sl, e1⟩ := I.base.slot b o e n hb hx
      exact ⟨sl, (hs.2 b (Nat.ne_of_lt (Nat.lt_of_lt_of_le (Heap.lt_size e) I.ok.above))).trans e1⟩
    · obtain ⟨o', e1⟩ := I.base.there b o e hx
      exact ⟨o', (hs.2 b (Nat.ne_of_lt (Nat.lt_of_lt_of_le (Heap.lt_size e) I.ok.above))).trans e1⟩
    · by_cases hj : j = i
      · subst hj
        rw [hi] at e1; cases e1
        rw [List.getElem?_set_self hiσ] at e2
        cases e2
        exact ⟨u, r, .inl ⟨hk, by simp⟩⟩
      · rw [List.getElem?_set_ne (Ne.symm hj)] at e2
        obtain ⟨u', r', q⟩ := hl j y v' e1 e2 e3
        refine ⟨u', r', ?_⟩
        rcases q with ⟨k, e⟩ | ⟨k, c, e, z⟩
        · refine .inl ⟨k, ?_⟩
          have : y ≠ x := fun e => hj (nodup_ix hN e1 (e ▸ hi))
          simp [this, e]
        · exact .inr ⟨k, c, e, z.sameBut hs (cne y c e)⟩
    · obtain ⟨w', z⟩ := I.cell y c e
      exact ⟨w', z.sameBut hs (cne y c e)⟩
    · obtain ⟨e, n, ne, nf, d⟩ := I.pin p hp
      exact ⟨(hs.2 p.1 ne).trans e, n, ne, nf, d⟩
  · have hfn : X.fn x = true := by
      rcases hf with z | z
      · exact z
      · rw [z] at hk; cases hk
    obtain ⟨c, hc⟩ := I.ok.has x (.inl hk)
    obtain ⟨w', z⟩ := I.cell x c hc
    refine wpAny_storeName_cell I.ok.kind hk hc z (fun h' hc' hs => ?_)
    obtain ⟨oc, hoc, hocd⟩ := id z
    refine h { s with heap := h' } ⟨I.ok, I.os, I.bare, ⟨fun b o e n hb hx => ?_, fun b o e n hb hx => ?_, I.base.free, fun b o e hx => ?_, I.base.tups, I.base.frzs, I.base.tbls⟩, ⟨m, hn.sameBut hs (Ne.symm (cne x c hc)), fun j y v' e1 e2 e3 => ?_⟩, fun y c' e => ?_, I.free, I.freeC, fun p hp => ?_, tracked ⟨oc, hoc, I.freeC x c hc⟩ hs, by simpa using I.len⟩ ⟨c, hs, .inr hc⟩
    · exact (hs.2 b (Nat.ne_of_lt (Nat.lt_of_lt_of_le (Heap.lt_size e) (I.ok.cab x c hfn hc)))).trans (I.base.keep b o e n hb hx)
    · obtain ⟨sl, e1⟩ := I.base.slot b o e n hb hx
      exact ⟨sl, (hs.2 b (Nat.ne_of_lt (Nat.lt_of_lt_of_le (Heap.lt_size e) (I.ok.cab x c hfn hc)))).trans e1⟩
    · obtain ⟨o', e1⟩ := I.base.there b o e hx
      exact ⟨o', (hs.2 b (Nat.ne_of_lt (Nat.lt_of_lt_of_le (Heap.lt_size e) (I.ok.cab x c hfn hc)))).trans e1⟩
    · by_cases hj : j = i
      · subst hj
        rw [hi] at e1; cases e1
        rw [List.getElem?_set_self hiσ] at e2
        cases e2
        exact ⟨u, r, .inr ⟨.inl hk, c, hc, hc'⟩⟩
      · rw [List.getElem?_set_ne (Ne.symm hj)] at e2
        obtain ⟨u', r', q⟩ := hl j y v' e1 e2 e3
        refine ⟨u', r', ?_⟩
        rcases q with q | ⟨k, c', e, z'⟩
        · exact .inl q
        · refine .inr ⟨k, c', e, z'.sameBut hs ?_⟩
          rintro rfl
          exact hj (nodup_ix hN e1 (I.ok.inj _ _ _ e hc ▸ hi))
    · by_cases hcc : c' = c
      · subst hcc; exact ⟨_, hc'⟩
      · obtain ⟨w2, z2⟩ := I.cell y c' e
        exact ⟨w2, z2.sameBut hs hcc⟩
    · obtain ⟨e, n, ne, nf, d⟩ := I.pin p hp
      refine ⟨(hs.2 p.1 ?_).trans e, n, ne, nf, d⟩
      intro q
      rw [q, hoc] at e
      have q' : oc = p.2 := Option.some.inj e
      exact d w' (by rw [← q']; exact hocd)
theorem store_ok {M : Model} {A : Around} {E : Value → Shared → Prop} {i : Nat} {x : Str} {v : V} {u : Value} {Q : Unit → Shared → Prop} (I : Inv X pins σ H s) (hN : X.N.Nodup) (hi : X.N[i]? = some x) (hx : Loc X.env.scope x) (r : RelV v u)
  (h : ∀ s', Inv X pins (σ.set i (some v)) H s' → Q () s') (hf : X.fn x = true ∨ X.env.scope.names.lookup x = some .local := by first | exact .inl rfl | exact .inr rfl | assumption) : wpAny M A (storeName X.env x u) Q E s :=
 store_ok2 I hN hi hx r (fun s' I' _ => h s' I') hf
theorem Inv.call' {s' : Shared} {ch : List Addr} (I : Inv X pins σ H s) (ho : s'.os = s.os) (u : Un (frs X.stack) ch H H' s.heap s'.heap) (hok : HOk X.prog X.w H' s'.heap) (hg : AllBare s'.gens)
  (hch : ∀ b ∈ ch, (b ∈ X.ex ∨ X.s₀.heap.objs.size ≤ b) ∧ b ≠ X.env.locals ∧ (∀ x c, X.env.cells.lookup x = some c → c ≠ b) ∧ ∀ p ∈ X.pn ++ pins, p.1 ≠ b) : Inv X pins σ H' s' := by
 obtain ⟨h', g', d', t', o'⟩ := s'
 have e : o' = s.os := ho
 subst e
 exact I.call (g' := g') (t' := t') (d' := d') u hok hg hch
end
abbrev XK := Value → Option Addr → Hp → Prop
abbrev St := List (Option V)
abbrev VK := V → Hp → Prop
abbrev TE := St → Hp → VK → Prop
abbrev TT := St → Hp → (Bool → Hp → Prop) → Prop
abbrev TA := St → Hp → (List V → Hp → Prop) → Prop
structure Ends where
 nx : St → Hp → Prop
 rt : VK
 bk : St → Hp → Prop := fun _ _ => False
 ct : St → Hp → Prop := fun _ _ => False
abbrev TS := Ends → St → Hp → Prop
def EP (X : Cx) (pins : List (Addr × Obj)) (σ : St) (Q : VK) (u : Value) (s' : Shared) : Prop := ∃ v H', Inv X pins σ H' s' ∧ RelV v u ∧ Q v H'
def TP (X : Cx) (pins : List (Addr × Obj)) (σ : St) (Q : Bool → Hp → Prop) (b : Bool) (s' : Shared) : Prop := ∃ H', Inv X pins σ H' s' ∧ Q b H'
def AP (X : Cx) (pins : List (Addr × Obj)) (σ : St) (Q : List V → Hp → Prop) (us : List Value) (s' : Shared) : Prop := ∃ vs H', Inv X pins σ H' s' ∧ Vals vs us ∧ Q vs H'
def SP (X : Cx) (pins : List (Addr × Obj)) (D : Ends) (f : Flow) (s' : Shared) : Prop :=
 match f with
 | .next => ∃ σ' H', Inv X pins σ' H' s' ∧ D.nx σ' H'
 | .brk => ∃ σ' H', Inv X pins σ' H' s' ∧ D.bk σ' H'
 | .cont => ∃ σ' H', Inv X pins σ' H' s' ∧ D.ct σ' H'
 | .ret u => ∃ v σ' H', Inv X pins σ' H' s' ∧ RelV v u ∧ D.rt v H'
def PE (X : Cx) (e : Expr) (t : TE) : Prop :=
 ∀ (pins : List (Addr × Obj)) (s : Shared) (σ : St) (H : Hp) (Q : VK), Inv X pins σ H s → t σ H Q → wpAny (model X.prog X.w) X.A (eval e X.env) (EP X pins σ Q) X.xe s
def PT (X : Cx) (e : Expr) (t : TT) : Prop :=
 ∀ (pins : List (Addr × Obj)) (s : Shared) (σ : St) (H : Hp) (Q : Bool → Hp → Prop), Inv X pins σ H s → t σ H Q → wpAny (model X.prog X.w) X.A (isTrue e X.env (eval e X.env)) (TP X pins σ Q) X.xe s
def PW (X : Cx) (e : Expr) (t : TT) : Prop :=
 ∀ (whole : Sem Value) (pins : List (Addr × Obj)) (s : Shared) (σ : St) (H : Hp) (Q : Bool → Hp → Prop), Inv X pins σ H s → t σ H Q → wpAny (model X.prog X.w) X.A (isTrue e X.env whole) (TP X pins σ Q) X.xe s
theorem PW.pt {X : Cx} {e : Expr} {t : TT} (h : PW X e t) : PT X e t := h _
def PA (X : Cx) (es : List Expr) (t : TA) : Prop :=
 ∀ (pos : Pos) (pins : List (Addr × Obj)) (s : Shared) (σ : St) (H : Hp) (Q : List V → Hp → Prop), Inv X pins σ H s → t σ H Q → wpAny (model X.prog X.w) X.A (spliced (backTo pos (starEach es X.env))) (AP X pins σ Q) X.xe s
def PS (X : Cx) (st : Stmt) (t : TS) : Prop :=
 ∀ (pins : List (Addr × Obj)) (s : Shared) (σ : St) (H : Hp) (D : Ends), Inv X pins σ H s → t D σ H → wpAny (model X.prog X.w) X.A (exec st X.env) (SP X pins D) X.xe s
def PSs (X : Cx) (st : List Stmt) (t : TS) : Prop :=
 ∀ (pins : List (Addr × Obj)) (s : Shared) (σ : St) (H : Hp) (D : Ends), Inv X pins σ H s → t D σ H → wpAny (model X.prog X.w) X.A (execs st X.env) (SP X pins D) X.xe s
theorem thn {α : Type} {t : Sem α} {Q Q' : α → Shared → Prop} {M : Model} {A : Around} {E : Value → Shared → Prop} {s : Shared} (h : wpAny M A t Q E s) (hQ : ∀ a s, Q a s → Q' a s) : wpAny M A t Q' E s := wpAny_mono h hQ fun _ _ x => x
end L2
namespace L2
open PySem PySem.Spec PyProof.Rows
section
variable {X : Cx}
def tVar (i : Nat) : TE := fun σ H Q => ∃ v, σ[i]? = some (some v) ∧ Q v H
def tC (v : V) : TE := fun _ H Q => Q v H
theorem pe_var {i : Nat} {x : Str} {pos : Pos} (hN : X.N[i]? = some x) (hv : Vis X.env.scope x) (hd : (x == ("__debug__" : Str)) = false := by decide) (hcd : (x == ("__classdict__" : Str)) = false := by decide) : PE X (.Name x pos) (tVar i) := by
 intro pins s σ H Q I h
 obtain ⟨v, e, h⟩ := h
 obtain ⟨m, hn, hl⟩ := I.loc
 obtain ⟨u, r, l⟩ := hl i x v hN e hv
 have fin : EP X pins σ Q u s := ⟨v, H, I, r, h⟩
 rcases l with ⟨hk, hm⟩ | ⟨hk, c, hc, hcell⟩
 ·exact wpAny_Name (wpAny_loadName_local I.ok.kind hk hn hm fin) hd
 ·rcases hk with hk | hk
  ·exact wpAny_Name (wpAny_loadName_cell I.ok.kind hk hc hcell fin) hd
  ·exact wpAny_Name (wpAny_loadName_free I.ok.kind hk hc hcell fin hcd) hd
theorem pe_int {i j pos} : PE X (.Constant (.int i) j pos) (tC (.int i)) := fun _ _ _ H _ I h => wpAny_Constant_int ⟨.int i, H, I.tok _, ⟨_, rfl⟩, h⟩
theorem pe_bl {b j pos} : PE X (.Constant (.bool b) j pos) (tC (.bl b)) := fun _ _ _ H _ I h => Constant_bool ⟨.bl b, H, I, rfl, h⟩
theorem pe_non {j pos} : PE X (.Constant .none j pos) (tC .non) := fun _ _ _ H _ I h => Constant_none ⟨.non, H, I, rfl, h⟩
theorem pe_str {x j pos} : PE X (.Constant (.str x) j pos) (tC (.str x)) := fun _ _ _ H _ I h => Calls.Constant_str ⟨.str x, H, I.tok _, ⟨_, rfl⟩, h⟩
def Gl (X : Cx) (x : Str) : Prop := X.env.kindOf x = some .globalImplicit
theorem ld_glob {E : Value → Shared → Prop} {pins : List (Addr × Obj)} {s : Shared} {σ : St} {H : Hp} {x : Str} {u : Value} {pos : Pos} {Q : Value → Shared → Prop} (I : Inv X pins σ H s) (hg : Gl X x) (hm : X.mg x = some u) (h : Q u s)
  (hd : (x == ("__debug__" : Str)) = false := by decide) : wpAny (model X.prog X.w) X.A (eval (.Name x pos) X.env) Q E s :=
 Calls.Name_function_global I.ok.kind hg (Calls.loadGlobal_global (by rw [I.ok.glob]; exact I.mod.glob.keeps I.bk) hm h) hd
theorem ld_blt {E : Value → Shared → Prop} {pins : List (Addr × Obj)} {s : Shared} {σ : St} {H : Hp} {x : Str} {u : Value} {pos : Pos} {Q : Value → Shared → Prop} (I : Inv X pins σ H s) (hg : Gl X x) (hm : X.mg x = none) (hv : bootBuiltins x = some u) (h : Q u s)
  (hn : x ≠ "__name__" := by decide) (hd : (x == ("__debug__" : Str)) = false := by decide) : wpAny (model X.prog X.w) X.A (eval (.Name x pos) X.env) Q E s := by
 obtain ⟨mb, h1, h2⟩ := I.mod.blt
 exact Calls.Name_function_global I.ok.kind hg (Calls.loadGlobal_builtin (by rw [I.ok.glob]; exact I.mod.glob.keeps I.bk) hm (by rw [I.ok.blt]; exact h1.keeps I.bk) ((h2 x hn).trans hv) h) hd
theorem pe_glob {x : Str} {v : V} {u : Value} {pos : Pos} (hg : Gl X x) (hm : X.mg x = some u) (r : RelV v u) (hd : (x == ("__debug__" : Str)) = false := by decide) : PE X (.Name x pos) (tC v) :=
 fun _ _ _ H _ I h => ld_glob I hg hm ⟨v, H, I, r, h⟩ hd
theorem pe_bltn {x : Str} {v : V} {u : Value} {pos : Pos} (hg : Gl X x) (hm : X.mg x = none) (hv : bootBuiltins x = some u) (r : RelV v u) (hn : x ≠ "__name__" := by decide) (hd : (x == ("__debug__" : Str)) = false := by decide) : PE X (.Name x pos) (tC v) :=
 fun _ _ _ H _ I h => ld_blt I hg hm hv ⟨v, H, I, r, h⟩ hn hd
variable {a b : Expr} {ta tb : TE} {pos : Pos}
def tB (t : TE) : TT := fun σ H Q => t σ H fun x H1 => ∃ c, x = .bl c ∧ Q c H1
theorem pt_val {e : Expr} {t : TE} (h : PE X e t) (he : ∀ whole, isTrue e X.env whole = (do let v ← whole; standAt e.pos; holding [v] (truthy v)) := by intro _; rfl) : PT X e (tB t) := by
 intro pins s σ H Q I hw
 refine isTrue_plain (thn (h pins s σ H _ I hw) fun v s1 ⟨x, H1, I1, r1, q1⟩ => ?_) (he _)
 obtain ⟨d, rfl, q⟩ := q1
 cases r1
 exact wpAny_truthy_bool ⟨H1, I1, q⟩
variable {tA tB' : TT} {rest : List Expr}
def tAnd (t u : TT) : TT := fun σ H Q => t σ H fun c H1 => if c = true then u σ H1 Q else Q false H1
def tOr (t u : TT) : TT := fun σ H Q => t σ H fun c H1 => if c = true then Q true H1 else u σ H1 Q
def tNot (t : TT) : TT := fun σ H Q => t σ H fun c H1 => Q (!c) H1
theorem pw_and1 (ha : PT X a tA) : PW X (.BoolOp .And [a] pos) tA := by
 intro wh pins s σ H Q I h
 refine isTrue_and (thn (ha pins s σ H Q I h) fun c s1 e => ?_)
 cases c with
 | true => exact isTrue_and_nil e
 | false => exact e
theorem pw_or1 (ha : PT X a tA) : PW X (.BoolOp .Or [a] pos) tA := by
 intro wh pins s σ H Q I h
 refine isTrue_or (thn (ha pins s σ H Q I h) fun c s1 e => ?_)
 cases c with
 | false => exact isTrue_or_nil e
 | true => exact e
theorem pw_and (ha : PT X a tA) (hb : PW X (.BoolOp .And (b :: rest) pos) tB') : PW X (.BoolOp .And (a :: b :: rest) pos) (tAnd tA tB') := by
 intro wh pins s σ H Q I h
 refine isTrue_and (thn (ha pins s σ H _ I h) fun c s1 ⟨H1, I1, q1⟩ => ?_)
 cases c with
 | true => exact hb wh pins s1 σ H1 Q I1 q1
 | false => exact ⟨H1, I1, q1⟩
theorem pw_or (ha : PT X a tA) (hb : PW X (.BoolOp .Or (b :: rest) pos) tB') : PW X (.BoolOp .Or (a :: b :: rest) pos) (tOr tA tB') := by
 intro wh pins s σ H Q I h
 refine isTrue_or (thn (ha pins s σ H _ I h) fun c s1 ⟨H1, I1, q1⟩ => ?_)
 cases c with
 | true => exact ⟨H1, I1, q1⟩
 | false => exact hb wh pins s1 σ H1 Q I1 q1
theorem pt_not (ha : PT X a tA) : PT X (.UnaryOp .Not a pos) (tNot tA) := by
 intro pins s σ H Q I h
 exact isTrue_not (ha pins s σ H (fun c H1 => Q (!c) H1) I h)
def tAndV (ta tb : TE) : TE := fun σ H Q => ta σ H fun x H1 => ∃ c, x = .bl c ∧ if c = true then tb σ H1 Q else Q (.bl false) H1
def tOrV (ta tb : TE) : TE := fun σ H Q => ta σ H fun x H1 => ∃ c, x = .bl c ∧ if c = true then Q (.bl true) H1 else tb σ H1 Q
def tNotV (ta : TE) : TE := fun σ H Q => ta σ H fun x H1 => ∃ c, x = .bl c ∧ Q (.bl (!c)) H1
theorem pe_one {op} {t : TE} (h : PE X a t) : PE X (.BoolOp op [a] pos) t := fun pins s σ H Q I hw => BoolOp_one (h pins s σ H Q I hw)
theorem pe_and (ha : PE X a ta) (hb : PE X (.BoolOp .And (b :: rest) pos) tb) : PE X (.BoolOp .And (a :: b :: rest) pos) (tAndV ta tb) := by
 intro pins s σ H Q I h
 refine BoolOp_and (thn (ha pins s σ H _ I h) fun v s1 ⟨x, H1, I1, r1, q1⟩ => ?_)
 obtain ⟨c, rfl, q1⟩ := q1
 cases r1
 refine wpAny_truthy_bool ?_
 cases c with
 | true => exact hb pins s1 σ H1 Q I1 q1
 | false => exact ⟨.bl false, H1, I1, rfl, q1⟩
theorem pe_or (ha : PE X a ta) (hb : PE X (.BoolOp .Or (b :: rest) pos) tb) : PE X (.BoolOp .Or (a :: b :: rest) pos) (tOrV ta tb) := by
 intro pins s σ H Q I h
 refine BoolOp_or (thn (ha pins s σ H _ I h) fun v s1 ⟨x, H1, I1, r1, q1⟩ => ?_)
 obtain ⟨c, rfl, q1⟩ := q1
 cases r1
 refine wpAny_truthy_bool ?_
 cases c with
 | false => exact hb pins s1 σ H1 Q I1 q1
 | true => exact ⟨.bl true, H1, I1, rfl, q1⟩
theorem pe_not (ha : PE X a ta) : PE X (.UnaryOp .Not a pos) (tNotV ta) := by
 intro pins s σ H Q I h
 refine UnaryOp_ (thn (ha pins s σ H _ I h) fun v s1 ⟨x, H1, I1, r1, q1⟩ => ?_)
 obtain ⟨c, rfl, q1⟩ := q1
 cases r1
 exact not_of (wpAny_truthy_bool ⟨.bl (!c), H1, I1, rfl, q1⟩)
end
end L2
namespace L2
open PySem PySem.Spec PyProof.Rows
def SqL (K : PySem.W.Frag) (H : Hp) (a : Addr) (xs : List V) : Prop :=
 Rd H a (.lst xs) ∨
  ∃ (o : Obj) (its : Array Value) (n : Nat), K.lookup a = some o ∧ o.cls = .type "list" ∧ o.dict = none ∧ o.data = .seq its n ∧ its.size ≤ sizeLine ∧ Vals xs its.toList
def SqT (K : PySem.W.Frag) (H : Hp) (a : Addr) (xs : List V) : Prop :=
 Rd H a (.tup xs) ∨
  ∃ (o : Obj) (its : Array Value) (n : Nat), K.lookup a = some o ∧ o.cls = .type "tuple" ∧ o.data = .seq its n ∧ its.size ≤ sizeLine ∧ Vals xs its.toList
def absV : Value → Option V
 | .none => some .non
 | .bool b => some (.bl b)
 | .int i _ => some (.int i)
 | .str x _ => some (.str x)
 | .bytes b _ => some (.byt b)
 | .float b _ => some (.flt b)
 | .ref a => some (.ref a)
 | .type n => some (.ty n)
 | _ => none
theorem RelV.abs {x : V} {u : Value} (r : RelV x u) : absV u = some x := by
 cases x with
 | non => cases r; rfl
 | bl _ => cases r; rfl
 | int _ => obtain ⟨t, rfl⟩ := r; rfl
 | str _ => obtain ⟨t, rfl⟩ := r; rfl
 | byt _ => obtain ⟨t, rfl⟩ := r; rfl
 | flt _ => obtain ⟨t, rfl⟩ := r; rfl
 | ref _ => cases r; rfl
 | ty _ => cases r; rfl
theorem RelV.inj {x y : V} {u : Value} (r : RelV x u) (q : RelV y u) : x = y := Option.some.inj (r.abs.symm.trans q.abs)
theorem Vals.inj : ∀ {xs ys : List V} {us : List Value}, Vals xs us → Vals ys us → xs = ys
 | _, _, _, .nil, .nil => rfl
 | _, _, _, .cons r t, .cons r' t' => by rw [r.inj r', Vals.inj t t']
section
variable {X : Cx} {pins : List (Addr × Obj)} {σ : St} {H : Hp} {s : Shared} {a : Addr} {xs ys : List V}
theorem SqL.of {K : PySem.W.Frag} (h : H a = some (.lst xs)) : SqL K H a xs := .inl (.inl h)
theorem SqT.of {K : PySem.W.Frag} (h : H a = some (.tup xs)) : SqT K H a xs := .inl (.inl h)
theorem Inv.list (I : Inv X pins σ H s) (h : SqL X.K H a xs) : ∃ its : List Value, Vals xs its ∧ PlainL s.heap a its.toArray ∧ xs.length ≤ sizeLine := by
 rcases h with h | ⟨o, its, n, hk, hc, hd, hs, hz, r⟩
 ·obtain ⟨z, its, n, r, e⟩ := h.ok I.hok
  exact ⟨its, r, ⟨_, n, e, rfl, rfl, rfl⟩, z⟩
 ·refine ⟨its.toList, r, ⟨o, n, I.kIn a o hk, hc, hd, by simpa using hs⟩, ?_⟩
  have e := r.length
  simp only [Array.length_toList] at e
  omega
theorem Inv.tuple (I : Inv X pins σ H s) (h : SqT X.K H a xs) : ∃ its : List Value, Vals xs its ∧ IsTup s.heap a its.toArray ∧ xs.length ≤ sizeLine := by
 rcases h with h | ⟨o, its, n, hk, hc, hs, hz, r⟩
 ·obtain ⟨z, its, r, p⟩ := h.ok I.hok
  exact ⟨its, r, p, z⟩
 ·refine ⟨its.toList, r, ⟨o, I.kIn a o hk, hc, n, by simpa using hs⟩, ?_⟩
  have e := r.length
  simp only [Array.length_toList] at e
  omega
theorem Inv.list_inj (I : Inv X pins σ H s) (h : SqL X.K H a xs) (h' : SqL X.K H a ys) : xs = ys := by
 obtain ⟨its, r, ⟨o, n, e, _, _, d⟩, _⟩ := I.list h
 obtain ⟨its', r', ⟨o', n', e', _, _, d'⟩, _⟩ := I.list h'
 rw [e] at e'; cases e'
 rw [d] at d'
 injection d' with d1 _
 have : its = its' := by simpa using congrArg Array.toList d1
 subst this
 exact r.inj r'
theorem Inv.tuple_inj (I : Inv X pins σ H s) (h : SqT X.K H a xs) (h' : SqT X.K H a ys) : xs = ys := by
 obtain ⟨its, r, ⟨o, e, _, n, d⟩, _⟩ := I.tuple h
 obtain ⟨its', r', ⟨o', e', _, n', d'⟩, _⟩ := I.tuple h'
 rw [e] at e'; cases e'
 rw [d] at d'
 injection d' with d1 _
 have : its = its' := by simpa using congrArg Array.toList d1
 subst this
 exact r.inj r'
end
abbrev Cx.wish (X : Cx) (E : Value → Shared → Prop) : Cx := { X with xe := E }
abbrev Cx.nox (X : Cx) : Cx := X.wish fun _ _ => False
theorem Cx.Ok.wish {X : Cx} (ok : X.Ok) (E : Value → Shared → Prop) : (X.wish E).Ok :=
 ⟨ok.mod, ok.kind, ok.glob, ok.blt, ok.above, ok.inj, ok.has, ok.cab, ok.hd, ok.frames, ok.stk, ok.exf, ok.bs, ok.bsz, ok.noex, ok.exfs, ok.funs, ok.frf⟩
theorem Cx.Ok.unwish {X : Cx} {E : Value → Shared → Prop} (ok : (X.wish E).Ok) : X.Ok :=
 ⟨ok.mod, ok.kind, ok.glob, ok.blt, ok.above, ok.inj, ok.has, ok.cab, ok.hd, ok.frames, ok.stk, ok.exf, ok.bs, ok.bsz, ok.noex, ok.exfs, ok.funs, ok.frf⟩
section
variable {X : Cx} {pins : List (Addr × Obj)} {σ : St} {H : Hp} {s : Shared} {E : Value → Shared → Prop}
theorem Inv.wish (I : Inv X pins σ H s) (E : Value → Shared → Prop) : Inv (X.wish E) pins σ H s := ⟨I.ok.wish E, I.os, I.bare, I.base, I.loc, I.cell, I.free, I.freeC, I.pin, I.hok, I.len⟩
theorem Inv.unwish (I : Inv (X.wish E) pins σ H s) : Inv X pins σ H s := ⟨I.ok.unwish, I.os, I.bare, I.base, I.loc, I.cell, I.free, I.freeC, I.pin, I.hok, I.len⟩
theorem SP.unwish {D : Ends} {f : Flow} {s' : Shared} (h : SP (X.wish E) pins D f s') : SP X pins D f s' := by
 cases f with
 | next => obtain ⟨σ', H', I, q⟩ := h; exact ⟨σ', H', I.unwish, q⟩
 | brk => obtain ⟨σ', H', I, q⟩ := h; exact ⟨σ', H', I.unwish, q⟩
 | cont => obtain ⟨σ', H', I, q⟩ := h; exact ⟨σ', H', I.unwish, q⟩
 | ret u => obtain ⟨v, σ', H', I, r, q⟩ := h; exact ⟨v, σ', H', I.unwish, r, q⟩
theorem PSs.nox {st : List Stmt} {t : TS} (h : PSs X.nox st t) : PSs X st t := fun pins s σ H D I hw =>
 wpAny_mono (h pins s σ H D (I.wish _) hw) (fun _ _ q => q.unwish) fun _ _ z => False.elim z
end
section
variable {X : Cx} {st : Stmt} {rest : List Stmt} {t u : TS} {e : Expr} {te : TE} {pos : Pos}
def tNext : TS := fun D σ H => D.nx σ H
def tSeq (t u : TS) : TS := fun D σ H => t { D with nx := u D } σ H
theorem pss_nil : PSs X [] tNext := fun _ _ σ H _ I h => wpAny_execs_nil ⟨σ, H, I, h⟩
theorem pss_cons (h1 : PS X st t) (h2 : PSs X rest u) : PSs X (st :: rest) (tSeq t u) := by
 intro pins s σ H D I h
 refine wpAny_execs_cons (thn (h1 pins s σ H { D with nx := u D } I h) fun f s1 q => ?_)
 cases f with
 | next =>
  obtain ⟨σ', H', I', q⟩ := q
  exact h2 pins s1 σ' H' D I' q
 | ret v => exact q
 | brk => exact q
 | cont => exact q
theorem pss_one (h1 : PS X st t) : PSs X [st] t := by
 intro pins s σ H D I h
 refine wpAny_execs_cons (thn (h1 pins s σ H D I h) fun f s1 q => ?_)
 cases f with
 | next => exact wpAny_execs_nil q
 | ret v => exact q
 | brk => exact q
 | cont => exact q
theorem Inv.quiet {pins : List (Addr × Obj)} {σ : St} {H : Hp} {s : Shared} (I : Inv X pins σ H s) : interactive X.env = false := by simp [interactive, I.ok.kind]
def tDrop (te : TE) : TS := fun D σ H => te σ H fun _ H1 => D.nx σ H1
theorem ps_expr (he : PE X e te) (hs : swapsWith e none pos.line X.env = pure false := by rfl) : PS X (.Expr e pos) (tDrop te) := by
 intro pins s σ H D I h
 exact wpAny_Expr_any (thn (he pins s σ H _ I h) fun v s1 ⟨x, H1, I1, r1, q1⟩ => ⟨σ, H1, I1, q1⟩) I.quiet hs
def tRet (te : TE) : TS := fun D σ H => te σ H D.rt
theorem ps_ret (he : PE X e te) : PS X (.Return (some e) pos) (tRet te) := by
 intro pins s σ H D I h
 exact wpAny_Return_some (thn (he pins s σ H _ I h) fun v s1 ⟨x, H1, I1, r1, q1⟩ => ⟨x, σ, H1, I1, r1, q1⟩)
def tIfS (c : TT) (t u : TS) : TS := fun D σ H => c σ H fun b H1 => if b = true then t D σ H1 else u D σ H1
theorem ps_if {c : Expr} {a b : List Stmt} {tc : TT} (hc : PT X c tc) (ha : PSs X a t) (hb : PSs X b u) : PS X (.If c a b pos) (tIfS tc t u) := by
 intro pins s σ H D I h
 refine wpAny_If (thn (hc pins s σ H _ I h) fun d s1 ⟨H1, I1, q1⟩ => ?_)
 cases d with
 | true => exact ha pins s1 σ H1 D I1 q1
 | false => exact hb pins s1 σ H1 D I1 q1
end
abbrev TG := V → St → Hp → (St → Hp → Prop) → Prop
abbrev TGs := List V → St → Hp → (St → Hp → Prop) → Prop
def PG (X : Cx) (target : Expr) (t : TG) : Prop :=
 ∀ (pins : List (Addr × Obj)) (s : Shared) (σ : St) (H : Hp) (v : V) (u : Value) (Q : St → Hp → Prop), Inv X pins σ H s → RelV v u → t v σ H Q →
  wpAny (model X.prog X.w) X.A (assign target X.env u) (fun _ s' => ∃ σ' H', Inv X pins σ' H' s' ∧ Q σ' H') X.xe s
def PGs (X : Cx) (ts : List Expr) (t : TGs) : Prop :=
 ∀ (pins : List (Addr × Obj)) (s : Shared) (σ : St) (H : Hp) (vs : List V) (us : List Value) (Q : St → Hp → Prop), Inv X pins σ H s → Vals vs us → t vs σ H Q →
  wpAny (model X.prog X.w) X.A (assignInOrder ((assignEach ts X.env).map (·.2)) us) (fun _ s' => ∃ σ' H', Inv X pins σ' H' s' ∧ Q σ' H') X.xe s
abbrev TSet := V → V → V → Hp → (Hp → Prop) → Prop
section
variable {X : Cx} {pos : Pos}
def gName (i : Nat) : TG := fun v σ H Q => Q (σ.set i (some v)) H
theorem pg_name {i : Nat} {x : Str} (hN : X.N.Nodup) (hi : X.N[i]? = some x) (hx : Loc X.env.scope x) (hf : X.fn x = true ∨ X.env.scope.names.lookup x = some .local := by first | exact .inl rfl | exact .inr rfl | assumption) : PG X (.Name x pos) (gName i) := by
 intro pins s σ H v u Q I r h
 exact wpAny_assign_Name (store_ok I hN hi hx r (fun s' I' => ⟨_, H, I', h⟩) hf)
def gNil : TGs := fun vs σ H Q => vs = [] ∧ Q σ H
def gCons (t : TG) (u : TGs) : TGs := fun vs σ H Q => ∃ v r, vs = v :: r ∧ t v σ H fun σ' H' => u r σ' H' Q
theorem pgs_nil : PGs X [] gNil := by
 intro pins s σ H vs us Q I r h
 obtain ⟨e, h⟩ := h
 subst e
 cases r
 exact assignInOrder_nil ⟨σ, H, I, h⟩
theorem pgs_cons {e : Expr} {es : List Expr} {t : TG} {u : TGs} (h1 : PG X e t) (h2 : PGs X es u)
  (hs : (assignEach (e :: es) X.env).map (·.2) = assign e X.env :: (assignEach es X.env).map (·.2) := by rfl) : PGs X (e :: es) (gCons t u) := by
 intro pins s σ H vs us Q I r h
 obtain ⟨v, vr, e1, h⟩ := h
 subst e1
 cases r with
 | cons r rr =>
  rw [hs]
  refine assignInOrder_cons (thn (h1 pins s σ H _ _ _ I r h) fun _ s1 ⟨σ1, H1, I1, q1⟩ => ?_)
  exact h2 pins s1 σ1 H1 _ _ Q I1 rr q1
def gTup (K : PySem.W.Frag) (n : Nat) (t : TGs) : TG := fun v σ H Q => ∃ a xs, v = .ref a ∧ SqT K H a xs ∧ xs.length = n ∧ t xs σ H Q
theorem pg_tup {es : List Expr} {k : Nat} {t : TGs} {n : Nat} (hc : X.calm = true) (h : PGs X es t)
  (hn : (assignEach es X.env).length = n := by rfl) (hst : (assignEach es X.env).findIdx? (·.1) = none := by rfl) : PG X (.Tuple es k pos) (gTup X.K n t) := by
 intro pins s σ H v u Q I r hw
 obtain ⟨a, xs, e1, hq, hl, hw⟩ := hw
 subst e1
 cases r
 obtain ⟨its, rv, ht, hz⟩ := I.tuple hq
 refine assign_Tuple_tuple (I.ok.hd hc) ht (by simp [hn, ← hl, rv.length]) hst fun h' hx => ?_
 have I1 : Inv X pins σ H { s with heap := h' } := I.kept (t' := s.toks) fun b o e => hx b o (Nat.ne_of_lt (Heap.lt_size e)) e
 exact h pins _ σ H xs _ Q I1 (by simpa using rv) hw
def tAsg (te : TE) (g : TG) : TS := fun D σ H => te σ H fun x H1 => g x σ H1 D.nx
theorem ps_set {i : Nat} {x : Str} {e : Expr} {te : TE} {pos' : Pos} (hN : X.N.Nodup) (hi : X.N[i]? = some x) (hx : Loc X.env.scope x) (he : PE X e te) (hs : swapsWith e (some (.Name x pos')) pos.line X.env = pure false := by rfl) (hf : X.fn x = true ∨ X.env.scope.names.lookup x = some .local := by first | exact .inl rfl | exact .inr rfl | assumption) :
  PS X (.Assign [.Name x pos'] e pos) (tAsg te (gName i)) := by
 intro pins s σ H D I h
 refine wpAny_Assign_Name (thn (he pins s σ H _ I h) fun v s1 ⟨y, H1, I1, r1, q1⟩ => ?_) hs
 exact store_ok I1 hN hi hx r1 (fun s2 I2 => ⟨_, H1, I2, q1⟩) hf
end
section
variable {X : Cx} {pos : Pos}
def tWhile (c : TT) (tb : TS) : TS := fun D σ H => ∃ W : Nat → St → Hp → Prop, (∃ m, W m σ H) ∧ ∀ m σ H, W m σ H →
 c σ H fun b H1 => if b = true then ∃ N : St → Hp → Prop, (∀ σ' H', N σ' H' → ∃ m', m' < m ∧ W m' σ' H') ∧ tb { D with nx := N, ct := N, bk := D.nx } σ H1 else D.nx σ H1
theorem ps_while {c : Expr} {body : List Stmt} {tc : TT} {tb : TS} (hp : PassesOwn (model X.prog X.w) X.A X.env X.xe) (hc : PT X c tc) (hb : PSs X body tb) : PS X (.While c body [] pos) (tWhile tc tb) := by
 intro pins s σ H D I h
 obtain ⟨W, ⟨m0, w0⟩, turn⟩ := h
 refine wpAny_While (codeAny_whileLoop (fun n s' => ∃ σ' H', Inv X pins σ' H' s' ∧ W n σ' H') ?_ m0 ⟨σ, H, I, w0⟩)
 rintro n s1 ⟨σ1, H1, I1, w1⟩
 refine wpAny_passesOwn hp (thn (hc pins s1 σ1 H1 _ I1 (turn n σ1 H1 w1)) fun b s2 ⟨H2, I2, q2⟩ => ?_)
 cases b with
 | true =>
  obtain ⟨N, hN, q2⟩ := q2
  rw [if_pos rfl]
  refine wpAny_passesOwn hp (thn (hb pins s2 σ1 H2 _ I2 q2) fun f s3 q3 => ?_)
  cases f with
  | next =>
   obtain ⟨σ3, H3, I3, n3⟩ := q3
   obtain ⟨m', hm, w3⟩ := hN σ3 H3 n3
   exact ⟨m', hm, σ3, H3, I3, w3⟩
  | cont =>
   obtain ⟨σ3, H3, I3, n3⟩ := q3
   obtain ⟨m', hm, w3⟩ := hN σ3 H3 n3
   exact ⟨m', hm, σ3, H3, I3, w3⟩
  | brk => exact q3
  | ret v => exact q3
 | false =>
  rw [if_neg Bool.false_ne_true]
  exact wpAny_execs_nil ⟨σ1, H2, I2, q2⟩
end
structure It where
 go : Nat → Hp → Prop
 yld : Nat → Hp → V → Hp → Prop
 stop : Nat → Hp → Prop
def FpOk (X : Cx) (pins : List (Addr × Obj)) (H : Hp) (b : Addr) : Prop :=
 H b = none ∧ b ≠ X.env.locals ∧ b ∉ X.fs ∧ (b ∈ X.ex ∨ X.s₀.heap.objs.size ≤ b) ∧ (∀ x c, X.env.cells.lookup x = some c → c ≠ b) ∧ ∀ p ∈ X.pn ++ pins, p.1 ≠ b
theorem Inv.fpOk {X : Cx} {pins : List (Addr × Obj)} {σ : St} {H H' : Hp} {s : Shared} {b : Addr} (I : Inv X pins σ H s) (hb : s.heap.objs.size ≤ b) (hn : H' b = none) : FpOk X pins H' b := by
 refine ⟨hn, Nat.ne_of_gt (Nat.lt_of_lt_of_le I.lt hb), I.nofs hb, .inr (Nat.le_trans I.sz hb), fun x c e z => ?_, fun p hp z => ?_⟩
 ·obtain ⟨v, q⟩ := I.cell x c e
  exact absurd (Nat.lt_of_lt_of_le q.lt (by rw [z]; exact hb)) (Nat.lt_irrefl _)
 ·exact absurd (Nat.lt_of_lt_of_le (Heap.lt_size (I.pin p hp).1) (by rw [z]; exact hb)) (Nat.lt_irrefl _)
structure Turn (P : Program) (w : World) (K : PySem.W.Frag) (tg : Expr) (J : It) (fp : List Addr) (it : Addr) (tn : Nat → Heap → Prop) : Prop where
 mem : it ∈ fp
 obj : ∀ i h, tn i h → ∀ b ∈ fp, ∃ o, h.get? b = some o ∧ ∀ v, o.data ≠ .cell v
 keep : ∀ i h h', tn i h → (∀ b ∈ fp, ∀ o, h.get? b = some o → h'.get? b = some o) → tn i h'
 item : ∀ (X : Cx), X.prog = P → X.w = w → X.K = K → X.calm = true → ∀ (i : Nat) (pins : List (Addr × Obj)) (s : Shared) (σ : St) (H : Hp) (E : Value → Shared → Prop), Inv X pins σ H s → (∀ b ∈ fp, FpOk X pins H b) → tn i s.heap → J.go i H →
  wpAny (model P w) X.A (pyNext (.ref it)) (fun r s1 => ∃ u, r = some u ∧
   wpAny (model P w) X.A (letOwnedTupleGo tg (.ref it) u) (fun _ s2 => ∃ x H', Inv X pins σ H' s2 ∧ RelV x u ∧ J.yld i H x H' ∧ tn (i + 1) s2.heap ∧ ∀ b ∈ fp, H' b = none) E s1) E s
 done : ∀ (X : Cx), X.prog = P → X.w = w → X.K = K → X.calm = true → ∀ (i : Nat) (pins : List (Addr × Obj)) (s : Shared) (σ : St) (H : Hp) (E : Value → Shared → Prop), Inv X pins σ H s → (∀ b ∈ fp, FpOk X pins H b) → tn i s.heap → J.stop i H →
  wpAny (model P w) X.A (pyNext (.ref it)) (fun r s1 => r = none ∧ Inv X pins σ H s1) E s
 self : ∀ (A : Around) (i : Nat) (s : Shared) (Q : Value → Shared → Prop) (E : Value → Shared → Prop), tn i s.heap → Q (.ref it) s → wpAny (model P w) A (pyIter (.ref it)) Q E s
abbrev TI := St → Hp → (It → Hp → Prop) → Prop
def PIE (X : Cx) (pins : List (Addr × Obj)) (σ : St) (tg : Expr) (R : It → Hp → Prop) (itv : Value) (s2 : Shared) : Prop :=
 ∃ (it : Addr) (fp : List Addr) (tn : Nat → Heap → Prop) (J : It) (H' : Hp), itv = .ref it ∧ Inv X pins σ H' s2 ∧ Turn X.prog X.w X.K tg J fp it tn ∧ tn 0 s2.heap ∧ (∀ b ∈ fp, FpOk X pins H' b) ∧ R J H'
def PI (X : Cx) (tg iter : Expr) (wi : TI) : Prop :=
 ∀ (pins : List (Addr × Obj)) (s : Shared) (σ : St) (H : Hp) (R : It → Hp → Prop), Inv X pins σ H s → wi σ H R →
  wpAny (model X.prog X.w) X.A (eval iter X.env) (fun v s1 => wpAny (model X.prog X.w) X.A (pyIter v) (PIE X pins σ tg R) X.xe s1) X.xe s
theorem go_of {M : Model} {A : Around} {E : Value → Shared → Prop} {s : Shared} {tg : Expr} {it : Addr} {u : Value} {o : Obj} {n : String} {vs : Array Value} {Q : Unit → Shared → Prop} (ho : s.heap.get? it = some o) (hc : o.cls = .type n) (hd : o.data = .fields vs)
    (hn : ["enumerate", "zip", "dict_itemiterator", "dict_reverseitemiterator", "odict_iterator", "itertools.zip_longest", "itertools.pairwise"].contains n = false) (hQ : Q () s) : wpAny M A (letOwnedTupleGo tg (.ref it) u) Q E s := by
  unfold letOwnedTupleGo
  cases tg <;> first
    | exact wpAny_pure hQ
    | (cases u <;> first
        | exact wpAny_pure hQ
        | (refine wpAny_bind (wpAny_load ho ?_)
           rw [hc, hd]
           show wpAny M A (if (["enumerate", "zip", "dict_itemiterator", "dict_reverseitemiterator", "odict_iterator", "itertools.zip_longest", "itertools.pairwise"].contains n && vs[0]? == some (rawInt _)) = true then _ else _) Q E s
           rw [if_neg (by intro h; rw [hn, Bool.false_and] at h; cases h)]
           exact wpAny_pure hQ))
def Itl (K : PySem.W.Frag) (a : Addr) : It :=
 ⟨fun i H => ∃ xs x, SqL K H a xs ∧ xs[i]? = some x, fun i H x H' => H' = H ∧ ∀ xs, SqL K H a xs → xs[i]? = some x, fun i H => ∃ xs, SqL K H a xs ∧ xs.length ≤ i⟩
def Itt (K : PySem.W.Frag) (a : Addr) : It :=
 ⟨fun i H => ∃ xs x, SqT K H a xs ∧ xs[i]? = some x, fun i H x H' => H' = H ∧ ∀ xs, SqT K H a xs → xs[i]? = some x, fun i H => ∃ xs, SqT K H a xs ∧ xs.length ≤ i⟩
def Itr (lo : Int) (n : Nat) : It := ⟨fun i _ => i < n, fun i H x H' => H' = H ∧ x = .int (lo + i), fun i _ => n ≤ i⟩
theorem turn_list {P : Program} {w : World} {K : PySem.W.Frag} {tg : Expr} (a it : Addr) : Turn P w K tg (Itl K a) [it] it (fun i h => h.IsListIter it a i) where
 mem := by simp
 obj := fun i h st b hb => by
  have e : b = it := by simpa using hb
  subst e
  obtain ⟨o, e, c, d⟩ := st
  exact ⟨o, e, fun v z => by rw [d] at z; cases z⟩
 keep := fun i h h' st k => st.at fun o e => k it (by simp) o e
 item := by
  intro X hP hw hK hc i pins s σ H E I hf st hg
  subst hP hw hK
  obtain ⟨xs, x, hq, hx⟩ := hg
  obtain ⟨its, rv, p, hz⟩ := I.list hq
  obtain ⟨u, hu, ru⟩ := rv.get hx
  obtain ⟨f0, f1, f2, f3, f4, f5⟩ := hf it (by simp)
  refine wpAny_pyNext_list_item st p.isList (x := u) (by simpa using hu) fun h' st' sb => ?_
  have I1 : Inv X pins σ H { s with heap := h' } := I.turned (t' := s.toks) (fun b o hb e => (sb.2 b hb).trans e) f0 f1 f3 f4 f5
  obtain ⟨o, e, c, d⟩ := id st'
  exact ⟨u, rfl, go_of (s := { s with heap := h' }) e c d (by decide) ⟨x, H, I1, ru, ⟨rfl, fun ys hy => by rw [I.list_inj hy hq]; exact hx⟩, st', fun b hb => (hf b hb).1⟩⟩
 done := by
  intro X hP hw hK hc i pins s σ H E I hf st hg
  subst hP hw hK
  obtain ⟨xs, hq, hx⟩ := hg
  obtain ⟨its, rv, p, hz⟩ := I.list hq
  obtain ⟨f0, f1, f2, f3, f4, f5⟩ := hf it (by simp)
  have hl := rv.length
  exact wpAny_pyNext_list_end (I.ok.hd hc) st p.isList (by simp; omega) fun h' eb => ⟨rfl, I.turned (t' := s.toks) (fun b o hb e => eb b o hb e) f0 f1 f3 f4 f5⟩
 self := fun _ _ _ _ _ st h => wpAny_pyIter_listiter st h
theorem turn_tuple {P : Program} {w : World} {K : PySem.W.Frag} {tg : Expr} (a it : Addr) : Turn P w K tg (Itt K a) [it] it (fun i h => h.IsTupleIter it a i) where
 mem := by simp
 obj := fun i h st b hb => by
  have e : b = it := by simpa using hb
  subst e
  obtain ⟨o, e, c, d⟩ := st
  exact ⟨o, e, fun v z => by rw [d] at z; cases z⟩
 keep := fun i h h' st k => st.at fun o e => k it (by simp) o e
 item := by
  intro X hP hw hK hc i pins s σ H E I hf st hg
  subst hP hw hK
  obtain ⟨xs, x, hq, hx⟩ := hg
  obtain ⟨its, rv, p, hz⟩ := I.tuple hq
  obtain ⟨u, hu, ru⟩ := rv.get hx
  obtain ⟨f0, f1, f2, f3, f4, f5⟩ := hf it (by simp)
  refine wpAny_pyNext_tuple_item st (show s.heap.IsTuple a its.toArray from p) (x := u) (by simpa using hu) fun h' st' sb => ?_
  have I1 : Inv X pins σ H { s with heap := h' } := I.turned (t' := s.toks) (fun b o hb e => (sb.2 b hb).trans e) f0 f1 f3 f4 f5
  obtain ⟨o, e, c, d⟩ := id st'
  exact ⟨u, rfl, go_of (s := { s with heap := h' }) e c d (by decide) ⟨x, H, I1, ru, ⟨rfl, fun ys hy => by rw [I.tuple_inj hy hq]; exact hx⟩, st', fun b hb => (hf b hb).1⟩⟩
 done := by
  intro X hP hw hK hc i pins s σ H E I hf st hg
  subst hP hw hK
  obtain ⟨xs, hq, hx⟩ := hg
  obtain ⟨its, rv, p, hz⟩ := I.tuple hq
  obtain ⟨f0, f1, f2, f3, f4, f5⟩ := hf it (by simp)
  have hl := rv.length
  exact wpAny_pyNext_tuple_end (I.ok.hd hc) st (show s.heap.IsTuple a its.toArray from p) (by simp; omega) fun h' eb => ⟨rfl, I.turned (t' := s.toks) (fun b o hb e => eb b o hb e) f0 f1 f3 f4 f5⟩
 self := fun _ _ _ _ _ st h => wpAny_pyIter_tupleiter st h
theorem turn_range {P : Program} {w : World} {K : PySem.W.Frag} {tg : Expr} (it : Addr) (lo : Int) (n : Nat) : Turn P w K tg (Itr lo n) [it] it (fun i h => IsRangeIter h it (lo + (i : Nat) * 1) ((n : Int) - (i : Nat)) 1) where
 mem := by simp
 obj := fun i h st b hb => by
  have e : b = it := by simpa using hb
  subst e
  exact ⟨_, st, fun v z => by
   have z' : Data.fields _ = Data.cell v := z
   cases z'⟩
 keep := fun i h h' st k => k it (by simp) _ st
 item := by
  intro X hP hw hK hc i pins s σ H E I hf st hg
  subst hP hw hK
  obtain ⟨f0, f1, f2, f3, f4, f5⟩ := hf it (by simp)
  have W := Walks.range (prog := X.prog) (w := X.w) (I.ok.hd hc) it lo 1 n
  refine W.item i s _ _ hg st fun v h' tk hv st' kk => ?_
  obtain ⟨t, rfl⟩ := hv
  have I1 : Inv X pins σ H { s with heap := h', toks := tk } := I.turned (fun b o hb e => kk b o (by simpa using hb) e) f0 f1 f3 f4 f5
  refine ⟨_, rfl, go_of (s := { s with heap := h', toks := tk }) (n := "range_iterator") st' rfl rfl (by decide) ⟨.int (lo + i), H, I1, ⟨t, ?_⟩, ⟨rfl, rfl⟩, st', fun b hb => (hf b hb).1⟩⟩
  rw [Int.mul_one]
 done := by
  intro X hP hw hK hc i pins s σ H E I hf st hg
  subst hP hw hK
  obtain ⟨f0, f1, f2, f3, f4, f5⟩ := hf it (by simp)
  exact wpAny_pyNext_range_end (I.ok.hd hc) st (by have : n ≤ i := hg; omega) fun h' eb => ⟨rfl, I.turned (t' := s.toks) (fun b o hb e => eb b o hb e) f0 f1 f3 f4 f5⟩
 self := fun _ _ _ _ _ st h => wpAny_pyIter_rangeiter st h
end L2
namespace L2
open PySem PySem.Spec PyProof.Rows
section
variable {X : Cx} {tg : Expr}
def iList (K : PySem.W.Frag) (tl : TE) : TI := fun σ H R => tl σ H fun x H1 => ∃ a, x = .ref a ∧ (∃ xs, SqL K H1 a xs) ∧ R (Itl K a) H1
def iTup (K : PySem.W.Frag) (tl : TE) : TI := fun σ H R => tl σ H fun x H1 => ∃ a, x = .ref a ∧ (∃ xs, SqT K H1 a xs) ∧ R (Itt K a) H1
theorem pi_list {l : Expr} {tl : TE} (hl : PE X l tl) : PI X tg l (iList X.K tl) := by
 intro pins s σ H R I h
 refine thn (hl pins s σ H _ I h) fun v s1 ⟨x, H1, I1, r1, q1⟩ => ?_
 obtain ⟨a, e, ⟨xs, hq⟩, q⟩ := q1
 subst e
 cases r1
 obtain ⟨its, rv, p, hz⟩ := I1.list hq
 refine wpAny_pyIter_list p.isList ?_
 refine ⟨s1.heap.objs.size, [s1.heap.objs.size], _, _, H1, rfl, I1.kept (t' := s1.toks) fun b o e => Heap.get?_push_of_some _ e, turn_list a _, ⟨_, Heap.get?_push_size _ rfl, rfl, rfl⟩, fun b hb => ?_, q⟩
 have e : b = s1.heap.objs.size := by simpa using hb
 subst e
 exact I1.fpOk (Nat.le_refl _) (I1.hok.fresh (Nat.le_refl _))
theorem pi_tup {l : Expr} {tl : TE} (hl : PE X l tl) : PI X tg l (iTup X.K tl) := by
 intro pins s σ H R I h
 refine thn (hl pins s σ H _ I h) fun v s1 ⟨x, H1, I1, r1, q1⟩ => ?_
 obtain ⟨a, e, ⟨xs, hq⟩, q⟩ := q1
 subst e
 cases r1
 obtain ⟨its, rv, p, hz⟩ := I1.tuple hq
 refine wpAny_pyIter_tuple (show s1.heap.IsTuple a its.toArray from p) ?_
 refine ⟨s1.heap.objs.size, [s1.heap.objs.size], _, _, H1, rfl, I1.kept (t' := s1.toks) fun b o e => Heap.get?_push_of_some _ e, turn_tuple a _, ⟨_, Heap.get?_push_size _ rfl, rfl, rfl⟩, fun b hb => ?_, q⟩
 have e : b = s1.heap.objs.size := by simpa using hb
 subst e
 exact I1.fpOk (Nat.le_refl _) (I1.hok.fresh (Nat.le_refl _))
theorem range_it {pins : List (Addr × Obj)} {σ : St} {H : Hp} {s : Shared} {R : It → Hp → Prop} {E : Value → Shared → Prop} {lo hi : Int} {t u v : Tok} {tk : Nat} (I : Inv X pins σ H s) (h1 : -(2 ^ 62) ≤ lo) (h2 : lo < 2 ^ 62) (h3 : -(2 ^ 62) ≤ hi) (h4 : hi < 2 ^ 62)
  (q : R (Itr lo (hi - lo).toNat) H) : wpAny (model X.prog X.w) X.A (pyIter (.ref s.heap.objs.size)) (PIE X pins σ tg R) E { s with heap := s.heap.push { cls := .type "range", data := .fields #[.int lo t, .int hi u, .int 1 v] }, toks := tk } := by
 refine wpAny_pyIter_range (IsRange.new ..) (small_one h1 h2 h3 h4) ?_
 have I1 : Inv X pins σ H { s with heap := s.heap.push { cls := .type "range", data := .fields #[.int lo t, .int hi u, .int 1 v] }, toks := tk } := I.kept fun b o e => Heap.get?_push_of_some _ e
 refine ⟨(s.heap.push { cls := .type "range", data := .fields #[.int lo t, .int hi u, .int 1 v] }).objs.size, [(s.heap.push { cls := .type "range", data := .fields #[.int lo t, .int hi u, .int 1 v] }).objs.size], _, _, H, rfl,
  I1.kept (t' := tk) fun b o e => Heap.get?_push_of_some _ e, turn_range _ lo (hi - lo).toNat, ?_, fun b hb => ?_, q⟩
 ·have e1 : lo + ((0 : Nat) : Int) * 1 = lo := by simp
  have e2 : (((hi - lo).toNat : Nat) : Int) - ((0 : Nat) : Int) = Builtin.Range.rangeSize lo hi 1 := by rw [rangeSize_one]; split <;> omega
  show IsRangeIter _ _ (lo + ((0 : Nat) : Int) * 1) ((((hi - lo).toNat : Nat) : Int) - ((0 : Nat) : Int)) 1
  rw [e1, e2]
  exact Heap.get?_push_size _ rfl
 ·have e : b = (s.heap.push { cls := .type "range", data := .fields #[.int lo t, .int hi u, .int 1 v] }).objs.size := by simpa using hb
  subst e
  exact I1.fpOk (Nat.le_refl _) (I1.hok.fresh (Nat.le_refl _))
def iRng1 (ta : TA) : TI := fun σ H R => ta σ H fun vs H1 => ∃ j : Int, vs = [.int j] ∧ -(2 ^ 62) ≤ j ∧ j < 2 ^ 62 ∧ R (Itr 0 j.toNat) H1
theorem pi_range1 {a : Expr} {ta : TA} {p pos : Pos} (hg : Gl X "range") (hm : X.mg "range" = none) (ha : PA X [a] ta) (hs : starEach [a] X.env = [(false, eval a X.env)] := by rfl) : PI X tg (.Call (.Name "range" p) [a] [] pos) (iRng1 ta) := by
 intro pins s σ H R I h
 refine Call_ (ld_blt I hg hm boot_range (PyProof.Rows.callWith_type1 (thn (ha pos pins s σ H _ I h) fun us s1 ⟨vs, H1, I1, r1, q1⟩ => ?_) hs rfl))
 obtain ⟨j, e, q1, q2, q⟩ := q1
 subst e
 cases r1 with
 | cons r rr =>
  cases rr
  obtain ⟨t, rfl⟩ := r
  exact call_range_1 (range_it I1 (by omega) (by omega) q1 q2 (by simpa using q))
def tFor (wi : TI) (g : TG) (tb : TS) : TS := fun D σ H => wi σ H fun J H1 => ∃ W : Nat → Nat → St → Hp → Prop, (∃ m, W 0 m σ H1) ∧ ∀ i m σ H, W i m σ H →
 (J.stop i H ∧ D.nx σ H) ∨ (J.go i H ∧ ∃ N : St → Hp → Prop, (∀ σ' H', N σ' H' → ∃ m', m' < m ∧ W (i + 1) m' σ' H') ∧ ∀ x H', J.yld i H x H' → g x σ H' fun σ2 H2 => tb { D with nx := N, ct := N, bk := D.nx } σ2 H2)
def pinsAt (fp : List Addr) (h : Heap) : List (Addr × Obj) := fp.filterMap fun b => (h.get? b).map fun o => (b, o)
theorem mem_pinsAt {fp : List Addr} {h : Heap} {b : Addr} {o : Obj} (hb : b ∈ fp) (e : h.get? b = some o) : (b, o) ∈ pinsAt fp h := List.mem_filterMap.mpr ⟨b, hb, by rw [e]; rfl⟩
theorem of_pinsAt {fp : List Addr} {h : Heap} {p : Addr × Obj} (hp : p ∈ pinsAt fp h) : p.1 ∈ fp ∧ h.get? p.1 = some p.2 := by
 obtain ⟨b, hb, e⟩ := List.mem_filterMap.mp hp
 cases q : h.get? b with
 | none => rw [q] at e; cases e
 | some o =>
  rw [q] at e
  have e' : (b, o) = p := Option.some.inj e
  subst e'
  exact ⟨hb, q⟩
theorem Inv.pinned {pins : List (Addr × Obj)} {σ : St} {H : Hp} {s : Shared} {fp : List Addr} (I : Inv X pins σ H s) (hf : ∀ b ∈ fp, FpOk X pins H b) (ho : ∀ b ∈ fp, ∃ o, s.heap.get? b = some o ∧ ∀ v, o.data ≠ .cell v) : Inv X (pins ++ pinsAt fp s.heap) σ H s :=
 I.pins_of fun p hp => (List.mem_append.mp hp).elim (fun z => I.pin p (List.mem_append_right _ z)) fun z => by
  obtain ⟨hb, e⟩ := of_pinsAt z
  obtain ⟨f0, f1, f2, _⟩ := hf p.1 hb
  obtain ⟨o, e', d⟩ := ho p.1 hb
  rw [e] at e'; cases e'
  exact ⟨e, f0, f1, f2, d⟩
theorem Inv.unpinned {pins pl : List (Addr × Obj)} {σ : St} {H : Hp} {s : Shared} (I : Inv X (pins ++ pl) σ H s) : Inv X pins σ H s := I.pins_of fun p hp => I.pin p (List.mem_append_right _ (List.mem_append_left _ hp))
theorem ps_for {iter : Expr} {body : List Stmt} {wi : TI} {g : TG} {tb : TS} {pos : Pos} (hp : PassesOwn (model X.prog X.w) X.A X.env X.xe) (hc : X.calm = true) (hi : PI X tg iter wi) (hg : PG X tg g) (hb : PSs X body tb)
  (hs : ∀ x, foldedSetIterable iter X.env x = pure x := by intro _; rfl) : PS X (.For tg iter body [] pos) (tFor wi g tb) := by
 intro pins s σ H D I h
 refine wpAny_For (thn (hi pins s σ H _ I h) fun v s1 h1 => thn h1 fun itv s2 h2 => ?_) hs
 obtain ⟨it, fp, tn, J, H2, e, I2, T, st2, f2, W, ⟨m0, w0⟩, turn⟩ := h2
 subst e
 -- what stays true of the iterator's objects through the loop
 have stat : ∀ {H' : Hp}, (∀ b ∈ fp, H' b = none) → ∀ b ∈ fp, FpOk X pins H' b := fun hn b hb => ⟨hn b hb, (f2 b hb).2⟩
 refine codeAny_forLoop_any (fun n s' => ∃ i σ' H', Inv X pins σ' H' s' ∧ tn i s'.heap ∧ (∀ b ∈ fp, H' b = none) ∧ W i n σ' H') ?_ m0 ⟨0, σ, H2, I2, st2, fun b hb => (f2 b hb).1, w0⟩
 rintro n s3 ⟨i, σ3, H3, I3, st3, fr3, w3⟩
 rcases turn i n σ3 H3 w3 with ⟨stop, qn⟩ | ⟨go, N, hN, step⟩
 ·refine wpAny_passesOwn hp (thn (T.done X rfl rfl rfl hc i pins s3 σ3 H3 X.xe I3 (stat fr3) st3 stop) fun r s4 ⟨hr, I4⟩ => ?_)
  subst hr
  exact wpAny_execs_nil ⟨σ3, H3, I4, qn⟩
 ·refine wpAny_passesOwn hp (thn (T.item X rfl rfl rfl hc i pins s3 σ3 H3 X.xe I3 (stat fr3) st3 go) fun r s4 ⟨u, hr, h4⟩ => ?_)
  subst hr
  refine wpAny_passesOwn hp (thn h4 fun _ s5 ⟨x, H5, I5, r5, y5, st5, fr5⟩ => ?_)
  have I5' := I5.pinned (stat fr5) (T.obj _ _ st5)
  refine wpAny_passesOwn hp (thn (hg _ s5 σ3 H5 x u _ I5' r5 (step x H5 y5)) fun _ s6 ⟨σ6, H6, I6, q6⟩ => ?_)
  refine wpAny_passesOwn hp (thn (hb _ s6 σ6 H6 _ I6 q6) fun f s7 q7 => ?_)
  have again : ∀ {σ7 : St} {H7 : Hp}, Inv X (pins ++ pinsAt fp s5.heap) σ7 H7 s7 → N σ7 H7 → ∃ m, m < n ∧ ∃ i σ' H', Inv X pins σ' H' s7 ∧ tn i s7.heap ∧ (∀ b ∈ fp, H' b = none) ∧ W i m σ' H' := fun {σ7 H7} I7 n7 => by
   obtain ⟨m', hm, w7⟩ := hN σ7 H7 n7
   refine ⟨m', hm, i + 1, σ7, H7, I7.unpinned, T.keep _ _ _ st5 fun b hb o e => (I7.pin (b, o) (List.mem_append_right _ (List.mem_append_right _ (mem_pinsAt hb e)))).1, fun b hb => ?_, w7⟩
   obtain ⟨o, e, d⟩ := T.obj _ _ st5 b hb
   exact (I7.pin (b, o) (List.mem_append_right _ (List.mem_append_right _ (mem_pinsAt hb e)))).2.1
  cases f with
  | next => obtain ⟨σ7, H7, I7, n7⟩ := q7; exact again I7 n7
  | cont => obtain ⟨σ7, H7, I7, n7⟩ := q7; exact again I7 n7
  | brk => obtain ⟨σ7, H7, I7, q7⟩ := q7; exact ⟨σ7, H7, I7.unpinned, q7⟩
  | ret v => obtain ⟨x7, σ7, H7, I7, r7, q7⟩ := q7; exact ⟨x7, σ7, H7, I7.unpinned, r7, q7⟩
end
theorem for_list {K : PySem.W.Frag} {a : Addr} {xs : List V} {g : TG} {tb : TS} {D : Ends} {σ : St} {H : Hp} (Pv : Nat → St → Hp → Prop) (h0 : Pv 0 σ H) (hl : ∀ i σ H, i ≤ xs.length → Pv i σ H → SqL K H a xs)
  (hs : ∀ i x σ H, xs[i]? = some x → Pv i σ H → g x σ H fun σ2 H2 => tb { D with nx := Pv (i + 1), ct := Pv (i + 1), bk := D.nx } σ2 H2) (hd : ∀ σ H, Pv xs.length σ H → D.nx σ H) :
  ∃ W : Nat → Nat → St → Hp → Prop, (∃ m, W 0 m σ H) ∧ ∀ i m σ H, W i m σ H →
   ((Itl K a).stop i H ∧ D.nx σ H) ∨ ((Itl K a).go i H ∧ ∃ N : St → Hp → Prop, (∀ σ' H', N σ' H' → ∃ m', m' < m ∧ W (i + 1) m' σ' H') ∧ ∀ x H', (Itl K a).yld i H x H' → g x σ H' fun σ2 H2 => tb { D with nx := N, ct := N, bk := D.nx } σ2 H2) := by
 refine ⟨fun i m σ H => m = xs.length - i ∧ i ≤ xs.length ∧ Pv i σ H, ⟨xs.length, by simp, Nat.zero_le _, h0⟩, ?_⟩
 rintro i m σ H ⟨rfl, hi, p⟩
 have q := hl i σ H hi p
 by_cases hlt : i < xs.length
 ·refine .inr ⟨⟨xs, xs[i], q, by simp [hlt]⟩, Pv (i + 1), fun σ' H' p' => ⟨xs.length - (i + 1), by omega, rfl, hlt, p'⟩, fun x H' y => ?_⟩
  obtain ⟨e, y⟩ := y
  subst e
  exact hs i x σ _ (y xs q) p
 ·have e : i = xs.length := by omega
  subst e
  exact .inl ⟨⟨xs, q, Nat.le_refl _⟩, hd σ H p⟩
theorem for_tup {K : PySem.W.Frag} {a : Addr} {xs : List V} {g : TG} {tb : TS} {D : Ends} {σ : St} {H : Hp} (Pv : Nat → St → Hp → Prop) (h0 : Pv 0 σ H) (hl : ∀ i σ H, i ≤ xs.length → Pv i σ H → SqT K H a xs)
  (hs : ∀ i x σ H, xs[i]? = some x → Pv i σ H → g x σ H fun σ2 H2 => tb { D with nx := Pv (i + 1), ct := Pv (i + 1), bk := D.nx } σ2 H2) (hd : ∀ σ H, Pv xs.length σ H → D.nx σ H) :
  ∃ W : Nat → Nat → St → Hp → Prop, (∃ m, W 0 m σ H) ∧ ∀ i m σ H, W i m σ H →
   ((Itt K a).stop i H ∧ D.nx σ H) ∨ ((Itt K a).go i H ∧ ∃ N : St → Hp → Prop, (∀ σ' H', N σ' H' → ∃ m', m' < m ∧ W (i + 1) m' σ' H') ∧ ∀ x H', (Itt K a).yld i H x H' → g x σ H' fun σ2 H2 => tb { D with nx := N, ct := N, bk := D.nx } σ2 H2) := by
 refine ⟨fun i m σ H => m = xs.length - i ∧ i ≤ xs.length ∧ Pv i σ H, ⟨xs.length, by simp, Nat.zero_le _, h0⟩, ?_⟩
 rintro i m σ H ⟨rfl, hi, p⟩
 have q := hl i σ H hi p
 by_cases hlt : i < xs.length
 ·refine .inr ⟨⟨xs, xs[i], q, by simp [hlt]⟩, Pv (i + 1), fun σ' H' p' => ⟨xs.length - (i + 1), by omega, rfl, hlt, p'⟩, fun x H' y => ?_⟩
  obtain ⟨e, y⟩ := y
  subst e
  exact hs i x σ _ (y xs q) p
 ·have e : i = xs.length := by omega
  subst e
  exact .inl ⟨⟨xs, q, Nat.le_refl _⟩, hd σ H p⟩
theorem for_range {lo : Int} {n : Nat} {g : TG} {tb : TS} {D : Ends} {σ : St} {H : Hp} (Pv : Nat → St → Hp → Prop) (h0 : Pv 0 σ H)
  (hs : ∀ i σ H, i < n → Pv i σ H → g (.int (lo + i)) σ H fun σ2 H2 => tb { D with nx := Pv (i + 1), ct := Pv (i + 1), bk := D.nx } σ2 H2) (hd : ∀ σ H, Pv n σ H → D.nx σ H) :
  ∃ W : Nat → Nat → St → Hp → Prop, (∃ m, W 0 m σ H) ∧ ∀ i m σ H, W i m σ H →
   ((Itr lo n).stop i H ∧ D.nx σ H) ∨ ((Itr lo n).go i H ∧ ∃ N : St → Hp → Prop, (∀ σ' H', N σ' H' → ∃ m', m' < m ∧ W (i + 1) m' σ' H') ∧ ∀ x H', (Itr lo n).yld i H x H' → g x σ H' fun σ2 H2 => tb { D with nx := N, ct := N, bk := D.nx } σ2 H2) := by
 refine ⟨fun i m σ H => m = n - i ∧ i ≤ n ∧ Pv i σ H, ⟨n, by simp, Nat.zero_le _, h0⟩, ?_⟩
 rintro i m σ H ⟨rfl, hi, p⟩
 by_cases hlt : i < n
 ·refine .inr ⟨hlt, Pv (i + 1), fun σ' H' p' => ⟨n - (i + 1), by omega, rfl, hlt, p'⟩, fun x H' y => ?_⟩
  obtain ⟨e, y⟩ := y
  subst e y
  exact hs i σ _ hlt p
 ·have e : i = n := by omega
  subst e
  exact .inl ⟨Nat.le_refl _, hd σ H p⟩
end L2
namespace L2
open PySem PySem.Spec PyProof.Rows
abbrev R2 := V → V → Hp → VK → Prop
def OpR (X : Cx) (f : Value → Value → Sem Value) (r : R2) : Prop :=
 ∀ (pins : List (Addr × Obj)) (s : Shared) (σ : St) (H : Hp) (x y : V) (v u : Value) (Q : VK), Inv X pins σ H s → RelV x v → RelV y u → r x y H Q →
  wpAny (model X.prog X.w) X.A (f v u) (EP X pins σ Q) X.xe s
def UnR (X : Cx) (f : Value → Sem Value) (r : V → Hp → VK → Prop) : Prop :=
 ∀ (pins : List (Addr × Obj)) (s : Shared) (σ : St) (H : Hp) (x : V) (v : Value) (Q : VK), Inv X pins σ H s → RelV x v → r x H Q →
  wpAny (model X.prog X.w) X.A (f v) (EP X pins σ Q) X.xe s
def CallR (X : Cx) (f : Value) (r : List V → Hp → VK → Prop) : Prop :=
 ∀ (pins : List (Addr × Obj)) (s : Shared) (σ : St) (H : Hp) (xs : List V) (us : List Value) (Q : VK), Inv X pins σ H s → Vals xs us → r xs H Q →
  wpAny (model X.prog X.w) X.A (call f us) (EP X pins σ Q) X.xe s
def tOp (r : R2) (ta tb : TE) : TE := fun σ H Q => ta σ H fun x H1 => tb σ H1 fun y H2 => r x y H2 Q
def tUn (r : V → Hp → VK → Prop) (ta : TE) : TE := fun σ H Q => ta σ H fun x H1 => r x H1 Q
def rI (C : Int → Int → Prop) (g : Int → Int → V) : R2 := fun x y H Q => ∃ i j, x = .int i ∧ y = .int j ∧ C i j ∧ Q (g i j) H
def rI0 (g : Int → Int → V) : R2 := fun x y H Q => ∃ i j, x = .int i ∧ y = .int j ∧ Q (g i j) H
def rU (g : Int → V) : V → Hp → VK → Prop := fun x H Q => ∃ i, x = .int i ∧ Q (g i) H
section
variable {X : Cx} {a b c : Expr} {ta tb tc : TE} {pos : Pos}
theorem binT (ha : PE X a ta) (hb : PE X b tb) {pins : List (Addr × Obj)} {s : Shared} {σ : St} {H : Hp} {R : V → V → Hp → Prop} (I : Inv X pins σ H s)
  (h : ta σ H fun x H1 => tb σ H1 fun y H2 => R x y H2) {Q : Value → Shared → Prop} {f : Value → Value → Sem Value}
  (hf : ∀ v u s2 x y H2, Inv X pins σ H2 s2 → RelV x v → RelV y u → R x y H2 → wpAny (model X.prog X.w) X.A (f v u) Q X.xe s2) :
  wpAny (model X.prog X.w) X.A (eval a X.env) (fun v s₁ => wpAny (model X.prog X.w) X.A (eval b X.env) (fun u s₂ => wpAny (model X.prog X.w) X.A (f v u) Q X.xe s₂) X.xe s₁) X.xe s := by
 refine thn (ha pins s σ H _ I h) fun v s1 ⟨x, H1, I1, r1, q1⟩ => ?_
 refine thn (hb pins s1 σ H1 _ I1 q1) fun u s2 ⟨y, H2, I2, r2, q2⟩ => ?_
 exact hf v u s2 x y H2 I2 r1 r2 q2
theorem pe_op {op : Operator} {r : R2} (ho : OpR X (binaryOp op) r) (ha : PE X a ta) (hb : PE X b tb) : PE X (.BinOp a op b pos) (tOp r ta tb) := by
 intro pins s σ H Q I h
 exact wpAny_BinOp (binT ha hb I h fun v u s2 x y H2 I2 rx ry q => ho pins s2 σ H2 x y v u Q I2 rx ry q)
theorem pe_un {op : UnaryOp} {r : V → Hp → VK → Prop} (ho : UnR X (unaryOp op) r) (ha : PE X a ta) : PE X (.UnaryOp op a pos) (tUn r ta) := by
 intro pins s σ H Q I h
 exact UnaryOp_ (thn (ha pins s σ H _ I h) fun v s1 ⟨x, H1, I1, r1, q1⟩ => ho pins s1 σ H1 x v Q I1 r1 q1)
theorem opI {f : Value → Value → Sem Value} {C : Int → Int → Prop} {g : Int → Int → Int}
  (rule : ∀ (i j : Int) (t u : Tok) (s : Shared) (Q : Value → Shared → Prop) (E : Value → Shared → Prop), C i j → Q (.int (g i j) s.toks) { s with toks := s.toks + 1 } → wpAny (model X.prog X.w) X.A (f (.int i t) (.int j u)) Q E s) :
  OpR X f (rI C fun i j => .int (g i j)) := by
 intro pins s σ H x y v u Q I rx ry h
 obtain ⟨i, j, rfl, rfl, hc, q⟩ := h
 obtain ⟨t, rfl⟩ := rx
 obtain ⟨t', rfl⟩ := ry
 exact rule i j t t' s _ _ hc ⟨.int (g i j), H, I.tok _, ⟨_, rfl⟩, q⟩
theorem opI0 {f : Value → Value → Sem Value} {g : Int → Int → Int}
  (rule : ∀ (i j : Int) (t u : Tok) (s : Shared) (Q : Value → Shared → Prop) (E : Value → Shared → Prop), Q (.int (g i j) s.toks) { s with toks := s.toks + 1 } → wpAny (model X.prog X.w) X.A (f (.int i t) (.int j u)) Q E s) :
  OpR X f (rI0 fun i j => .int (g i j)) := by
 intro pins s σ H x y v u Q I rx ry h
 obtain ⟨i, j, rfl, rfl, q⟩ := h
 obtain ⟨t, rfl⟩ := rx
 obtain ⟨t', rfl⟩ := ry
 exact rule i j t t' s _ _ ⟨.int (g i j), H, I.tok _, ⟨_, rfl⟩, q⟩
theorem opB0 {f : Value → Value → Sem Value} {g : Int → Int → Bool}
  (rule : ∀ (i j : Int) (t u : Tok) (s : Shared) (Q : Value → Shared → Prop) (E : Value → Shared → Prop), Q (.bool (g i j)) s → wpAny (model X.prog X.w) X.A (f (.int i t) (.int j u)) Q E s) :
  OpR X f (rI0 fun i j => .bl (g i j)) := by
 intro pins s σ H x y v u Q I rx ry h
 obtain ⟨i, j, rfl, rfl, q⟩ := h
 obtain ⟨t, rfl⟩ := rx
 obtain ⟨t', rfl⟩ := ry
 exact rule i j t t' s _ _ ⟨.bl (g i j), H, I, rfl, q⟩
def CDiv (i j : Int) : Prop := 0 < j ∧ j < 1073741824
def CPow (i j : Int) : Prop := 0 ≤ j ∧ j ≤ 1000000 ∧ i.natAbs < 2 ^ 64
def CMul (i j : Int) : Prop := (-(2 ^ 64) < i ∧ i < 2 ^ 64) ∨ (-(2 ^ 64) < j ∧ j < 2 ^ 64)
theorem CMul.ok {i j : Int} (h : CMul i j) : IntMulOk i j := by
 rcases h with ⟨h1, h2⟩ | ⟨h1, h2⟩
 ·exact .of_left (intBits_le_64 h1 h2)
 ·exact .of_right (intBits_le_64 h1 h2)
theorem op_add : OpR X (binaryOp .Add) (rI0 fun i j => .int (i + j)) := opI0 fun _ _ _ _ _ _ _ q => add_int q
theorem op_sub : OpR X (binaryOp .Sub) (rI0 fun i j => .int (i - j)) := opI0 fun _ _ _ _ _ _ _ q => sub_int q
theorem op_mul : OpR X (binaryOp .Mult) (rI CMul fun i j => .int (i * j)) := opI fun _ _ _ _ _ _ _ hc q => mul_int q hc.ok
theorem op_fdiv : OpR X (binaryOp .FloorDiv) (rI CDiv fun i j => .int (i / j)) := opI fun i j _ _ _ _ _ hc q => by
 have h1 : (0 : Int) < j := hc.1
 have h2 : j < 1073741824 := hc.2
 exact floordiv_int (by omega) (by rw [Int.fdiv_eq_ediv_of_nonneg i (by omega)]; exact q) (.inl (PyProof.noPylong_small (by omega)))
theorem op_mod : OpR X (binaryOp .Mod) (rI (fun _ j => 0 < j) fun i j => .int (i % j)) := opI fun i j _ _ _ _ _ hc q => by
 have h1 : (0 : Int) < j := hc
 exact mod_int' (by omega) (by rw [Int.fmod_eq_emod_of_nonneg i (by omega)]; exact q)
theorem op_pow : OpR X (binaryOp .Pow) (rI CPow fun i j => .int (i ^ j.toNat)) := opI fun _ _ _ _ _ _ _ hc q => pow_int_small hc.1 hc.2.1 hc.2.2 q
theorem unI {f : Value → Sem Value} {g : Int → Int}
  (rule : ∀ (i : Int) (t : Tok) (s : Shared) (Q : Value → Shared → Prop) (E : Value → Shared → Prop), Q (.int (g i) s.toks) { s with toks := s.toks + 1 } → wpAny (model X.prog X.w) X.A (f (.int i t)) Q E s) :
  UnR X f (rU fun i => .int (g i)) := by
 intro pins s σ H x v Q I rx h
 obtain ⟨i, rfl, q⟩ := h
 obtain ⟨t, rfl⟩ := rx
 exact rule i t s _ _ ⟨.int (g i), H, I.tok _, ⟨_, rfl⟩, q⟩
theorem un_neg : UnR X (unaryOp .USub) (rU fun i => .int (-i)) := unI fun _ _ _ _ _ q => neg_int q
end
def scal : V → V → Bool
 | .non, .non => true | .non, .int _ => true | .int _, .non => true | .non, .bl _ => true | .bl _, .non => true | .non, .str _ => true | .str _, .non => true
 | .int _, .int _ => true | .bl _, .bl _ => true | .str _, .str _ => true | .byt _, .byt _ => true
 | .int _, .str _ => true | .str _, .int _ => true | .bl _, .str _ => true | .str _, .bl _ => true
 | _, _ => false
def rEq : R2 := fun x y H Q => scal x y = true ∧ Q (.bl (decide (x = y))) H
def rNe : R2 := fun x y H Q => scal x y = true ∧ Q (.bl (!decide (x = y))) H
theorem dec_int {i j : Int} : decide (V.int i = V.int j) = (i == j) := by
 rw [Bool.eq_iff_iff]
 simp
theorem dec_bl {i j : Bool} : decide (V.bl i = V.bl j) = (i == j) := by
 rw [Bool.eq_iff_iff]
 simp
theorem dec_str {i j : Str} : decide (V.str i = V.str j) = (i == j) := by
 rw [Bool.eq_iff_iff]
 simp
theorem dec_byt {i j : Array UInt8} : decide (V.byt i = V.byt j) = (i.toList == j.toList) := by
 rw [Bool.eq_iff_iff]
 cases i
 cases j
 simp
section
variable {X : Cx} {a b c : Expr} {ta tb tc : TE} {pos : Pos}
theorem fin_bl {pins : List (Addr × Obj)} {σ : St} {H : Hp} {s : Shared} {Q : VK} {k k' : Bool} (I : Inv X pins σ H s) (q : Q (.bl k) H) (e : k = k') : EP X pins σ Q (.bool k') s := by
 subst e
 exact ⟨.bl k, H, I, rfl, q⟩
theorem op_eq : OpR X (compareOp .Eq) rEq := by
 intro pins s σ H x y v u Q I rx ry h
 obtain ⟨hs, q⟩ := h
 cases x with
 | non =>
  cases rx
  cases y with
  | non => cases ry; exact PySem.EqNone.eq_none_none (fin_bl I q (by simp))
  | bl j => cases ry; exact PySem.EqNone.eq_none_bool (fin_bl I q (by simp))
  | int j => obtain ⟨t', rfl⟩ := ry; exact PySem.EqNone.eq_none_int (fin_bl I q (by simp))
  | str j => obtain ⟨t', rfl⟩ := ry; exact PySem.EqNone.eq_none_str (fin_bl I q (by simp))
  | _ => exact absurd (show false = true from hs) Bool.false_ne_true
 | bl i =>
  cases rx
  cases y with
  | non => cases ry; exact PySem.EqNone.eq_bool_none (fin_bl I q (by simp))
  | bl j => cases ry; exact eq_bool (fin_bl I q dec_bl)
  | str j => obtain ⟨t', rfl⟩ := ry; exact PySem.EqMixed.eq_bool_str (fin_bl I q (by simp))
  | _ => exact absurd (show false = true from hs) Bool.false_ne_true
 | int i =>
  obtain ⟨t, rfl⟩ := rx
  cases y with
  | non => cases ry; exact PySem.EqNone.eq_int_none (fin_bl I q (by simp))
  | int j => obtain ⟨t', rfl⟩ := ry; exact eq_int (fin_bl I q dec_int)
  | str j => obtain ⟨t', rfl⟩ := ry; exact PySem.EqMixed.eq_int_str (fin_bl I q (by simp))
  | _ => exact absurd (show false = true from hs) Bool.false_ne_true
 | str i =>
  obtain ⟨t, rfl⟩ := rx
  cases y with
  | non => cases ry; exact PySem.EqNone.eq_str_none (fin_bl I q (by simp))
  | bl j => cases ry; exact PySem.EqMixed.eq_str_bool (fin_bl I q (by simp))
  | int j => obtain ⟨t', rfl⟩ := ry; exact PySem.EqMixed.eq_str_int (fin_bl I q (by simp))
  | str j => obtain ⟨t', rfl⟩ := ry; exact eq_str (fin_bl I q dec_str)
  | _ => exact absurd (show false = true from hs) Bool.false_ne_true
 | byt i =>
  obtain ⟨t, rfl⟩ := rx
  cases y with
  | byt j => obtain ⟨t', rfl⟩ := ry; exact PySem.W.eq_bytes (fin_bl I q dec_byt)
  | _ => exact absurd (show false = true from hs) Bool.false_ne_true
 | _ => cases y <;> exact absurd (show false = true from hs) Bool.false_ne_true
theorem op_ne : OpR X (compareOp .NotEq) rNe := by
 intro pins s σ H x y v u Q I rx ry h
 obtain ⟨hs, q⟩ := h
 cases x with
 | non =>
  cases rx
  cases y with
  | non => cases ry; exact PySem.EqNone.ne_none_none (fin_bl I q (by simp))
  | bl j => cases ry; exact PySem.EqNone.ne_none_bool (fin_bl I q (by simp))
  | int j => obtain ⟨t', rfl⟩ := ry; exact PySem.EqNone.ne_none_int (fin_bl I q (by simp))
  | str j => obtain ⟨t', rfl⟩ := ry; exact PySem.EqNone.ne_none_str (fin_bl I q (by simp))
  | _ => exact absurd (show false = true from hs) Bool.false_ne_true
 | bl i =>
  cases rx
  cases y with
  | non => cases ry; exact PySem.EqNone.ne_bool_none (fin_bl I q (by simp))
  | bl j => cases ry; exact ne_bool (fin_bl I q (congrArg not dec_bl))
  | str j => obtain ⟨t', rfl⟩ := ry; exact PySem.EqMixed.ne_bool_str (fin_bl I q (by simp))
  | _ => exact absurd (show false = true from hs) Bool.false_ne_true
 | int i =>
  obtain ⟨t, rfl⟩ := rx
  cases y with
  | non => cases ry; exact PySem.EqNone.ne_int_none (fin_bl I q (by simp))
  | int j => obtain ⟨t', rfl⟩ := ry; exact ne_int (fin_bl I q (congrArg not dec_int))
  | str j => obtain ⟨t', rfl⟩ := ry; exact PySem.EqMixed.ne_int_str (fin_bl I q (by simp))
  | _ => exact absurd (show false = true from hs) Bool.false_ne_true
 | str i =>
  obtain ⟨t, rfl⟩ := rx
  cases y with
  | non => cases ry; exact PySem.EqNone.ne_str_none (fin_bl I q (by simp))
  | bl j => cases ry; exact PySem.EqMixed.ne_str_bool (fin_bl I q (by simp))
  | int j => obtain ⟨t', rfl⟩ := ry; exact PySem.EqMixed.ne_str_int (fin_bl I q (by simp))
  | str j => obtain ⟨t', rfl⟩ := ry; exact ne_str (fin_bl I q (congrArg not dec_str))
  | _ => exact absurd (show false = true from hs) Bool.false_ne_true
 | byt i =>
  obtain ⟨t, rfl⟩ := rx
  cases y with
  | byt j => obtain ⟨t', rfl⟩ := ry; exact PySem.W.ne_bytes (fin_bl I q (congrArg not dec_byt))
  | _ => exact absurd (show false = true from hs) Bool.false_ne_true
 | _ => cases y <;> exact absurd (show false = true from hs) Bool.false_ne_true
theorem op_lt : OpR X (compareOp .Lt) (rI0 fun i j => .bl (decide (i < j))) := opB0 fun _ _ _ _ _ _ _ q => lt_int q
theorem op_le : OpR X (compareOp .LtE) (rI0 fun i j => .bl (decide (i ≤ j))) := opB0 fun _ _ _ _ _ _ _ q => le_int q
theorem op_gt : OpR X (compareOp .Gt) (rI0 fun i j => .bl (decide (j < i))) := opB0 fun _ _ _ _ _ _ _ q => gt_int q
theorem op_in_str : OpR X (compareOp .In) (fun x y H Q => ∃ i j, x = .str i ∧ y = .str j ∧ Q (.bl (!(Builtin.Str.occurrences j i 0 j.length 1).isEmpty)) H) := by
 intro pins s σ H x y v u Q I rx ry h
 obtain ⟨i, j, rfl, rfl, q⟩ := h
 obtain ⟨t, rfl⟩ := rx
 obtain ⟨t', rfl⟩ := ry
 exact in_str (fin_bl I q rfl)
theorem op_isN : OpR X (compareOp .Is) (fun x y H Q => y = .non ∧ Q (.bl (decide (x = .non))) H) := by
 intro pins s σ H x y v u Q I rx ry h
 obtain ⟨rfl, q⟩ := h
 cases ry
 refine is_none_gen (fin_bl I q ?_)
 cases x <;> first
  | (cases rx; rfl)
  | (obtain ⟨t, rfl⟩ := rx; rfl)
theorem nomark (b : Expr) {op : CmpOp} (h : op ≠ .In := by decide) (h2 : op ≠ .NotIn := by decide) : behindInMarks op b = false := by
 have e1 : (op == CmpOp.In) = false := by cases op <;> first | rfl | exact absurd rfl h
 have e2 : (op == CmpOp.NotIn) = false := by cases op <;> first | rfl | exact absurd rfl h2
 cases b <;> simp [behindInMarks, e1, e2]
theorem pe_cmpR {op : CmpOp} {r : R2} (ho : OpR X (compareOp op) r) (ha : PE X a ta) (hb : PE X b tb) (hm : behindInMarks op b = false) : PE X (.Compare a [op] [b] pos) (tOp r ta tb) := by
 intro pins s σ H Q I h
 exact wpAny_Compare1 (binT ha hb I h fun v u s2 x y H2 I2 rx ry q => ho pins s2 σ H2 x y v u Q I2 rx ry q) hm
def tTest (t : TE) : TT := fun σ H Q => t σ H fun x H' => ∃ k, x = .bl k ∧ Q k H'
theorem pt_cmpR {op : CmpOp} {r : R2} (ho : OpR X (compareOp op) r) (ha : PE X a ta) (hb : PE X b tb) (hm : behindInMarks op b = false) : PT X (.Compare a [op] [b] pos) (tTest (tOp r ta tb)) := by
 intro pins s σ H Q I h
 refine wpAny_isTrue_Compare1 (thn (ha pins s σ H _ I h) fun v s1 ⟨x, H1, I1, r1, q1⟩ => thn (hb pins s1 σ H1 _ I1 q1) fun u s2 ⟨y, H2, I2, r2, q2⟩ =>
  thn (ho pins s2 σ H2 x y v u _ I2 r1 r2 q2) fun c s3 ⟨z, H3, I3, r3, k, e, q3⟩ => ?_) hm
 subst e
 cases r3
 exact wpAny_truthy_bool ⟨H3, I3, q3⟩
def tChain (r r' : R2) (ta tb tc : TE) : TE := fun σ H Q => ta σ H fun x H1 => tb σ H1 fun y H2 => r x y H2 fun z H3 => ∃ k, z = .bl k ∧
 (if k = true then tc σ H3 fun w' H4 => r' y w' H4 Q else Q (.bl false) H3)
theorem pe_chain {op op' : CmpOp} {r r' : R2} (ho : OpR X (compareOp op) r) (ho' : OpR X (compareOp op') r') (ha : PE X a ta) (hb : PE X b tb) (hc : PE X c tc)
  (hm : lastMarks [op, op'] [b, c] = false := by with_unfolding_all rfl) : PE X (.Compare a [op, op'] [b, c] pos) (tChain r r' ta tb tc) := by
 intro pins s σ H Q I h
 refine Compare_chain (thn (ha pins s σ H _ I h) fun v s1 ⟨x, H1, I1, r1, q1⟩ => chain_link (thn (hb pins s1 σ H1 _ I1 q1) fun u s2 ⟨y, H2, I2, r2, q2⟩ =>
  thn (ho pins s2 σ H2 x y v u _ I2 r1 r2 q2) fun d s3 ⟨z, H3, I3, r3, k, e, q3⟩ => ?_)) hm
 subst e
 cases r3
 refine wpAny_truthy_bool ?_
 cases k with
 | false => exact ite_ff ⟨.bl false, H3, I3, rfl, q3⟩
 | true => exact ite_tt (chain_last (thn (hc pins s3 σ H3 _ I3 q3) fun w' s4 ⟨z', H4, I4, r4, q4⟩ => ho' pins s4 σ H4 y z' u w' Q I4 r2 r4 q4))
theorem line63 : (sizeLine : Nat) < 2 ^ 63 := by rw [sizeLine_eq]; decide
theorem op_add_str : OpR X (binaryOp .Add) (fun x y H Q => ∃ i j, x = .str i ∧ y = .str j ∧ i.length + j.length ≤ sizeLine ∧ Q (.str (i ++ j)) H) := by
 intro pins s σ H x y v u Q I rx ry h
 obtain ⟨i, j, rfl, rfl, hz, q⟩ := h
 obtain ⟨t, rfl⟩ := rx
 obtain ⟨t', rfl⟩ := ry
 exact add_str (fun t' tk => ⟨.str (i ++ j), H, I.tok _, ⟨_, rfl⟩, q⟩) hz
theorem vals1 {x : V} {us : List Value} (r : Vals [x] us) : ∃ u, us = [u] ∧ RelV x u := by
 cases r with
 | cons r1 r2 => cases r2; exact ⟨_, rfl, r1⟩
theorem call_abs : CallR X (.builtin "abs") (fun xs H Q => ∃ i, xs = [.int i] ∧ Q (.int (if i < 0 then -i else i)) H) := by
 intro pins s σ H xs us Q I r h
 obtain ⟨i, rfl, q⟩ := h
 obtain ⟨u, rfl, t, rfl⟩ := vals1 r
 exact call_abs_int fun u tk => ⟨.int (if i < 0 then -i else i), H, I.tok _, ⟨_, rfl⟩, q⟩
theorem call_str_int : CallR X (.type "str") (fun xs H Q => ∃ i, xs = [.int i] ∧ i.natAbs.log2 < 1920 ∧ Q (.str (toString i)) H) := by
 intro pins s σ H xs us Q I r h
 obtain ⟨i, rfl, hz, q⟩ := h
 obtain ⟨u, rfl, t, rfl⟩ := vals1 r
 exact PySem.P.str_of_int hz ⟨.str _, H, I.tok _, ⟨_, rfl⟩, q⟩
end
end L2
namespace L2
open PySem PySem.Spec PyProof.Rows
structure ObjM (h : Heap) (x dx C : Addr) (mA : Str → Option Value) : Prop where
 obj : h.get? x = some (PySem.W.instObj C dx)
 ns : h.Ns1 dx mA
 ne : dx ≠ x
theorem lookIn_ns {h : Heap} {dx : Addr} {mA : Str → Option Value} (n : h.Ns1 dx mA) : ∃ od, h.get? dx = some od ∧ ∀ name, PySem.W.lookIn name od = some (mA name) := by
 obtain ⟨o, es, ep, ho, hd, hk, _, hm⟩ := n
 refine ⟨o, ho, fun name => ?_⟩
 have e := hm name
 unfold nsFind findBy at e
 rw [← Array.find?_toList] at e
 unfold PySem.W.lookIn
 rw [hd]
 dsimp only
 split
 ·rename_i y q
  rw [q] at e
  exact congrArg some e
 ·rename_i q
  rw [q] at e
  have a : es.toList.any (·.refKey) = false := by
   rw [List.any_eq_false]
   intro y hy
   obtain ⟨z, t, hkey⟩ := hk y (Array.mem_toList_iff.mp hy)
   simp [DictEntry.refKey, hkey]
  have a' : ¬ es.toList.any (·.refKey) = true := by rw [a]; exact Bool.false_ne_true
  rw [if_neg a']
  exact congrArg some e
theorem ObjM.look {h : Heap} {x dx C : Addr} {mA : Str → Option Value} (I : ObjM h x dx C mA) : ∃ od, PySem.W.InstAt h x (PySem.W.instObj C dx) C (some od) ∧ ∀ name, PySem.W.lookIn name od = some (mA name) :=
 let ⟨od, ho, hl⟩ := lookIn_ns I.ns
 ⟨od, ⟨I.obj, rfl, rfl, ho⟩, hl⟩
section
variable {prog : Program} {w : World} {A : Around} {E : Value → Shared → Prop} {s : Shared} {K : PySem.W.Frag} {x dx C f : Addr} {mA : Str → Option Value} {name : Str} {v : Value}
theorem get_map {expr : Bool} {Q : Value → Shared → Prop} (X : K.In s.heap) (I : ObjM s.heap x dx C mA) (hg : PySem.W.plainGet K C name = true) (hh : PySem.W.hasDictIn K C = true)
  (ha : PySem.W.findIn K (.ref C) name = some none) (hv : mA name = some v) (hv' : PySem.W.handedIn v = true) (h : Q v { s with toks := s.toks + 1 }) :
  wpAny (model prog w) A (getAttr (.ref x) name expr) Q E s := by
 obtain ⟨od, J, hl⟩ := I.look
 exact PySem.W.get_value X J (PySem.W.plainGet_of hg).1 (PySem.W.findObj_own hh ha rfl (by rw [hl, hv])) hv' h
theorem get_meth {pl : Sem Bool} {Q : Value × List Value → Shared → Prop} (X : K.In s.heap) (I : ObjM s.heap x dx C mA) (hg : PySem.W.plainGet K C name = true)
  (hf : PySem.W.findIn K (.ref C) name = some (some (.ref f))) (ht : PySem.W.isFn K (.ref f) = true) (hv : mA name = none) (h : Q (.ref f, [.ref x]) s) :
  wpAny (model prog w) A (getMethod (.ref x) name pl) Q E s := by
 obtain ⟨od, J, hl⟩ := I.look
 exact PySem.W.method_fn X J (PySem.W.plainGet_of hg).1 (PySem.W.plainGet_of hg).2 hf (beq_iff_eq.mp ht) (by show (PySem.W.lookIn name od).map (·.isSome) = some false; rw [hl, hv]; rfl) h
theorem set_map {ns : List Str} {Q : Unit → Shared → Prop} (X : K.In s.heap) (I : ObjM s.heap x dx C mA)
  (hs : PySem.W.findIn K (.ref C) "__setattr__" = some (some (.builtin "object.__setattr__"))) (hp : PySem.W.plainOver K C = true) (ht : PySem.W.takerIn K C name = some none) (hh : PySem.W.hasDictIn K C = true)
  (hw : PySem.Within mA ns) (hsz : ns.length ≤ sizeLine)
  (h : ∀ h', ObjM h' x dx C (fun y => if y = name then some v else mA y) → Heap.SameBut dx s.heap h' → Q () { s with heap := h', toks := s.toks + 2 }) :
  wpAny (model prog w) A (setAttr (.ref x) name v) Q E s := by
 obtain ⟨od, J, hl⟩ := I.look
 refine PySem.W.set_plain X J hs (PySem.W.osa_open (s := { s with toks := s.toks + 1 }) (r := none) X J hp ht fun b => ?_)
 obtain ⟨cd, hc, hd'⟩ := PySem.W.any_some hh
 have hx : s.heap.get? x = some ⟨.ref C, some dx, .plain, #[]⟩ := I.obj
 refine wpAny_bind (wpAny_pure (wpAny_bind (wpAny_bind (wpAny_loadPart hx (wpAny_bind (PySem.W.Looks.here (s := { s with toks := s.toks + 1 }) (PySem.W.looks_clsIn X hc) ?_))))))
 rw [hd']
 refine wpAny_pure (a := some dx) (wpAny_bind (wpAny_pure (wpAny_bind ?_)))
 refine wpAny_nsSet1 (s := { s with toks := s.toks + 1 }) I.ns fun h' hn2 hs2 => ?_
 obtain ⟨oD, esD, epD, hoD, hdD, hcD⟩ := hn2.count (PySem.Within.cons name v hw)
 refine wpAny_bind (wpAny_lookBehind hoD (by rw [hdD]; exact pastItsLine_dict (Nat.le_trans hcD (by rw [List.length_cons]; omega))) ?_)
 exact wpAny_pure (h _ ⟨(hs2.2 _ (Ne.symm I.ne)).trans I.obj, hn2, I.ne⟩ hs2)
theorem make_map {R : Result → Shared → Prop} {vs : List Value} {kw : List (Str × Value)} (X : K.In s.heap) (hm : PySem.W.makesIn K C = true)
  (hi : PySem.W.findIn K (.ref C) "__init__" = some (some (.ref f))) (hf : PySem.W.typeIn K (.ref f) = some (.type "function"))
  (h : codeAny (model prog w) (A.under (.builtin "type.__call__" ⟨.ref C :: vs, kw⟩)) (.call (.ref f) ⟨.ref (s.heap.objs.size + 1) :: vs, kw⟩) (PySem.W.InitBack (s.heap.objs.size + 1) R)
   { s with heap := (s.heap.push PySem.W.emptyDict).push (PySem.W.instObj C s.heap.objs.size) }) :
  codeAny (model prog w) A (.call (.ref C) ⟨vs, kw⟩) R s := by
 obtain ⟨hh, g, d, t, os⟩ := s
 exact PySem.W.make_core (PySem.W.makes_of X hm) (PySem.W.looks_findIn X hi) (fun self => PySem.W.bind_fn X self hf) (.inl rfl) h
end
def putF (f : Str) (v : V) : List (Str × V) → List (Str × V)
 | [] => [(f, v)]
 | (g, x) :: r => if g = f then (g, v) :: r else (g, x) :: putF f v r
theorem lookup_putF (f g : Str) (v : V) : ∀ fs : List (Str × V), (putF f v fs).lookup g = if g = f then some v else fs.lookup g
 | [] => by
  show List.lookup g [(f, v)] = _
  by_cases h : g = f
  ·have hb : (g == f) = true := beq_iff_eq.mpr h
   simp only [List.lookup, hb, if_pos h]
  ·have hb : (g == f) = false := beq_eq_false_iff_ne.mpr h
   simp only [List.lookup, hb, if_neg h]
 | (k, x) :: r => by
  have ih := lookup_putF f g v r
  rw [show putF f v ((k, x) :: r) = (if k = f then (k, v) :: r else (k, x) :: putF f v r) from rfl]
  by_cases hk : k = f
  ·rw [if_pos hk]
   by_cases h : g = k
   ·have hb : (g == k) = true := beq_iff_eq.mpr h
    simp only [List.lookup, hb, if_pos (h.trans hk)]
   ·have hb : (g == k) = false := beq_eq_false_iff_ne.mpr h
    simp only [List.lookup, hb, if_neg (fun e : g = f => h (e.trans hk.symm))]
  ·rw [if_neg hk]
   by_cases h : g = k
   ·have hb : (g == k) = true := beq_iff_eq.mpr h
    simp only [List.lookup, hb, if_neg (fun e : g = f => hk (h.symm.trans e))]
   ·have hb : (g == k) = false := beq_eq_false_iff_ne.mpr h
    simp only [List.lookup, hb]
    exact ih
theorem keys_putF (f : Str) (v : V) : ∀ fs : List (Str × V), f ∈ (putF f v fs).map (·.1) ∧ ∀ g, g ∈ fs.map (·.1) → g ∈ (putF f v fs).map (·.1)
 | [] => ⟨by simp [putF], fun g h => by simp at h⟩
 | (k, x) :: r => by
  obtain ⟨i1, i2⟩ := keys_putF f v r
  rw [show putF f v ((k, x) :: r) = (if k = f then (k, v) :: r else (k, x) :: putF f v r) from rfl]
  by_cases hk : k = f
  ·rw [if_pos hk]
   subst hk
   exact ⟨by simp, fun g h => by simpa using h⟩
  ·rw [if_neg hk]
   refine ⟨?_, fun g h => ?_⟩
   ·rw [List.map_cons]
    exact List.mem_cons_of_mem _ i1
   ·rw [List.map_cons] at h ⊢
    rcases List.mem_cons.mp h with e | e
    ·exact List.mem_cons.mpr (.inl e)
    ·exact List.mem_cons_of_mem _ (i2 g e)
theorem length_putF (f : Str) (v : V) : ∀ fs : List (Str × V), (putF f v fs).length ≤ fs.length + 1
 | [] => by simp [putF]
 | (k, x) :: r => by
  have ih := length_putF f v r
  rw [show putF f v ((k, x) :: r) = (if k = f then (k, v) :: r else (k, x) :: putF f v r) from rfl]
  by_cases hk : k = f
  ·rw [if_pos hk, List.length_cons, List.length_cons]; omega
  ·rw [if_neg hk, List.length_cons, List.length_cons]; omega
theorem RelO.some_of {v : V} {o : Option Value} (r : RelO (some v) o) : ∃ u, o = some u ∧ RelV v u := by
 cases o with
 | none => exact (show False from r).elim
 | some u => exact ⟨u, rfl, r⟩
theorem RelO.none_of {o : Option Value} (r : RelO none o) : o = none := by
 cases o with
 | none => rfl
 | some u => exact (show False from r).elim
theorem handed_of {v : V} {u : Value} (r : RelV v u) : PySem.W.handedIn u = true := by
 cases v with
 | non => cases (show u = Value.none from r); rfl
 | bl b => cases (show u = Value.bool b from r); rfl
 | int i => obtain ⟨t, e⟩ := (show ∃ t, u = Value.int i t from r); cases e; rfl
 | str x => obtain ⟨t, e⟩ := (show ∃ t, u = Value.str x t from r); cases e; rfl
 | byt b => obtain ⟨t, e⟩ := (show ∃ t, u = Value.bytes b t from r); cases e; rfl
 | flt b => obtain ⟨t, e⟩ := (show ∃ t, u = Value.float b t from r); cases e; rfl
 | ref a => cases (show u = Value.ref a from r); rfl
 | ty n => cases (show u = Value.type n from r); rfl
section
variable {P : Program} {w : World} {H H' : Hp} {h h' : Heap} {a C dx : Addr} {fs fs' : List (Str × V)}
theorem ins_get (hok : HOk P w H h) (e : H a = some (.ins C dx fs)) : ∃ mA, ObjM h a dx C mA ∧ (∀ f, RelO (fs.lookup f) (mA f)) ∧ PySem.Within mA (fs.map (·.1)) ∧ fs.length ≤ 1000 ∧ H dx = some (.own a) := by
 obtain ⟨d, z, ne, ob, mA, n, r, q⟩ := (show ObjOk P w H h a (.ins C dx fs) from hok a _ e)
 exact ⟨mA, ⟨ob, n, ne⟩, r, q, z, d⟩
end
structure Cls (K : PySem.W.Frag) (C : Addr) : Prop where
 pg : PySem.W.plainGet K C Str.empty = true
 hd : PySem.W.hasDictIn K C = true
 po : PySem.W.plainOver K C = true
 sa : PySem.W.findIn K (.ref C) "__setattr__" = some (some (.builtin "object.__setattr__"))
theorem Cls.get {K : PySem.W.Frag} {C : Addr} (c : Cls K C) (f : Str) : PySem.W.plainGet K C f = true := c.pg
def NoAttr (K : PySem.W.Frag) (C : Addr) (f : Str) : Prop := PySem.W.findIn K (.ref C) f = some none
theorem NoAttr.taker {K : PySem.W.Frag} {C : Addr} {f : Str} (n : NoAttr K C f) : PySem.W.takerIn K C f = some none := by
 unfold PySem.W.takerIn
 rw [show PySem.W.findIn K (.ref C) f = some none from n]
 rfl
structure Con (K : PySem.W.Frag) (C : Addr) (f : Str) (v : V) (u : Value) : Prop where
 at_ : PySem.W.findIn K (.ref C) f = some (some u)
 rel : RelV v u
 get : PySem.W.specialIn K u "__get__" = some none
 cp : PySem.W.copiedNames.contains f = false
structure Meth (K : PySem.W.Frag) (C : Addr) (m : Str) (f : Addr) : Prop where
 at_ : PySem.W.findIn K (.ref C) m = some (some (.ref f))
 fn : PySem.W.isFn K (.ref f) = true
 kp : PySem.W.keepIn K (.ref f) = true
section
variable {X : Cx} {pins : List (Addr × Obj)} {σ : St} {H : Hp} {s : Shared} {a C dx : Addr} {fs : List (Str × V)} {f : Str} {v : V} {A : Around} {E : Value → Shared → Prop}
theorem getattr_ok {b : Bool} {Q : Value → Shared → Prop} (I : Inv X pins σ H s) (e : H a = some (.ins C dx fs)) (c : Cls X.K C) (n : NoAttr X.K C f) (l : fs.lookup f = some v)
  (h : ∀ u s', Inv X pins σ H s' → RelV v u → Q u s') : wpAny (model X.prog X.w) A (getAttr (.ref a) f b) Q E s := by
 obtain ⟨mA, O, r, _, _, _⟩ := ins_get I.hok e
 obtain ⟨u, hu, ru⟩ := RelO.some_of (v := v) (o := mA f) (by rw [← l]; exact r f)
 exact get_map I.kIn O (c.get f) c.hd n hu (handed_of ru) (h u _ (I.tok _) ru)
theorem getmeth_ok {m : Str} {g : Addr} {pl : Sem Bool} {Q : Value × List Value → Shared → Prop} (I : Inv X pins σ H s) (e : H a = some (.ins C dx fs)) (c : Cls X.K C) (k : Meth X.K C m g) (l : fs.lookup m = none)
  (h : Q (.ref g, [.ref a]) s) : wpAny (model X.prog X.w) A (getMethod (.ref a) m pl) Q E s := by
 obtain ⟨mA, O, r, _, _, _⟩ := ins_get I.hok e
 have hn : mA m = none := RelO.none_of (by rw [← l]; exact r m)
 exact get_meth I.kIn O (c.get m) k.at_ k.fn hn h
theorem setattr_ok {y : V} {u : Value} {Q : Unit → Shared → Prop} (I : Inv X pins σ H s) (e : H a = some (.ins C dx fs)) (c : Cls X.K C) (n : NoAttr X.K C f) (hl : fs.length < 1000) (ry : RelV y u)
  (h : ∀ s', Inv X pins σ (upd H a (.ins C dx (putF f y fs))) s' → Q () s') : wpAny (model X.prog X.w) A (setAttr (.ref a) f u) Q E s := by
 obtain ⟨mA, O, r, wi, _, ho⟩ := ins_get I.hok e
 have hz : (fs.map (·.1)).length ≤ sizeLine := by rw [List.length_map, sizeLine_eq]; omega
 refine set_map I.kIn O c.sa c.po n.taker c.hd wi hz fun h' O' sb => h _ ?_
 have hd : ∃ o, h'.get? dx = some o := let ⟨o, _, _, e', _⟩ := O'.ns; ⟨o, e'⟩
 refine I.write (x := a) (e := dx) (by rw [e]; exact True.intro) (.inr ho) (fun b q hb z => (sb.2 b hb).trans z) hd ?_
 refine ⟨by rw [upd_ne O.ne]; exact ho, ?_, O.ne, O'.obj, _, O'.ns, fun g => ?_, fun g hg => ?_⟩
 ·have := length_putF f y fs; omega
 ·show RelO ((putF f y fs).lookup g) (if g = f then some u else mA g)
  rw [lookup_putF]
  by_cases q : g = f
  ·rw [if_pos q, if_pos q]; exact ry
  ·rw [if_neg q, if_neg q]; exact r g
 ·by_cases q : g = f
  ·rw [q]; exact (keys_putF f y fs).1
  ·refine (keys_putF f y fs).2 g (wi g fun z => hg ?_)
   show (if g = f then some u else mA g) = none
   rw [if_neg q]; exact z
theorem Inv.made (I : Inv X pins σ H s) : Inv X pins σ (upd (upd H s.heap.objs.size (.own (s.heap.objs.size + 1))) (s.heap.objs.size + 1) (.ins C s.heap.objs.size []))
  { s with heap := (s.heap.push PySem.W.emptyDict).push (PySem.W.instObj C s.heap.objs.size) } := by
 have e1 : (s.heap.push PySem.W.emptyDict).get? s.heap.objs.size = some PySem.W.emptyDict := Heap.get?_push_size s.heap rfl
 have e2 : ((s.heap.push PySem.W.emptyDict).push (PySem.W.instObj C s.heap.objs.size)).get? (s.heap.objs.size + 1) = some (PySem.W.instObj C s.heap.objs.size) := by
  have := Heap.get?_push_size (s.heap.push PySem.W.emptyDict) (o := PySem.W.instObj C s.heap.objs.size) rfl
  rwa [Heap.size_push] at this
 have e3 : (s.heap.push PySem.W.emptyDict).Ns s.heap.objs.size (fun _ => none) := ⟨PySem.W.emptyDict, #[], _, e1, rfl, (fun e he => absurd he (by simp)), fun _ => rfl⟩
 have I1 := I.laid (a := s.heap.objs.size) (o := .own (s.heap.objs.size + 1)) (h' := s.heap.push PySem.W.emptyDict) (t' := s.toks) (fun b u q => Heap.get?_push_of_some _ q) (Nat.le_refl _) ⟨_, e1⟩
 refine I1.laid (a := s.heap.objs.size + 1) (o := .ins C s.heap.objs.size []) (t' := s.toks) (fun b u q => Heap.get?_push_of_some _ q) (Nat.le_of_eq (Heap.size_push _ _)) ?_
 have ne : s.heap.objs.size ≠ s.heap.objs.size + 1 := Nat.ne_of_lt (Nat.lt_succ_self _)
 refine ⟨by rw [upd_ne ne, upd_same], Nat.zero_le _, ne, e2, fun _ => none, (Heap.Ns1.of_empty e3).at fun o q => Heap.get?_push_of_some _ q, fun _ => True.intro, fun y hy => absurd rfl hy⟩
theorem attr_of {prog : Program} {w : World} {env : Env} {e : Expr} {f : Str} {pos : Pos} {s : Shared} {Q : Value → Shared → Prop} (hb : attributeBase e f env (eval e env) = eval e env)
  (h : wpAny (model prog w) A (eval e env) (fun o s₁ => wpAny (model prog w) A (getAttr o f true) Q E s₁) E s) : wpAny (model prog w) A (eval (.Attribute e f pos) env) Q E s :=
 Attribute_any_ h (by rw [arm_eval_Attribute, hb])
end
def tFld (K : PySem.W.Frag) (ta : TE) (f : Str) : TE := fun σ H Q => ta σ H fun x H1 => ∃ a C dx fs v, x = .ref a ∧ H1 a = some (.ins C dx fs) ∧ Cls K C ∧ NoAttr K C f ∧ fs.lookup f = some v ∧ Q v H1
def sFld (K : PySem.W.Frag) (ta tv : TE) (f : Str) : TS := fun D σ H => tv σ H fun y H1 => ta σ H1 fun x H2 => ∃ a C dx fs, x = .ref a ∧ H2 a = some (.ins C dx fs) ∧ Cls K C ∧ NoAttr K C f ∧ fs.length < 1000 ∧
 D.nx σ (upd H2 a (.ins C dx (putF f y fs)))
section
variable {X : Cx} {o e value : Expr} {f : Str} {pos pos' tpos : Pos} {ta tv : TE}
theorem pe_fld (he : PE X e ta) (hb : attributeBase e f X.env (eval e X.env) = eval e X.env) : PE X (.Attribute e f pos) (tFld X.K ta f) := by
 intro pins s σ H Q I h
 refine attr_of hb (thn (he pins s σ H _ I h) fun u s1 ⟨x, H1, I1, rx, a, C, dx, fs, v, ex, ea, c, n, l, q⟩ => ?_)
 subst ex
 obtain rfl : u = Value.ref a := rx
 exact getattr_ok I1 ea c n l fun u' s2 I2 ru => ⟨v, H1, I2, ru, q⟩
theorem ps_fld (ha : PE X o ta) (hv : PE X value tv) (hs : swapsWith value (some (.Attribute o f pos')) pos.line X.env = pure false) : PS X (.Assign [.Attribute o f pos'] value pos) (sFld X.K ta tv f) := by
 intro pins s σ H D I h
 refine plainObj_wpAny_Assign_Attribute (thn (hv pins s σ H _ I h) fun u s1 ⟨y, H1, I1, ry, q⟩ => thn (ha pins s1 σ H1 _ I1 q) fun ov s2 ⟨x, H2, I2, rx, a, C, dx, fs, ex, ea, c, n, l, q2⟩ => ?_) hs
 subst ex
 obtain rfl : ov = Value.ref a := rx
 exact setattr_ok I2 ea c n l ry fun s3 I3 => ⟨σ, _, I3, q2⟩
end
section
variable {X : Cx} {pins : List (Addr × Obj)} {σ : St} {H : Hp} {s : Shared} {A : Around} {E : Value → Shared → Prop} {Q : Value → Shared → Prop} {c : Value} {b : Bool}
inductive TyOf (K : PySem.W.Frag) (H : Hp) : V → Value → Prop where
  | non : TyOf K H .non (.type "NoneType")
  | bl (x : Bool) : TyOf K H (.bl x) (.type "bool")
  | int (i : Int) : TyOf K H (.int i) (.type "int")
  | str (x : Str) : TyOf K H (.str x) (.type "str")
  | flt (x : UInt64) : TyOf K H (.flt x) (.type "float")
  | lst {a : Addr} {xs : List V} (e : H a = some (.lst xs)) : TyOf K H (.ref a) (.type "list")
  | frz {a : Addr} {o : Obj} {xs : List V} (e : H a = some (.frz o (.lst xs))) : TyOf K H (.ref a) (.type "list")
  | tup {a : Addr} {xs : List V} (e : H a = some (.tup xs)) : TyOf K H (.ref a) (.type "tuple")
  | dK {a : Addr} {kvs : List (Key × V)} (e : H a = some (.dK kvs)) : TyOf K H (.ref a) (.type "dict")
  | dT {a : Addr} {kvs : List (List Key × V)} (e : H a = some (.dT kvs)) : TyOf K H (.ref a) (.type "dict")
  | ins {a C dx : Addr} {fs : List (Str × V)} (e : H a = some (.ins C dx fs)) (cl : Cls K C) (ha : PySem.W.findIn K (.ref C) "__class__" = some (some (.builtin "object.__class__")))
      (hn : PySem.W.specialIn K (.builtin "object.__class__") "__get__" = some (some (.builtin "getset_descriptor.__get__"))) (htk : PySem.W.takesIn K (.builtin "object.__class__") = some true)
      (hm : PySem.W.mroIn K C (.type "object") = some true) : TyOf K H (.ref a) (.ref C)
theorem isinst_ok {x : V} {u t : Value} (I : Inv X pins σ H s) (rx : RelV x u) (ty : TyOf X.K H x t) (e : PySem.W.kitOne X.K t c = some b) (h : ∀ tk, Q (.bool b) { s with toks := tk }) :
  wpAny (model X.prog X.w) A (call (.builtin "isinstance") [u, c]) Q E s := by
 cases ty with
 | non => cases (show u = Value.none from rx); exact PySem.W.kia_one PySem.W.kitx_none I.kIn True.intro e (fun z => nomatch z) h
 | bl y => cases (show u = Value.bool y from rx); exact PySem.W.kia_one PySem.W.kitx_bool I.kIn True.intro e (fun z => nomatch z) h
 | int i => obtain ⟨t, q⟩ := (show ∃ t, u = Value.int i t from rx); cases q; exact PySem.W.kia_one PySem.W.kitx_int I.kIn True.intro e (fun z => nomatch z) h
 | str y => obtain ⟨t, q⟩ := (show ∃ t, u = Value.str y t from rx); cases q; exact PySem.W.kia_one PySem.W.kitx_str I.kIn True.intro e (fun z => nomatch z) h
 | flt y => obtain ⟨t, q⟩ := (show ∃ t, u = Value.float y t from rx); cases q; exact PySem.W.kia_one PySem.W.kitx_float I.kIn True.intro e (fun z => nomatch z) h
 | @lst a xs ea =>
  cases (show u = Value.ref a from rx)
  obtain ⟨_, _, n, _, h1⟩ := (show ObjOk X.prog X.w H s.heap a (.lst xs) from I.hok a _ ea)
  exact PySem.W.kia_one PySem.W.kitx_list I.kIn ⟨_, h1, rfl⟩ e (fun z => nomatch z) h
 | @frz a ob xs ea =>
  cases (show u = Value.ref a from rx)
  obtain ⟨_, _, _, n, _, h1⟩ := (show ObjOk X.prog X.w H s.heap a (.frz ob (.lst xs)) from I.hok a _ ea)
  exact PySem.W.kia_one PySem.W.kitx_list I.kIn ⟨_, h1, rfl⟩ e (fun z => nomatch z) h
 | @tup a xs ea =>
  cases (show u = Value.ref a from rx)
  obtain ⟨_, _, _, p⟩ := (show ObjOk X.prog X.w H s.heap a (.tup xs) from I.hok a _ ea)
  obtain ⟨o, h1, h2, _⟩ := p
  exact PySem.W.kia_one PySem.W.kitx_tuple I.kIn ⟨o, h1, h2⟩ e (fun z => nomatch z) h
 | @dK a kvs ea =>
  cases (show u = Value.ref a from rx)
  obtain ⟨_, _, vs, _, p⟩ := (show ObjOk X.prog X.w H s.heap a (.dK kvs) from I.hok a _ ea)
  obtain ⟨o, es, ep, h1, h2, _⟩ := p
  exact PySem.W.kia_one PySem.W.kitx_dict I.kIn ⟨o, h1, h2.1⟩ e (fun z => nomatch z) h
 | @dT a kvs ea =>
  cases (show u = Value.ref a from rx)
  obtain ⟨_, _, xs, _, o, es, ep, h1, h2, _⟩ := (show ObjOk X.prog X.w H s.heap a (.dT kvs) from I.hok a _ ea)
  exact PySem.W.kia_one PySem.W.kitx_dict I.kIn ⟨o, h1, h2.1⟩ e (fun z => nomatch z) h
 | @ins a C dx fs ea cl ha hn htk hm =>
  cases (show u = Value.ref a from rx)
  obtain ⟨mA, O, _⟩ := ins_get I.hok ea
  obtain ⟨od, J, _⟩ := O.look
  exact PySem.W.kia_one (PySem.W.kitx_own (cl.get _) cl.hd ha hn htk hm) I.kIn J e (fun z => nomatch z) h
end
end L2
namespace L2
open PySem PySem.Spec PyProof.Rows
structure Room (k : Nat) (A : Around) : Prop where
 hd : A.handled = none
 dp : A.depth + 3 * k + 5 < recursionLimit
 un : A.units + 16 * k + 200 < cLine
theorem Room.mono {j k : Nat} {A : Around} (r : Room k A) (h : j ≤ k) : Room j A := ⟨r.hd, by have := r.dp; omega, by have := r.un; omega⟩
theorem Room.deeper {k : Nat} {A : Around} (r : Room (k + 1) A) (env : Env) : Room k (A.deeper env) :=
 ⟨r.hd, by have := r.dp; show A.depth + 1 + 3 * k + 5 < _; omega, by have := r.un; show A.units + 3 + 16 * k + 200 < _; omega⟩
theorem make_depth {A : Around} {C : Addr} {us : List Value} {kw : List (Str × Value)} : (A.under (.builtin "type.__call__" ⟨.ref C :: us, kw⟩)).depth = A.depth + 1 := by
 first | rfl | simp [Around.under, Code.weight, Code.isCreation, Code.isGuard, Code.isCaller, Code.frames, Code.isFrame, guardIds]
theorem make_units {A : Around} {C : Addr} {us : List Value} {kw : List (Str × Value)} : (A.under (.builtin "type.__call__" ⟨.ref C :: us, kw⟩)).units = A.units + 1 := by
 first | rfl | simp [Around.under, Code.cUnits, Code.frames, Code.isFrame]
theorem Room.make {k : Nat} {A : Around} (r : Room (k + 1) A) (C : Addr) (us : List Value) (kw : List (Str × Value)) : Room k (A.under (.builtin "type.__call__" ⟨.ref C :: us, kw⟩)) :=
 ⟨r.hd, by have := r.dp; rw [make_depth]; omega, by have := r.un; rw [make_units]; omega⟩
theorem Room.depth {k : Nat} {A : Around} (r : Room k A) : A.depth < recursionLimit := by have := r.dp; omega
theorem Room.units {k : Nat} {A : Around} (r : Room k A) : A.units + 64 < cLine := by have := r.un; omega
def tNil : TA := fun _ H Q => Q [] H
def tCons (ta : TE) (tr : TA) : TA := fun σ H Q => ta σ H fun x H1 => tr σ H1 fun xs H2 => Q (x :: xs) H2
section
variable {X : Cx} {e : Expr} {es : List Expr} {te : TE} {t : TA} {pos : Pos}
theorem pa_nil : PA X [] tNil := fun _ _ _ _ H Q I h => Calls.spliced_nil ⟨[], H, I, .nil, h⟩
theorem pa_cons (ha : PE X e te) (hr : PA X es t) (hs : starEach (e :: es) X.env = (false, eval e X.env) :: starEach es X.env := by rfl) : PA X (e :: es) (tCons te t) := by
 intro pos pins s σ H Q I h
 rw [hs]
 show wpAny _ _ (spliced ((false, eval e X.env) :: backTo pos (starEach es X.env))) _ _ s
 refine Calls.spliced_cons (thn (ha pins s σ H _ I h) fun u s1 ⟨x, H1, I1, r1, q1⟩ => ?_)
 exact thn (hr pos pins s1 σ H1 _ I1 q1) fun us s2 ⟨xs, H2, I2, r2, q2⟩ => ⟨x :: xs, H2, I2, .cons r1 r2, q2⟩
def tTup (t : TA) : TE := fun σ H Q => t σ H fun xs H1 => xs.length ≤ sizeLine ∧ ∀ p, H1 p = none → Q (.ref p) (upd H1 p (.tup xs))
def tLst (t : TA) : TE := fun σ H Q => t σ H fun xs H1 => xs.length ≤ sizeLine ∧ ∀ p, H1 p = none → Q (.ref p) (upd H1 p (.lst xs))
theorem pe_tup {x1} (h : PA X es t) : PE X (.Tuple es x1 pos) (tTup t) := by
 intro pins s σ H Q I hq
 refine wpAny_Tuple_spliced (thn (h pos pins s σ H _ I hq) fun us s1 ⟨xs, H1, I1, r, z, q⟩ => ⟨by rw [← r.length]; exact z, ?_⟩)
 have hf : H1 s1.heap.objs.size = none := I1.hok.fresh (Nat.le_refl _)
 refine ⟨.ref s1.heap.objs.size, upd H1 s1.heap.objs.size (.tup xs), I1.laid (t' := s1.toks) (fun b u e => Heap.get?_push_of_some _ e) (Nat.le_refl _) ?_, rfl, q _ hf⟩
 exact ⟨z, us, r, ⟨_, Heap.get?_push_size _ rfl, rfl, _, rfl⟩⟩
theorem pe_lst (h : PA X es t) : PE X (.List es pos) (tLst t) := by
 intro pins s σ H Q I hq
 refine wpAny_List_spliced (thn (h pos pins s σ H _ I hq) fun us s1 ⟨xs, H1, I1, r, z, q⟩ => ⟨by rw [← r.length]; exact z, ?_⟩)
 have hf : H1 s1.heap.objs.size = none := I1.hok.fresh (Nat.le_refl _)
 refine ⟨.ref s1.heap.objs.size, upd H1 s1.heap.objs.size (.lst xs), I1.laid (t' := s1.toks) (fun b u e => Heap.get?_push_of_some _ e) (Nat.le_refl _) ?_, rfl, q _ hf⟩
 exact ⟨z, us, 0, r, Heap.get?_push_size _ rfl⟩
end
abbrev Sp := List V → Hp → VK → XK → Prop
abbrev CXT := List Env → Hp → Shared → XK → Value → Shared → Prop
structure Env0 (P : Program) (w : World) (K : PySem.W.Frag) (mg : Str → Option Value) (base : Heap) (A : Around) (outer : List Env) (s : Shared) (H : Hp) : Prop where
 frames : A.frames = some outer
 mod : Mod K mg base
 bs : ∀ b o, base.get? b = some o → s.heap.get? b = some o ∧ H b = none
 bsz : base.objs.size ≤ s.heap.objs.size
 funs : s.heap.FunFrames base outer
 frf : ∀ b ∈ frs outer, H b = none
 hok : HOk P w H s.heap
 bare : AllBare s.gens
def CE (outer : List Env) (P : Program) (w : World) (H : Hp) (s : Shared) (Q : VK) (u : Value) (s' : Shared) : Prop :=
 ∃ v H', s'.os = s.os ∧ AllBare s'.gens ∧ Un (frs outer) [] H H' s.heap s'.heap ∧ HOk P w H' s'.heap ∧ RelV v u ∧ Q v H'
def CR (CX : CXT) (outer : List Env) (P : Program) (w : World) (H : Hp) (s : Shared) (Q : VK) (E : XK) (r : Result) (s' : Shared) : Prop :=
 match r with
 | .ok (.ret u) => CE outer P w H s Q u s'
 | .ok _ => False
 | .error e => CX outer H s E e s'
structure FnOk (P : Program) (w : World) (K : PySem.W.Frag) (mg : Str → Option Value) (base : Heap) (CX : CXT) (k : Nat) (f : Addr) (fd : FuncData) (ps : List Str) (sp : Sp) : Prop where
 len : ∀ vs H Q E, sp vs H Q E → vs.length = ps.length
 run : ∀ (A : Around) (outer : List Env) (s : Shared) (H : Hp) (args : Args) (us : List Value) (vs : List V) (Q : VK) (E : XK), Room k A → Env0 P w K mg base A outer s H → BindsTo s fd args (ps.zip us) → Vals vs us → sp vs H Q E →
  codeAny (model P w) A (.call (.ref f) args) (CR CX outer P w H s Q E) s
theorem Env0.make {P : Program} {w : World} {K : PySem.W.Frag} {mg : Str → Option Value} {base : Heap} {A : Around} {outer : List Env} {s : Shared} {H : Hp} (e : Env0 P w K mg base A outer s H) (C : Addr) (us : List Value) (kw : List (Str × Value)) :
  Env0 P w K mg base (A.under (.builtin "type.__call__" ⟨.ref C :: us, kw⟩)) outer s H := ⟨by first | exact e.frames | (simpa [Around.under, Code.envs, Code.isFrame, pushEnvs] using e.frames), e.mod, e.bs, e.bsz, e.funs, e.frf, e.hok, e.bare⟩
section
variable {X : Cx} {pins : List (Addr × Obj)} {σ : St} {H : Hp} {s s' : Shared}
theorem Inv.env0 (I : Inv X pins σ H s) : Env0 X.prog X.w X.K X.mg X.base X.A X.stack s H :=
 ⟨I.ok.frames, I.ok.mod, I.bs, Nat.le_trans I.ok.bsz I.sz, I.stack, I.stkFree, I.hok, I.bare⟩
theorem Inv.after {Q : VK} {u : Value} (I : Inv X pins σ H s) (h : CE X.stack X.prog X.w H s Q u s') : EP X pins σ Q u s' := by
 obtain ⟨v, H', os, bare, un, hok, r, q⟩ := h
 obtain ⟨hh, g, d, t, os'⟩ := s'
 obtain rfl : os' = s.os := os
 exact ⟨v, H', I.call (h' := hh) (g' := g) (d' := d) (t' := t) (ch := []) un hok bare (fun b z => absurd z (by simp)), r, q⟩
end
def tCall (sp : Sp) (dvs : List V) (E : XK) (t : TA) : TE := fun σ H Q => t σ H fun vs H1 => sp (vs ++ dvs) H1 Q E
def tMeth (C : Addr) (m : Str) (sp : Sp) (dvs : List V) (E : XK) (ta : TE) (t : TA) : TE := fun σ H Q => ta σ H fun x H1 => ∃ a dx fs, x = .ref a ∧ H1 a = some (.ins C dx fs) ∧ fs.lookup m = none ∧
 t σ H1 fun vs H2 => sp (x :: (vs ++ dvs)) H2 Q E
def tMake (C : Addr) (sp : Sp) (dvs : List V) (E : XK) (t : TA) : TE := fun σ H Q => t σ H fun vs H1 => ∀ x dx, H1 x = none → H1 dx = none → dx ≠ x →
 sp (.ref x :: (vs ++ dvs)) (upd (upd H1 dx (.own x)) x (.ins C dx [])) (fun v H2 => v = .non ∧ Q (.ref x) H2) E
def Binds (K : PySem.W.Frag) (fd : FuncData) (ps : List Str) (ds : List Value) : Prop :=
 ∀ (s : Shared) (us : List Value), K.In s.heap → (us ++ ds).length = ps.length → BindsTo s fd ⟨us, []⟩ (ps.zip (us ++ ds))
theorem Binds.all {K : PySem.W.Frag} {fd : FuncData} {ps : List Str} (h : ∀ us : List Value, us.length = ps.length → bindArgs fd ⟨us, []⟩ = pure (ps.zip us)) : Binds K fd ps [] := fun s us _ hl => by
 rw [List.append_nil] at hl ⊢
 exact .of_eq (h us hl)
def Passes (CX : CXT) (X : Cx) (E : XK) : Prop := ∀ (pins : List (Addr × Obj)) (σ : St) (H : Hp) (s : Shared) (e : Value) (s' : Shared), Inv X pins σ H s → CX X.stack H s E e s' → X.xe e s'
section
variable {X : Cx} {CX : CXT} {k : Nat} {f C : Addr} {fd : FuncData} {ps : List Str} {sp : Sp} {dvs : List V} {ds : List Value} {E : XK} {x m : Str} {p pos apos : Pos} {e o : Expr} {es : List Expr} {ta : TE} {t : TA}
theorem run_fn {pins : List (Addr × Obj)} {σ : St} {H : Hp} {s : Shared} {Q : VK} {us : List Value} {vs : List V} (F : FnOk X.prog X.w X.K X.mg X.base CX k f fd ps sp) (hr : Room k X.A) (hb : Binds X.K fd ps ds) (hd : Vals dvs ds) (hx : Passes CX X E)
  (I : Inv X pins σ H s) (r : Vals vs us) (h : sp (vs ++ dvs) H Q E) : wpAny (model X.prog X.w) X.A (call (.ref f) us) (EP X pins σ Q) X.xe s := by
 have r2 : Vals (vs ++ dvs) (us ++ ds) := r.append hd
 have hl : (us ++ ds).length = ps.length := by rw [← r2.length]; exact F.len _ _ _ _ h
 refine wpAny_call (codeAny_mono (F.run X.A X.stack s H ⟨us, []⟩ (us ++ ds) (vs ++ dvs) Q E hr I.env0 (hb s us I.kIn hl) r2 h) fun r s' hq => ?_)
 cases r with
 | error e => exact hx pins σ H s e s' I hq
 | ok fl =>
  cases fl with
  | ret u => exact I.after hq
  | next => exact False.elim hq
  | brk => exact False.elim hq
  | cont => exact False.elim hq
theorem pe_call (F : FnOk X.prog X.w X.K X.mg X.base CX k f fd ps sp) (hr : Room k X.A) (hg : Gl X x) (hm : X.mg x = some (.ref f)) (hk : PySem.W.keepIn X.K (.ref f) = true) (hb : Binds X.K fd ps ds) (hd : Vals dvs ds) (hx : Passes CX X E)
  (ha : PA X (e :: es) t) (hdb : (x == ("__debug__" : Str)) = false := by decide) (he : starEach (e :: es) X.env = (false, eval e X.env) :: starEach es X.env := by rfl) (hpl : (backTo pos (starEach es X.env)).any (·.1) = false := by rfl) :
  PE X (.Call (.Name x p) (e :: es) [] pos) (tCall sp dvs E t) := by
 intro pins s σ H Q I h
 refine wpAny_Call_Name_kw (ld_glob I hg hm ?_ hdb)
 refine PySem.W.callWith_K (h₀ := X.base) I.ok.mod.kin hk (thn (ha pos pins s σ H _ I h) fun us s1 ⟨vs, H1, I1, r, q⟩ => ⟨I1.kIn, ?_⟩) he hpl
 exact run_fn F hr hb hd hx I1 r q
theorem pe_meth0 {pl : Sem Bool} (he : PE X o ta) (c : Cls X.K C) (hm : Meth X.K C m f) (F : FnOk X.prog X.w X.K X.mg X.base CX k f fd ps sp) (hr : Room k X.A) (hb : Binds X.K fd ps ds) (hd : Vals dvs ds) (hx : Passes CX X E)
  (ht : eval (.Call (.Attribute o m apos) [] [] pos) X.env = (do
   let ov ← eval o X.env
   standAt apos.atName
   let (f, first) ← holding [ov] (getMethod ov m pl)
   callWith pos f first (backTo pos (starEach [] X.env)) (backToKw pos (keywordEach [] X.env))) := by rfl) :
  PE X (.Call (.Attribute o m apos) [] [] pos) (tMeth C m sp dvs E ta tNil) := by
 intro pins s σ H Q I h
 refine PySem.W.methodCall_KW (pl := pl) (thn (he pins s σ H _ I h) fun u s1 ⟨x, H1, I1, rx, a, dx, fs, ex, ea, l, q⟩ => ?_) ht
 subst ex
 obtain rfl : u = Value.ref a := rx
 refine getmeth_ok I1 ea c hm l ?_
 exact PySem.W.callWith_K0 (first := [.ref a]) I1.kIn hm.kp (run_fn (us := [.ref a]) (vs := [.ref a]) F hr hb hd hx I1 (.cons rfl .nil) q)
structure Mk (K : PySem.W.Frag) (C f : Addr) : Prop where
 makes : PySem.W.makesIn K C = true
 init : PySem.W.findIn K (.ref C) "__init__" = some (some (.ref f))
 fn : PySem.W.isFn K (.ref f) = true
 kp : PySem.W.keepIn K (.ref C) = true
theorem run_make {pins : List (Addr × Obj)} {σ : St} {H : Hp} {s : Shared} {Q : VK} {us : List Value} {vs : List V} (M : Mk X.K C f) (F : FnOk X.prog X.w X.K X.mg X.base CX k f fd ps sp) (hr : Room (k + 1) X.A) (hb : Binds X.K fd ps ds) (hd : Vals dvs ds)
  (hx : Passes CX X E) (I : Inv X pins σ H s) (r : Vals vs us)
  (h : ∀ x dx, H x = none → H dx = none → dx ≠ x → sp (.ref x :: (vs ++ dvs)) (upd (upd H dx (.own x)) x (.ins C dx [])) (fun v H2 => v = .non ∧ Q (.ref x) H2) E) :
  wpAny (model X.prog X.w) X.A (call (.ref C) us) (EP X pins σ Q) X.xe s := by
 have hq := h (s.heap.objs.size + 1) s.heap.objs.size (I.hok.fresh (Nat.le_succ _)) (I.hok.fresh (Nat.le_refl _)) (Nat.ne_of_lt (Nat.lt_succ_self _))
 have I2 := Inv.made (C := C) I
 have r2 : Vals (V.ref (s.heap.objs.size + 1) :: (vs ++ dvs)) (Value.ref (s.heap.objs.size + 1) :: (us ++ ds)) := .cons rfl (r.append hd)
 have hl : (Value.ref (s.heap.objs.size + 1) :: us ++ ds).length = ps.length := by
  have e := r2.length
  rw [F.len _ _ _ _ hq] at e
  exact e.symm
 refine wpAny_call (make_map (f := f) I.kIn M.makes M.init (beq_iff_eq.mp M.fn) (codeAny_mono (F.run _ X.stack _ _ ⟨Value.ref (s.heap.objs.size + 1) :: us, []⟩ (Value.ref (s.heap.objs.size + 1) :: (us ++ ds)) _ _ E (hr.make C us [])
  (I2.env0.make C us []) (hb _ (Value.ref (s.heap.objs.size + 1) :: us) I2.kIn hl) r2 hq) fun r s' hq' => ?_))
 cases r with
 | error e => exact hx pins σ _ _ e s' I2 hq'
 | ok fl =>
  cases fl with
  | ret u =>
   obtain ⟨v, H', I3, rv, ev, q3⟩ := I2.after hq'
   subst ev
   exact ⟨rv, ⟨V.ref (s.heap.objs.size + 1), H', I3, rfl, q3⟩⟩
  | next => exact False.elim hq'
  | brk => exact False.elim hq'
  | cont => exact False.elim hq'
theorem pe_make (M : Mk X.K C f) (F : FnOk X.prog X.w X.K X.mg X.base CX k f fd ps sp) (hr : Room (k + 1) X.A) (hg : Gl X x) (hm : X.mg x = some (.ref C)) (hb : Binds X.K fd ps ds) (hd : Vals dvs ds) (hx : Passes CX X E)
  (ha : PA X (e :: es) t) (hdb : (x == ("__debug__" : Str)) = false := by decide) (he : starEach (e :: es) X.env = (false, eval e X.env) :: starEach es X.env := by rfl) (hpl : (backTo pos (starEach es X.env)).any (·.1) = false := by rfl) :
  PE X (.Call (.Name x p) (e :: es) [] pos) (tMake C sp dvs E t) := by
 intro pins s σ H Q I h
 refine wpAny_Call_Name_kw (ld_glob I hg hm ?_ hdb)
 refine PySem.W.callWith_K (h₀ := X.base) I.ok.mod.kin M.kp (thn (ha pos pins s σ H _ I h) fun us s1 ⟨vs, H1, I1, r, q⟩ => ⟨I1.kIn, ?_⟩) he hpl
 exact run_make M F hr hb hd hx I1 r q
end
section
variable {X : Cx} {CX : CXT} {k : Nat} {f C : Addr} {fd : FuncData} {ps ks : List Str} {sp : Sp} {E : XK} {x m : Str} {p pos apos kpos : Pos} {e o : Expr} {es : List Expr} {kws : List Keyword} {te ta : TE} {t tk : TA} {nm : Option Str}
variable {g : List Value → List Value → List Value} {gV : List V → List V → List V}
end
structure FnScope (N P : List Str) (sc : Scope) : Prop where
 kind : sc.kind = .function
 co : sc.isCoroutine = false
 gen : sc.isGenerator = false
 nd : N.Nodup
 pre : N.take P.length = P
 par : ∀ x ∈ P, sc.names.lookup x = some .local ∨ sc.names.lookup x = some .cell
 nofree : ∀ y ∈ sc.names, y.2 ≠ .free
theorem bindL_out {kindOf : Str → Option NameKind} {x : Str} : ∀ {binds : List (Str × Value)} {m : Str → Option Value}, (∀ v, (x, v) ∉ binds) → bindL kindOf binds m x = m x
 | [], _, _ => rfl
 | (n, v) :: r, m, h => by
  unfold bindL
  rw [bindL_out fun w hw => h w (List.mem_cons_of_mem _ hw)]
  split
  ·have : x ≠ n := by rintro rfl; exact h v List.mem_cons_self
   simp [this]
  ·rfl
theorem bindC_out {kindOf : Str → Option NameKind} {x : Str} : ∀ {binds : List (Str × Value)} {m : Str → Option Value}, (∀ v, (x, v) ∉ binds) → bindC kindOf binds m x = m x
 | [], _, _ => rfl
 | (n, v) :: r, m, h => by
  unfold bindC
  rw [bindC_out fun w hw => h w (List.mem_cons_of_mem _ hw)]
  split
  ·rfl
  ·have : x ≠ n := by rintro rfl; exact h v List.mem_cons_self
   simp [this]
theorem bindL_get {kindOf : Str → Option NameKind} {x : Str} {v : Value} : ∀ {P : List Str} {vs : List Value} {i : Nat} {m : Str → Option Value}, P.Nodup → P[i]? = some x → vs[i]? = some v → kindOf x = some .local →
  bindL kindOf (P.zip vs) m x = some v
 | [], _, _, _, _, h, _, _ => by simp at h
 | _ :: _, [], _, _, _, _, h, _ => by simp at h
 | p :: P, w :: vs, 0, m, nd, h1, h2, hk => by
  simp at h1 h2; subst h1; subst h2
  show bindL kindOf ((p, w) :: P.zip vs) m p = _
  unfold bindL
  rw [bindL_out fun v hv => (List.nodup_cons.mp nd).1 (List.of_mem_zip hv).1, if_pos hk]
  simp
 | p :: P, w :: vs, i + 1, m, nd, h1, h2, hk => by
  show bindL kindOf ((p, w) :: P.zip vs) m x = _
  unfold bindL
  exact bindL_get (i := i) (List.nodup_cons.mp nd).2 (by simpa using h1) (by simpa using h2) hk
theorem bindC_get {kindOf : Str → Option NameKind} {x : Str} {v : Value} : ∀ {P : List Str} {vs : List Value} {i : Nat} {m : Str → Option Value}, P.Nodup → P[i]? = some x → vs[i]? = some v → kindOf x ≠ some .local →
  bindC kindOf (P.zip vs) m x = some v
 | [], _, _, _, _, h, _, _ => by simp at h
 | _ :: _, [], _, _, _, _, h, _ => by simp at h
 | p :: P, w :: vs, 0, m, nd, h1, h2, hk => by
  simp at h1 h2; subst h1; subst h2
  show bindC kindOf ((p, w) :: P.zip vs) m p = _
  unfold bindC
  rw [bindC_out fun v hv => (List.nodup_cons.mp nd).1 (List.of_mem_zip hv).1, if_neg hk]
  simp
 | p :: P, w :: vs, i + 1, m, nd, h1, h2, hk => by
  show bindC kindOf ((p, w) :: P.zip vs) m x = _
  unfold bindC
  exact bindC_get (i := i) (List.nodup_cons.mp nd).2 (by simpa using h1) (by simpa using h2) hk
def start (N : List Str) (vs : List V) : St := vs.map some ++ List.replicate (N.length - vs.length) none
def cxOf (CX : CXT) (P : Program) (w : World) (K : PySem.W.Frag) (mg : Str → Option Value) (base : Heap) (N : List Str) (qual : Str) (scope : Scope) (f : Addr) (cd : Value) (A : Around) (outer : List Env) (s : Shared) (H : Hp) (E : XK) : Cx where
 prog := P
 w := w
 K := K
 mg := mg
 base := base
 A := A.deeper (envOfC qual scope s.heap.objs.size f cd)
 N := N
 s₀ := s
 H₀ := H
 env := envOfC qual scope s.heap.objs.size f cd
 outer := outer
 stack := envOfC qual scope s.heap.objs.size f cd :: outer
 ex := []
 calm := true
 fn := fun _ => true
 pn := []
 xe := fun e s' => wpAny (model P w) (A.deeper (envOfC qual scope s.heap.objs.size f cd)) (leaving (envOfC qual scope s.heap.objs.size f cd) e) (fun _ s'' => CX outer H s E e s'') (fun e' s'' => CX outer H s E e' s'') s'
theorem cell_has {sc : Scope} {n : Nat} {x : Str} (h : sc.names.lookup x = some .cell) : ∃ c, (cellsFrom n sc.names []).lookup x = some c := by
 have q := PySem.W.cellsFrom_some sc.names n [] (.inl h)
 exact Option.isSome_iff_exists.mp q
theorem inv_start {CX : CXT} {P : Program} {w : World} {K : PySem.W.Frag} {mg : Str → Option Value} {base : Heap} {N ps : List Str} {qual : Str} {scope : Scope} {f : Addr} {cd : Value} {A : Around} {outer : List Env} {s s1 : Shared} {H : Hp} {E : XK} {us : List Value} {vs : List V}
    (S : FnScope N ps scope) (hd : A.handled = none) (e0 : Env0 P w K mg base A outer s H) (hl : vs.length = ps.length) (r : Vals vs us)
    (x : InCallC s s.heap.objs.size (bindL (envOfC qual scope s.heap.objs.size f cd).kindOf (ps.zip us) fun _ => none) (cellsFrom (s.heap.objs.size + 1) scope.names []) (bindC (envOfC qual scope s.heap.objs.size f cd).kindOf (ps.zip us) fun _ => none) s1) :
    Inv (cxOf CX P w K mg base N qual scope f cd A outer s H E) [] (start N vs) H s1 := by
  have hpl : ps.length ≤ N.length := by have := congrArg List.length S.pre; rw [List.length_take] at this; omega
  obtain ⟨h1, tk, rfl, hk⟩ := x.done
  have noA : ∀ b : Addr, b ∉ (cxOf CX P w K mg base N qual scope f cd A outer s H E).ex := fun b z => absurd (show b ∈ ([] : List Addr) from z) (by simp)
  refine ⟨⟨e0.mod, S.kind, rfl, rfl, Nat.le_refl _, fun y z c h1 h2 => ?_, fun y hy => ?_, fun y c _ h => ?_, fun _ => hd, Around.frames_deeper e0.frames, .inr ⟨rfl, rfl⟩, fun b z => absurd z (noA b), e0.bs, e0.bsz, fun b _ _ => noA b, fun b z => absurd z (noA b), e0.funs, e0.frf⟩,
    rfl, e0.bare, Un.kept hk, ⟨_, x.toInCall.ns, fun i y v h1 h2 h3 => ?_⟩, fun y c h => ⟨_, x.cell y c h⟩, e0.hok.fresh (Nat.le_refl _), fun y c h => ?_, fun p hp => absurd (show p ∈ ([] : List (Addr × Obj)) from hp) (by simp), e0.hok.kept hk, ?_⟩
  · exact name_of_addr x.apart (PySem.mem_of_lookup h1) (PySem.mem_of_lookup h2)
  · have hy : scope.names.lookup y = some .cell ∨ scope.names.lookup y = some .free := hy
    rcases hy with hy | hy
    · exact cell_has hy
    · exact absurd rfl (S.nofree _ (PySem.mem_of_lookup hy))
  · exact Nat.le_of_lt (x.above y c (PySem.mem_of_lookup h))
  · have hi : i < vs.length := by
      unfold start at h2
      by_cases hi : i < vs.length
      · exact hi
      · rw [List.getElem?_append_right (by simpa using hi)] at h2
        rw [List.getElem?_replicate] at h2
        split at h2 <;> cases h2
    have ha : vs[i]? = some v := by
      unfold start at h2
      rw [List.getElem?_append_left (by simpa using hi), List.getElem?_map] at h2
      cases e : vs[i]? with
      | none => rw [e] at h2; cases h2
      | some a => rw [e] at h2; cases h2; rfl
    obtain ⟨u, hu, rv⟩ := r.get ha
    have hp : ps[i]? = some y := by
      rw [← S.pre, List.getElem?_take_of_lt (by omega)]; exact h1
    have ndP : ps.Nodup := by rw [← S.pre]; exact S.nd.sublist (List.take_sublist _ _)
    refine ⟨u, rv, ?_⟩
    rcases S.par y (List.mem_of_getElem? hp) with k | k
    · exact .inl ⟨k, bindL_get ndP hp hu k⟩
    · obtain ⟨c, e⟩ := cell_has (n := s.heap.objs.size + 1) k
      refine .inr ⟨.inl k, c, e, ?_⟩
      have q := x.cell y c e
      rw [bindC_get ndP hp hu (by show scope.names.lookup y ≠ _; rw [k]; decide)] at q
      exact q
  · exact e0.hok.fresh (Nat.le_of_lt (x.above y c (PySem.mem_of_lookup h)))
  · unfold start
    show _ = N.length
    rw [List.length_append, List.length_map, List.length_replicate]
    omega
theorem fn_of {CX : CXT} {P : Program} {w : World} {K : PySem.W.Frag} {mg : Str → Option Value} {base : Heap} {k : Nat} {f : Addr} {name qual : Str} {params : Arguments} {body : List Stmt} {scope : Scope} {dV kV doc pm cdv ct oc : Value} {an od : Option Addr}
  {osl : Array (Option Value)} {N ps : List Str} {sp : Sp} (lk : K.lookup f = some ⟨oc, od, .func (PySem.W.fnOf name qual params body scope dV kV doc pm an cdv ct), osl⟩) (hcd : PySem.W.codeIn K cdv qual = true) (S : FnScope N ps scope)
  (len : ∀ vs H Q E, sp vs H Q E → vs.length = ps.length)
  (hbody : ∀ (A : Around) (outer : List Env) (s : Shared) (H : Hp) (vs : List V) (Q : VK) (E : XK), Room k (A.deeper (envOfC qual scope s.heap.objs.size f cdv)) → sp vs H Q E →
   ∃ t, PSs (cxOf CX P w K mg base N qual scope f cdv A outer s H E) body t ∧ t { nx := fun _ H' => Q .non H', rt := Q } (start N vs) H) :
  FnOk P w K mg base CX (k + 1) f (PySem.W.fnOf name qual params body scope dV kV doc pm an cdv ct) ps sp := by
 refine ⟨len, fun A outer s H args us vs Q E hr e0 hb r hsp => ?_⟩
 have hl := len _ _ _ _ hsp
 have KX : K.In s.heap := e0.mod.kin.keeps fun b o e => (e0.bs b o e).1
 have lim : s.heap.NoLimit := e0.mod.nolimit.keeps fun b o e => (e0.bs b o e).1
 have hkind : ∀ y ∈ ps.zip us, scope.names.lookup y.1 = some .local ∨ (scope.names.lookup y.1 = some .cell ∧ ((cellsFrom (s.heap.objs.size + 1) scope.names []).lookup y.1).isSome = true) := fun ⟨n, v⟩ hy => by
  rcases S.par n (List.of_mem_zip hy).1 with q | q
  ·exact .inl q
  ·exact .inr ⟨q, PySem.W.cellsFrom_some _ _ _ (.inl q)⟩
 refine codeAny_call_function hr.depth (KX _ _ lk) rfl S.co S.gen rfl (PySem.W.codeRec_of KX hcd) (hb _ _ _ _ ?_)
 refine wpAny_newFunctionEnv_cells S.kind hkind fun env he s1 x => ?_
 subst he
 refine ⟨lim.keeps x.toInCall.keep, codeAny_func ?_⟩
 obtain ⟨t, ht, hq⟩ := hbody A outer s H vs Q E (hr.deeper _) hsp
 have I : Inv (cxOf CX P w K mg base N qual scope f cdv A outer s H E) [] (start N vs) H s1 := inv_start S hr.hd e0 hl r x
 refine wpAny_mono (ht [] s1 (start N vs) H _ I hq) (fun fl s' hs => ?_) fun e s' hs => hs
 have fin : ∀ {σ' : St} {H' : Hp} {v : V} {u : Value}, Inv (cxOf CX P w K mg base N qual scope f cdv A outer s H E) [] σ' H' s' → RelV v u → Q v H' → CE outer P w H s Q u s' :=
  fun {σ' H' v u} J rv q => ⟨v, H', J.os, J.bare, J.base, J.hok, rv, q⟩
 cases fl with
 | ret u =>
  obtain ⟨v, σ', H', J, rv, q⟩ := hs
  exact fin J rv q
 | next =>
  obtain ⟨σ', H', J, q⟩ := hs
  exact fin (v := V.non) (u := Value.none) J rfl q
 | brk =>
  obtain ⟨_, _, _, q⟩ := hs
  exact False.elim q
 | cont =>
  obtain ⟨_, _, _, q⟩ := hs
  exact False.elim q
end L2
namespace L2
open PySem PySem.Spec PyProof.Rows
section
variable {X : Cx} {x : Str} {p pos : Pos} {e : Expr} {es : List Expr} {t : TA} {id T : String} {r : List V → Hp → VK → Prop}
def tCB (r : List V → Hp → VK → Prop) (t : TA) : TE := fun σ H Q => t σ H fun vs H1 => r vs H1 Q
theorem pe_callB (hc : CallR X (.builtin id) r) (hg : Gl X x) (hm : X.mg x = none) (hv : bootBuiltins x = some (.builtin id)) (ha : PA X (e :: es) t) (hn : x ≠ "__name__" := by decide) (hdb : (x == ("__debug__" : Str)) = false := by decide)
  (he : starEach (e :: es) X.env = (false, eval e X.env) :: starEach es X.env := by rfl) (hpl : (backTo pos (starEach es X.env)).any (·.1) = false := by rfl) : PE X (.Call (.Name x p) (e :: es) [] pos) (tCB r t) := by
 intro pins s σ H Q I h
 refine wpAny_Call_Name_kw (ld_blt I hg hm hv ?_ hn hdb)
 exact PyProof.Rows.callWith_builtin1 (thn (ha pos pins s σ H _ I h) fun us s1 ⟨vs, H1, I1, r1, q1⟩ => hc pins s1 σ H1 vs us Q I1 r1 q1) he hpl
theorem pe_callTy (hc : CallR X (.type T) r) (hg : Gl X x) (hm : X.mg x = none) (hv : bootBuiltins x = some (.type T)) (ha : PA X (e :: es) t) (hn : x ≠ "__name__" := by decide) (hdb : (x == ("__debug__" : Str)) = false := by decide)
  (he : starEach (e :: es) X.env = (false, eval e X.env) :: starEach es X.env := by rfl) (hpl : (backTo pos (starEach es X.env)).any (·.1) = false := by rfl) : PE X (.Call (.Name x p) (e :: es) [] pos) (tCB r t) := by
 intro pins s σ H Q I h
 refine wpAny_Call_Name_kw (ld_blt I hg hm hv ?_ hn hdb)
 exact PyProof.Rows.callWith_type1 (thn (ha pos pins s σ H _ I h) fun us s1 ⟨vs, H1, I1, r1, q1⟩ => hc pins s1 σ H1 vs us Q I1 r1 q1) he hpl
end
end L2
namespace HT
open PySem PyProof.Rows
section
open PySem.SeqAt
open PySem.AutoSeq1 (wpAny_loadPart')
open PySem.MeetsSeq PySem.MeetsSeq2 PySem.MeetsSeq3
end
section
variable {prog : Program} {w : World} {A : Around} {E : Value → Shared → Prop} {s : Shared}
def sIx (n d : Nat) : Option Int → Nat
 | none => d
 | some v => if v < 0 then (v + (n : Int)).toNat else min v.toNat n
theorem sIx_none (n d : Nat) : sIx n d none = d := rfl
theorem sIx_nat (n d k : Nat) : sIx n d (some (k : Int)) = min k n := by
 show (if (k : Int) < 0 then ((k : Int) + (n : Int)).toNat else min (k : Int).toNat n) = min k n
 rw [if_neg (by omega), Int.toNat_natCast]
theorem sIx_le (n d : Nat) (hd : d ≤ n) (o : Option Int) : sIx n d o ≤ n := by
 cases o with
 | none => exact hd
 | some v =>
  show (if v < 0 then (v + (n : Int)).toNat else min v.toNat n) ≤ n
  by_cases hv : v < 0
  ·rw [if_pos hv]; omega
  ·rw [if_neg hv]; exact Nat.min_le_right _ _
theorem clip_eq (v : Int) (n d : Nat) : (if v < 0 then max (v + (n : Int)) 0 else min v (n : Int)) = ((sIx n d (some v) : Nat) : Int) := by
 show (if v < 0 then max (v + (n : Int)) 0 else min v (n : Int)) = (((if v < 0 then (v + (n : Int)).toNat else min v.toNat n) : Nat) : Int)
 by_cases hv : v < 0
 ·simp only [if_pos hv]; omega
 ·simp only [if_neg hv]; omega
theorem adjust_gen (lo hi : Option Int) (n : Nat) : Builtin.Slice.sliceAdjust lo hi 1 (n : Int) = (((sIx n 0 lo : Nat) : Int), ((sIx n n hi : Nat) : Int)) := by
 have h1 : ¬ ((1 : Int) < 0) := by omega
 unfold Builtin.Slice.sliceAdjust
 simp only [h1, if_false]
 refine Prod.ext ?_ ?_
 ·cases lo with
  | none => rfl
  | some v => exact clip_eq v n 0
 ·cases hi with
  | none => rfl
  | some v => exact clip_eq v n n
theorem places_gen (i j : Nat) : Builtin.Slice.slicePlaces (i : Int) (j : Int) 1 = j - i := by
 unfold Builtin.Slice.slicePlaces
 have h1 : (1 : Int) > 0 := by omega
 simp only [h1, if_true, Int.ediv_one]
 split <;> omega
theorem slicePart_ {v : Value} {o : Option Int} {Q : Option Int → Shared → Prop} (p : IsPart v o) (h : Q o s) : wpAny (model prog w) A (Builtin.Slice.slicePartIndex v) Q E s := by
 cases p with
 | none => exact slicePart_none h
 | int i t => exact slicePart_int h
theorem sliceApplied_gen {sl : Addr} {vl vu : Value} {lo hi : Option Int} {n : Nat} {Q : Int × Int × Nat → Shared → Prop} (hs : s.heap.IsSliceOf sl vl vu .none) (pl : IsPart vl lo) (pu : IsPart vu hi)
  (h : Q (((sIx n 0 lo : Nat) : Int), 1, sIx n n hi - sIx n 0 lo) s) : wpAny (model prog w) A (Builtin.Slice.sliceApplied (.ref sl) (pure (n : Int))) Q E s := by
 obtain ⟨os, hos, hcs, hds⟩ := id hs
 unfold Builtin.Slice.sliceApplied Builtin.Slice.sliceFields
 refine wpAny_bind (wpAny_bind (wpAny_field hos hds (x := vl) rfl (wpAny_bind (wpAny_field hos hds (x := vu) rfl (wpAny_bind (wpAny_field hos hds (x := .none) rfl (wpAny_pure ?_)))))))
 refine wpAny_bind (slicePart_none ?_)
 show wpAny _ _ (if ((1 : Int) == 0) = true then _ else _) _ _ s
 rw [if_neg (by decide)]
 refine wpAny_bind (slicePart_ pl (wpAny_bind (slicePart_ pu (wpAny_bind (wpAny_pure ?_)))))
 show wpAny _ _ (match Builtin.Slice.sliceAdjust lo hi 1 (n : Int) with | (lo, hi) => pure (lo, (1 : Int), Builtin.Slice.slicePlaces lo hi 1)) _ _ s
 rw [adjust_gen lo hi n]
 show wpAny _ _ (pure (((sIx n 0 lo : Nat) : Int), (1 : Int), Builtin.Slice.slicePlaces ((sIx n 0 lo : Nat) : Int) ((sIx n n hi : Nat) : Int) 1)) _ _ s
 rw [places_gen]
 exact wpAny_pure h
theorem pick_gen (xs : Array Value) (i k : Nat) : ((List.range k).filterMap fun (m : Nat) => xs[((i : Int) + (m : Int) * 1).toNat]?).toArray = ((xs.toList.drop i).take k).toArray := by
 have e : (fun (m : Nat) => xs[((i : Int) + (m : Int) * 1).toNat]?) = fun m => xs[i + m]? := by
  funext m
  have : ((i : Int) + (m : Int) * 1).toNat = i + m := by omega
  rw [this]
 rw [e]
 have := pick_run xs i k
 rw [List.filterMap_map] at this
 have e2 : ((fun x => xs[x]?) ∘ fun x => i + x) = fun m => xs[i + m]? := rfl
 rw [e2] at this
 rw [this]
theorem getItem_tuple_cut {t sl : Addr} {items : Array Value} {vl vu : Value} {lo hi : Option Int} {Q : Value → Shared → Prop} (ht : IsTup s.heap t items) (hs : s.heap.IsSliceOf sl vl vu .none) (pl : IsPart vl lo) (pu : IsPart vu hi)
  (hw : ¬ (sIx items.size 0 lo = 0 ∧ sIx items.size items.size hi = items.size))
  (h : Q (.ref s.heap.objs.size) { s with heap := s.heap.push { cls := .type "tuple", data := .seq ((items.toList.drop (sIx items.size 0 lo)).take (sIx items.size items.size hi - sIx items.size 0 lo)).toArray } })
  (hsz : items.size ≤ sizeLine) : wpAny (model prog w) A (getItem (.ref t) (.ref sl)) Q E s := by
 have htake : sizeOk (.seq ((items.toList.drop (sIx items.size 0 lo)).take (sIx items.size items.size hi - sIx items.size 0 lo)).toArray) := by
  show ((items.toList.drop (sIx items.size 0 lo)).take (sIx items.size items.size hi - sIx items.size 0 lo)).toArray.size ≤ sizeLine
  rw [List.size_toArray, List.length_take, List.length_drop, Array.length_toList]
  omega
 have hj : sIx items.size items.size hi ≤ items.size := sIx_le _ _ (Nat.le_refl _) hi
 obtain ⟨os, hos, hcs, hds⟩ := id hs
 have hTs : s.TypeIs (.ref sl) "slice" := ⟨os, hos, hcs⟩
 unfold getItem
 try with_reducible refine wpAny_holding ?_
 first | refine wpAny_bind (wpAny_pure ?_) | skip
 refine wpAny_bind (wpAny_sequenceKey ht.typeIs (by decide) ?_)
 refine wpAny_bind (wpAny_callSpecial?_slot (name := Str.ofString "__getitem__") ht.typeIs PyProof.Rows.slot_tuple_getitem
  (wpAny_call_entry PyProof.Rows.slot_tuple_getitem ht.typeIs entry_tuple_getitem ?_ (args_tuple_getitem _ _)))
 show wpAny _ _ (Builtin.Tuple.tupleItemsOf (.ref t) >>= _) _ _ s
 refine wpAny_bind (tupleItemsOf_ ht ?_)
 refine wpAny_bind (wpAny_typeOf hTs ?_)
 rw [if_pos (by decide)]
 refine wpAny_bind (sliceApplied_gen hs pl pu ?_)
 have hno : ¬ ((((sIx items.size 0 lo : Nat) : Int) == 0 && (1 : Int) == 1 && (sIx items.size items.size hi - sIx items.size 0 lo) == items.size) = true) := by
  intro q
  rw [Bool.and_eq_true, Bool.and_eq_true] at q
  have q1 : ((sIx items.size 0 lo : Nat) : Int) = 0 := eq_of_beq q.1.1
  have q2 : sIx items.size items.size hi - sIx items.size 0 lo = items.size := eq_of_beq q.2
  exact hw ⟨by omega, by omega⟩
 show wpAny _ _ (if (((sIx items.size 0 lo : Nat) : Int) == 0 && (1 : Int) == 1 && (sIx items.size items.size hi - sIx items.size 0 lo) == items.size) = true then _ else _) _ _ s
 rw [if_neg hno, pick_gen]
 first
  | exact wpAny_bind (m := Builtin.Tuple.tupleExact _) (wpAny_newObj_type (wpAny_pure ⟨_, rfl, wpAny_pure h⟩) htake)
  | exact wpAny_bind (m := Builtin.Tuple.tupleExact _) (wpAny_newObj_type (wpAny_bind (wpAny_pure (wpAny_pure ⟨_, rfl, wpAny_pure h⟩))) htake)
  | exact wpAny_bind (wpAny_bind (m := Builtin.Tuple.tupleExact _) (wpAny_newObj_type (wpAny_pure (wpAny_pure ⟨_, rfl, wpAny_pure h⟩)) htake))
  | exact wpAny_bind (wpAny_bind (m := Builtin.Tuple.tupleExact _) (wpAny_newObj_type (wpAny_pure ⟨_, rfl, wpAny_pure h⟩) htake))
end
end HT
namespace L2
open PySem PySem.Spec PyProof.Rows
abbrev TO := St → Hp → (Option Int → Hp → Prop) → Prop
def PO (X : Cx) (e : Option Expr) (t : TO) : Prop :=
 ∀ (pins : List (Addr × Obj)) (s : Shared) (σ : St) (H : Hp) (Q : Option Int → Hp → Prop), Inv X pins σ H s → t σ H Q →
  wpAny (model X.prog X.w) X.A (evalPart e X.env) (fun u s' => ∃ o H', Inv X pins σ H' s' ∧ IsPart u o ∧ Q o H') X.xe s
def tNoPart : TO := fun _ H Q => Q none H
def tPart (t : TE) : TO := fun σ H Q => t σ H fun x H1 => ∃ i, x = .int i ∧ Q (some i) H1
section
variable {X : Cx} {e : Expr} {te : TE} {lo hi : Option Expr} {tl th : TO} {pos p2 : Pos}
theorem po_none : PO X none tNoPart := by
 intro pins s σ H Q I h
 rw [evalPart_none]
 exact wpAny_pure ⟨none, H, I, .none, h⟩
theorem po_some (h : PE X e te) : PO X (some e) (tPart te) := by
 intro pins s σ H Q I hw
 rw [evalPart_some]
 refine thn (h pins s σ H _ I hw) fun u s1 ⟨x, H1, I1, r1, q1⟩ => ?_
 obtain ⟨i, rfl, q⟩ := q1
 obtain ⟨t, rfl⟩ := r1
 exact ⟨some i, H1, I1, .int i t, q⟩
def SlR (X : Cx) (r : V → Option Int → Option Int → Hp → VK → Prop) : Prop :=
 ∀ (pins : List (Addr × Obj)) (s : Shared) (σ : St) (H : Hp) (x : V) (v vl vu : Value) (lo hi : Option Int) (sl : Addr) (Q : VK), Inv X pins σ H s → RelV x v → s.heap.IsSliceOf sl vl vu .none → IsPart vl lo → IsPart vu hi → r x lo hi H Q →
  ∃ T id, typeLookup (.type T) "__getitem__" = pure (some (.builtin id)) ∧ s.TypeIs v T ∧ wpAny (model X.prog X.w) X.A (getItem v (.ref sl)) (EP X pins σ Q) X.xe s
def tSl (r : V → Option Int → Option Int → Hp → VK → Prop) (te : TE) (tl th : TO) : TE := fun σ H Q => te σ H fun x H1 => tl σ H1 fun l H2 => th σ H2 fun u H3 => r x l u H3 Q
theorem pe_slice {r : V → Option Int → Option Int → Hp → VK → Prop} (hr : SlR X r) (he : PE X e te) (hl : PO X lo tl) (hu : PO X hi th) : PE X (.Subscript e (.Slice lo hi none p2) pos) (tSl r te tl th) := by
 intro pins s σ H Q I h
 refine Subscript_ (thn (he pins s σ H _ I h) fun v s1 ⟨x, H1, I1, r1, q1⟩ => ?_)
 refine wpAny_Slice (thn (hl pins s1 σ H1 _ I1 q1) fun vl s2 ⟨l, H2, I2, pl, q2⟩ => thn (hu pins s2 σ H2 _ I2 q2) fun vu s3 ⟨u, H3, I3, pu, q3⟩ => ?_)
 rw [evalPart_none]
 refine wpAny_pure ?_
 have I4 : Inv X pins σ H3 { s3 with heap := s3.heap.push { cls := .type "slice", data := .fields #[vl, vu, .none] } } := I3.kept (t' := s3.toks) fun b ob q => Heap.get?_push_of_some _ q
 obtain ⟨T, id, hT, ht, hg⟩ := hr pins { s3 with heap := s3.heap.push { cls := .type "slice", data := .fields #[vl, vu, .none] } } σ H3 x v vl vu l u s3.heap.objs.size Q I4 r1 (Heap.IsSliceOf.new ..) pl pu q3
 show wpAny (model X.prog X.w) X.A (subscriptTail e (.Slice lo hi none p2) v (.ref s3.heap.objs.size)) (EP X pins σ Q) X.xe { s3 with heap := s3.heap.push { cls := .type "slice", data := .fields #[vl, vu, .none] } }
 exact tail_any (ops := [.ref s3.heap.objs.size, v]) ht hT hg (by with_unfolding_all rfl)
def cutV (xs : List V) (lo hi : Option Int) : List V := (xs.drop (HT.sIx xs.length 0 lo)).take (HT.sIx xs.length xs.length hi - HT.sIx xs.length 0 lo)
theorem cutV_length (xs : List V) (lo hi : Option Int) : (cutV xs lo hi).length ≤ xs.length := by
 unfold cutV
 rw [List.length_take, List.length_drop]
 omega
def rSlT (K : PySem.W.Frag) : V → Option Int → Option Int → Hp → VK → Prop := fun x lo hi H Q => ∃ a xs, x = .ref a ∧ SqT K H a xs ∧
 ¬ (HT.sIx xs.length 0 lo = 0 ∧ HT.sIx xs.length xs.length hi = xs.length) ∧ ∀ p, H p = none → Q (.ref p) (upd H p (.tup (cutV xs lo hi)))
theorem sl_tup : SlR X (rSlT X.K) := by
 intro pins s σ H x v vl vu lo hi sl Q I rx hs pl pu h
 obtain ⟨a, xs, rfl, hx, hw, q⟩ := h
 cases rx
 obtain ⟨its, r, ht, hz⟩ := I.tuple hx
 have hlen : its.toArray.size = xs.length := by rw [List.size_toArray]; exact r.length.symm
 refine ⟨"tuple", _, PyProof.Rows.slot_tuple_getitem.lookup, ht.typeIs, ?_⟩
 refine HT.getItem_tuple_cut ht hs pl pu (by rw [hlen]; exact hw) ?_ (by rw [hlen]; exact hz)
 rw [hlen]
 refine ⟨.ref s.heap.objs.size, _, I.laid (t' := s.toks) (o := .tup (cutV xs lo hi)) (fun b ob q => Heap.get?_push_of_some _ q) (Nat.le_refl _) ?_, rfl, q _ (I.hok.fresh (Nat.le_refl _))⟩
 exact ⟨Nat.le_trans (cutV_length xs lo hi) hz, _, (r.drop (HT.sIx xs.length 0 lo)).take (HT.sIx xs.length xs.length hi - HT.sIx xs.length 0 lo), IsTup.new _ _⟩
end
end L2
namespace L2
open PySem PySem.Spec PyProof.Rows
def ixN (n : Nat) (i : Int) : Option Nat := if 0 ≤ i then (if i < n then some i.toNat else none) else if -(n : Int) ≤ i then some (i + n).toNat else none
def atI {α : Type} (xs : List α) (i : Int) : Option α := (ixN xs.length i).bind fun j => xs[j]?
theorem ixN_seq {n : Nat} {i : Int} {j : Nat} (h : ixN n i = some j) : seqIndex? i n = some j ∧ j < n ∧ -(n : Int) ≤ i ∧ i < n := by
 unfold ixN at h
 by_cases h0 : 0 ≤ i
 ·rw [if_pos h0] at h
  by_cases h1 : i < n
  ·rw [if_pos h1] at h
   have e : i.toNat = j := Option.some.inj h
   exact ⟨by rw [seqIndex_of h0 h1, e], by omega, by omega, h1⟩
  ·rw [if_neg h1] at h; cases h
 ·rw [if_neg h0] at h
  by_cases h1 : -(n : Int) ≤ i
  ·rw [if_pos h1] at h
   have e : (i + n).toNat = j := Option.some.inj h
   exact ⟨by rw [seqIndex_neg (by omega) h1, e], by omega, h1, by omega⟩
  ·rw [if_neg h1] at h; cases h
theorem atI_get {α : Type} {xs : List α} {i : Int} {v : α} (h : atI xs i = some v) : ∃ j, seqIndex? i xs.length = some j ∧ xs[j]? = some v ∧ j < xs.length ∧ -(xs.length : Int) ≤ i ∧ i < xs.length := by
 unfold atI at h
 cases e : ixN xs.length i with
 | none => rw [e] at h; cases h
 | some j =>
  rw [e] at h
  obtain ⟨h1, h2, h3, h4⟩ := ixN_seq e
  exact ⟨j, h1, h, h2, h3, h4⟩
theorem atI_nat {α : Type} {xs : List α} {j : Nat} {v : α} (h : xs[j]? = some v) : atI xs (j : Int) = some v := by
 have hj : j < xs.length := (List.getElem?_eq_some_iff.mp h).1
 have e : ixN xs.length (j : Int) = some j := by
  unfold ixN
  rw [if_pos (by omega), if_pos (by omega)]; simp
 unfold atI; rw [e]; exact h
def PlainIx (b : Expr) : Prop := ∀ o i, subscripted b false o i = operate [o, i] (getItem o i)
def IxR (X : Cx) (r : R2) : Prop :=
 ∀ (value slice : Expr) (pins : List (Addr × Obj)) (s : Shared) (σ : St) (H : Hp) (x y : V) (v u : Value) (Q : VK), Inv X pins σ H s → RelV x v → RelV y u → r x y H Q →
  subscripted slice false v u = operate [v, u] (getItem v u) → wpAny (model X.prog X.w) X.A (subscriptTail value slice v u) (EP X pins σ Q) X.xe s
def MtR (X : Cx) (id : String) (r : V → List V → Hp → VK → Prop) : Prop :=
 ∀ (pins : List (Addr × Obj)) (s : Shared) (σ : St) (H : Hp) (x : V) (xs : List V) (v : Value) (us : List Value) (Q : VK), Inv X pins σ H s → RelV x v → Vals xs us → r x xs H Q →
  wpAny (model X.prog X.w) X.A (call (.builtin id) (v :: us)) (EP X pins σ Q) X.xe s
section
variable {X : Cx} {a b : Expr} {ta tb : TE} {pos : Pos}
theorem IxR.or {r r' : R2} (h : IxR X r) (h' : IxR X r') : IxR X (fun x y H Q => r x y H Q ∨ r' x y H Q) := by
 intro value slice pins s σ H x y v u Q I rx ry q hs
 rcases q with q | q
 ·exact h value slice pins s σ H x y v u Q I rx ry q hs
 ·exact h' value slice pins s σ H x y v u Q I rx ry q hs
theorem pe_ix {r : R2} (hr : IxR X r) (ha : PE X a ta) (hb : PE X b tb) (hs : PlainIx b) : PE X (.Subscript a b pos) (tOp r ta tb) := by
 intro pins s σ H Q I h
 exact Subscript_ (binT ha hb I h fun v u s2 x y H2 I2 rx ry q => hr a b pins s2 σ H2 x y v u Q I2 rx ry q (hs _ _))
def rIxL (K : PySem.W.Frag) : R2 := fun x y H Q => ∃ p xs i v, x = .ref p ∧ y = .int i ∧ SqL K H p xs ∧ atI xs i = some v ∧ Q v H
def rIxT (K : PySem.W.Frag) : R2 := fun x y H Q => ∃ p xs i v, x = .ref p ∧ y = .int i ∧ SqT K H p xs ∧ atI xs i = some v ∧ Q v H
def rIxS : R2 := fun x y H Q => ∃ z i c, x = .str z ∧ y = .int i ∧ z.length ≤ sizeLine ∧ atI z.cps.toList i = some c ∧ Q (.str ⟨#[c]⟩) H
theorem ix_list : IxR X (rIxL X.K) := by
  intro value slice pins s σ H x y v u Q I rx ry h hs
  obtain ⟨p, xs, i, z, rfl, rfl, hq, he, q⟩ := h
  cases rx
  obtain ⟨t, rfl⟩ := ry
  obtain ⟨its, r, pl, hz⟩ := I.list hq
  obtain ⟨j, h1, h2, h3, h4, h5⟩ := atI_get he
  obtain ⟨w, ew, rw'⟩ := r.get h2
  have hl := r.length
  have hn := line63
  have fin : EP X pins σ Q w s := ⟨z, H, I, rw', q⟩
  by_cases h0 : 0 ≤ i
  · have hj : i.toNat = j := by
      rw [seqIndex_of h0 h5] at h1
      exact Option.some.inj h1
    exact item_listR pl.isList h0 (by omega) (by rw [hj]; simpa using ew) fin hs
  · have hj : (i + (its.toArray.size : Int)).toNat = j := by
      rw [seqIndex_neg (by omega) h4] at h1
      rw [List.size_toArray, ← hl]
      exact Option.some.inj h1
    exact subscriptTail_builtinR (x := w) pl.isList.typeIs slot_list_getitem.lookup
      (wpAny_getItem_list_neg (Q := fun r s' => r = w ∧ EP X pins σ Q r s') pl.isList (by omega) (by rw [List.size_toArray] <;> omega) (by omega) (by rw [hj]; simpa using ew) ⟨rfl, fin⟩) hs
theorem ix_tup : IxR X (rIxT X.K) := by
 intro value slice pins s σ H x y v u Q I rx ry h hs
 obtain ⟨p, xs, i, z, rfl, rfl, hq, he, q⟩ := h
 cases rx
 obtain ⟨t, rfl⟩ := ry
 obtain ⟨its, r, pl, hz⟩ := I.tuple hq
 obtain ⟨j, h1, h2, h3, h4, h5⟩ := atI_get he
 obtain ⟨w, ew, rw'⟩ := r.get h2
 have hl := r.length
 have hn := line63
 have fin : EP X pins σ Q w s := ⟨z, H, I, rw', q⟩
 exact subscriptTail_builtinR (x := w) pl.typeIs slot_tuple_getitem.lookup
  (getItem_tuple (j := j) (Q := fun r s' => r = w ∧ EP X pins σ Q r s') pl (by omega) (by omega) (by rw [List.size_toArray, ← hl]; exact h1) (by simpa using ew) ⟨rfl, fin⟩) hs
theorem ix_str : IxR X rIxS := by
 intro value slice pins s σ H x y v u Q I rx ry h hs
 obtain ⟨z, i, c, rfl, rfl, hz, he, q⟩ := h
 obtain ⟨t, rfl⟩ := rx
 obtain ⟨t', rfl⟩ := ry
 obtain ⟨j, h1, h2, h3, h4, h5⟩ := atI_get he
 have hl : z.cps.toList.length = z.length := by simp [Str.length]
 rw [hl] at h1 h4 h5
 have hn := line63
 exact tail_any (typeIs_str s z t) slot_str_getitem.lookup (getItem_str (c := c) (by
  have e1 : decide (i < -(2 ^ 63 : Int)) = false := decide_eq_false (by omega)
  have e2 : decide (i ≥ 2 ^ 63) = false := decide_eq_false (by omega)
  rw [e1, e2, Bool.or_false]) (by rw [h1]; simpa using h2) ⟨.str ⟨#[c]⟩, H, I.tok _, ⟨_, rfl⟩, q⟩) hs
def rIx (K : PySem.W.Frag) : R2 := fun x y H Q => rIxL K x y H Q ∨ rIxT K x y H Q ∨ rIxS x y H Q
theorem ix_seq : IxR X (rIx X.K) := ix_list.or (ix_tup.or ix_str)
theorem slice_bounds (lo hi : Option Int) (n : Nat) : (sliceBounds lo hi none n).1 = ((HT.sIx n 0 lo : Nat) : Int) ∧ (sliceBounds lo hi none n).2.1 = ((HT.sIx n n hi : Nat) : Int) ∧ (sliceBounds lo hi none n).2.2 = 1 := by
 refine ⟨?_, ?_, rfl⟩
 ·cases lo with
  | none => simp [sliceBounds, HT.sIx]
  | some i =>
   simp only [sliceBounds, HT.sIx, Option.getD_none, show (1 : Int) > 0 by decide, if_true]
   by_cases h : i < 0
   ·simp only [h, if_true] <;> omega
   ·simp only [h, if_false] <;> omega
 ·cases hi with
  | none => simp [sliceBounds, HT.sIx]
  | some i =>
   simp only [sliceBounds, HT.sIx, Option.getD_none, show (1 : Int) > 0 by decide, if_true]
   by_cases h : i < 0
   ·simp only [h, if_true] <;> omega
   ·simp only [h, if_false] <;> omega
theorem slicePick_cut (its : List Value) (lo hi : Option Int) : slicePick its.toArray lo hi none = ((its.drop (HT.sIx its.length 0 lo)).take (HT.sIx its.length its.length hi - HT.sIx its.length 0 lo)).toArray := by
 obtain ⟨h1, h2, h3⟩ := slice_bounds lo hi its.toArray.size
 unfold slicePick
 rw [h1, h2, h3]
 simp only [sliceRange_one, pick_run, List.size_toArray] <;> rfl
def rSlL (K : PySem.W.Frag) : V → Option Int → Option Int → Hp → VK → Prop := fun x lo hi H Q => ∃ a xs, x = .ref a ∧ SqL K H a xs ∧ ∀ p, H p = none → Q (.ref p) (upd H p (.lst (cutV xs lo hi)))
theorem sl_list : SlR X (rSlL X.K) := by
 intro pins s σ H x v vl vu lo hi sl Q I rx hs pl pu h
 obtain ⟨a, xs, rfl, hx, q⟩ := h
 cases rx
 obtain ⟨its, r, ht, hz⟩ := I.list hx
 have hlen := r.length
 refine ⟨"list", _, slot_list_getitem.lookup, ht.isList.typeIs, ?_⟩
 refine wpAny_getItem_list_slice ht.isList hs pl pu .none (by simp) ?_ (by rw [List.size_toArray] <;> omega)
 rw [slicePick_cut, ← hlen]
 refine ⟨.ref s.heap.objs.size, _, I.laid (t' := s.toks) (o := .lst (cutV xs lo hi)) (fun b ob q => Heap.get?_push_of_some _ q) (Nat.le_refl _) ?_, rfl, q _ (I.hok.fresh (Nat.le_refl _))⟩
 exact ⟨Nat.le_trans (cutV_length xs lo hi) hz, _, 0, (r.drop (HT.sIx xs.length 0 lo)).take (HT.sIx xs.length xs.length hi - HT.sIx xs.length 0 lo), Heap.get?_push_size _ rfl⟩
theorem call_len_seq : CallR X (.builtin "len") (fun xs H Q => ∃ p ys, xs = [.ref p] ∧ (SqL X.K H p ys ∨ SqT X.K H p ys) ∧ Q (.int ys.length) H) := by
 intro pins s σ H xs us Q I r h
 obtain ⟨p, ys, rfl, hq, q⟩ := h
 obtain ⟨u, rfl, rx⟩ := vals1 r
 cases rx
 have hn := line63
 rcases hq with hq | hq
 ·obtain ⟨its, r', pl, hz⟩ := I.list hq
  have hlen := r'.length
  exact Calls.call_len_list pl.isList (by simp only [List.size_toArray] <;> omega) ⟨.int ys.length, H, I.tok _, ⟨s.toks + 1, by rw [List.size_toArray, hlen]⟩, q⟩
 ·obtain ⟨its, r', pl, hz⟩ := I.tuple hq
  have hlen := r'.length
  exact len_tuple pl (by simp only [List.size_toArray] <;> omega) ⟨.int ys.length, H, I.tok _, ⟨s.toks + 1, by rw [List.size_toArray, hlen]⟩, q⟩
theorem call_len_str : CallR X (.builtin "len") (fun xs H Q => ∃ z, xs = [.str z] ∧ z.length ≤ sizeLine ∧ Q (.int z.length) H) := by
 intro pins s σ H xs us Q I r h
 obtain ⟨z, rfl, hz, q⟩ := h
 obtain ⟨u, rfl, t, rfl⟩ := vals1 r
 have hn := line63
 exact len_str (by omega) ⟨.int z.length, H, I.tok _, ⟨_, rfl⟩, q⟩
theorem call_list_of : CallR X (.type "list") (fun xs H Q => ∃ p ys, xs = [.ref p] ∧ (SqL X.K H p ys ∨ SqT X.K H p ys) ∧ ∀ l, H l = none → Q (.ref l) (upd H l (.lst ys))) := by
  intro pins s σ H xs us Q I r h
  obtain ⟨p, ys, rfl, hq, q⟩ := h
  obtain ⟨u, rfl, rx⟩ := vals1 r
  cases rx
  have fin : ∀ (its : List Value), Vals ys its → ys.length ≤ sizeLine → ∀ (h' : Heap) (c' : Nat), (∀ b o', s.heap.get? b = some o' → h'.get? b = some o') →
      h'.get? s.heap.objs.size = some { cls := .type "list", dict := none, data := .seq its.toArray c', slots := #[] } → EP X pins σ Q (.ref s.heap.objs.size) { s with heap := h' } := fun its r' hz h' c' kp e =>
    ⟨.ref s.heap.objs.size, _, I.laid (t' := s.toks) kp (Nat.le_refl _) (show ObjOk X.prog X.w _ h' _ (.lst ys) from ⟨hz, its, c', r', e⟩), rfl, q _ (I.hok.fresh (Nat.le_refl _))⟩
  rcases hq with hq | hq
  · obtain ⟨its, r', pl, hz⟩ := I.list hq
    have hlen := r'.length
    obtain ⟨o, ho, hc, n, hd⟩ := pl.isList
    exact call_list_seq p (.inl rfl) ho hc hd (fun h' c' kp e => fin its r' hz h' c' kp e) (by simp only [List.size_toArray] <;> omega)
  · obtain ⟨its, r', pl, hz⟩ := I.tuple hq
    have hlen := r'.length
    obtain ⟨o, ho, hc, n, hd⟩ := pl
    exact call_list_seq p (.inr rfl) ho hc hd (fun h' c' kp e => fin its r' hz h' c' kp e) (by simp only [List.size_toArray] <;> omega)
theorem call_tuple_of : CallR X (.type "tuple") (fun xs H Q => ∃ p ys, xs = [.ref p] ∧ ((SqL X.K H p ys ∧ ∀ l, H l = none → Q (.ref l) (upd H l (.tup ys))) ∨ (SqT X.K H p ys ∧ Q (.ref p) H))) := by
 intro pins s σ H xs us Q I r h
 obtain ⟨p, ys, rfl, h⟩ := h
 obtain ⟨u, rfl, rx⟩ := vals1 r
 cases rx
 rcases h with ⟨hq, q⟩ | ⟨hq, q⟩
 ·obtain ⟨its, r', pl, hz⟩ := I.list hq
  have hlen := r'.length
  refine call_tuple_list pl.isList (fun h' kp => ?_) (by simp only [List.size_toArray] <;> omega)
  have I1 : Inv X pins σ H { s with heap := h' } := I.kept (t' := s.toks) kp
  have I2 : Inv X pins σ (upd H h'.objs.size (.tup ys)) { s with heap := h'.push { cls := .type "tuple", data := .seq its.toArray } } :=
   I1.laid (t' := s.toks) (fun b o e => Heap.get?_push_of_some _ e) (Nat.le_refl _) (show ObjOk X.prog X.w _ _ _ (.tup ys) from ⟨hz, its, r', IsTup.new _ _⟩)
  exact ⟨.ref h'.objs.size, _, I2, rfl, q _ (I1.hok.fresh (Nat.le_refl _))⟩
 ·obtain ⟨its, r', pl, hz⟩ := I.tuple hq
  exact call_tuple_same pl ⟨.ref p, H, I, rfl, q⟩
def tyV (K : PySem.W.Frag) (T : String) (x : V) (H : Hp) : Prop := match x with
  | .str _ => T = "str"
  | .int _ => T = "int"
  | .ref p => (T = "list" ∧ ∃ xs, SqL K H p xs) ∨ (T = "tuple" ∧ ∃ o, K.lookup p = some o ∧ o.cls = .type "tuple" ∧ o.dict = none) ∨
      (T = "dict" ∧ ((∃ kvs, H p = some (.dK kvs)) ∨ ∃ kvs, H p = some (.dT kvs))) ∨ (T = "set" ∧ ∃ S n, H p = some (.set S n))
  | _ => False
theorem tyV_is {pins : List (Addr × Obj)} {σ : St} {H : Hp} {s : Shared} {T : String} {x : V} {v : Value} (I : Inv X pins σ H s) (r : RelV x v) (ty : tyV X.K T x H) :
    s.TypeIs v T ∧ ∀ a, v = .ref a → ∃ ob, s.heap.get? a = some ob ∧ ob.dict = none := by
  cases x with
  | str z =>
    obtain ⟨t, rfl⟩ := r
    cases (show T = "str" from ty)
    exact ⟨typeIs_str s z t, fun _ e => nomatch e⟩
  | int i =>
    obtain ⟨t, rfl⟩ := r
    cases (show T = "int" from ty)
    exact ⟨typeIs_int s i t, fun _ e => nomatch e⟩
  | ref p =>
    cases r
    rcases ty with ⟨rfl, xs, hq⟩ | ⟨rfl, o, hk, hc, hd⟩ | ⟨rfl, hk⟩ | ⟨rfl, S, n, hk⟩
    · obtain ⟨its, _, pl, _⟩ := I.list hq
      refine ⟨pl.isList.typeIs, fun a e => ?_⟩
      cases e
      obtain ⟨o, n, e, c, hd, _⟩ := pl
      exact ⟨o, e, hd⟩
    · refine ⟨⟨o, I.kIn p o hk, hc⟩, fun a e => ?_⟩
      cases e
      exact ⟨o, I.kIn _ o hk, hd⟩
    · have z : ∃ o, s.heap.get? p = some o ∧ o.ExactDict := by
        rcases hk with ⟨kvs, hk⟩ | ⟨kvs, hk⟩
        · obtain ⟨_, _, _, _, o, _, _, e, ex, _⟩ := I.hok p _ hk
          exact ⟨o, e, ex⟩
        · obtain ⟨_, _, _, _, o, _, _, e, ex, _⟩ := I.hok p _ hk
          exact ⟨o, e, ex⟩
      obtain ⟨o, e, ex⟩ := z
      refine ⟨⟨o, e, ex.1⟩, fun a e2 => ?_⟩
      cases e2
      exact ⟨o, e, ex.2.1⟩
    · obtain ⟨o, _, _, _, e, ex, _⟩ := I.hok p _ hk
      refine ⟨⟨o, e, ex.1⟩, fun a e2 => ?_⟩
      cases e2
      exact ⟨o, e, ex.2.1⟩
  | _ => exact False.elim ty
def tBM (K : PySem.W.Frag) (T : String) (r : V → List V → Hp → VK → Prop) (to : TE) (t : TA) : TE := fun σ H Q => to σ H fun x H1 => tyV K T x H1 ∧ t σ H1 fun xs H2 => r x xs H2 Q
variable {o e : Expr} {es : List Expr} {to : TE} {t : TA} {name : Str} {apos cpos : Pos} {T id : String} {r : V → List V → Hp → VK → Prop}
theorem pe_bm (pa : PlainAttrs T) (slot : Slot T name id) (hty : typeOf (.builtin id) = pure (.type "method_descriptor")) (hm : MtR X id r) (ho : PE X o to) (ha : PA X (e :: es) t)
  (hbase : attributeBase o name X.env (eval o X.env) = eval o X.env := by rfl)
  (hfew : ((backTo cpos (starEach (e :: es) X.env)).all (fun x => !x.1) && (backToKw cpos (keywordEach [] X.env)).all (fun x => x.1.isSome)
   && decide ((e :: es).length + ([] : List Keyword).length + (if ([] : List Keyword).isEmpty then 0 else 1) < 30)) = true := by rfl)
  (hline : (apos.endLine == cpos.line) = true := by rfl) (hs : starEach (e :: es) X.env = (false, eval e X.env) :: starEach es X.env := by rfl) (hplain : (backTo cpos (starEach es X.env)).any (·.1) = false := by rfl) :
  PE X (.Call (.Attribute o name apos) (e :: es) [] cpos) (tBM X.K T r to t) := by
 intro pins s σ H Q I h
 refine wpAny_Call_method_late hbase hfew hline rfl (thn (ho pins s σ H _ I h) fun v s1 ⟨x, H1, I1, r1, ty, q1⟩ => ?_)
 obtain ⟨h1, h2⟩ := tyV_is I1 r1 ty
 refine ⟨T, id, pa, slot, hty, h1, h2, ?_⟩
 have hA := ha cpos pins s1 σ H1 _ I1 q1
 rw [hs] at hA ⊢
 refine Calls.callWith_builtin (by show (false || (backTo cpos (starEach es X.env)).any (·.1)) = false; rw [hplain] <;> rfl) (Calls.evalArgs_plain ?_)
 exact thn hA fun us s2 ⟨vs, H2, I2, r2, q2⟩ => hm pins s2 σ H2 x vs v us Q I2 r1 r2 q2
/- xs.append(e), list.index on a module's tuple .. are MtR facts of 06m -/
end
end L2
namespace L2
open PySem PySem.Spec PyProof.Rows
def MtM (X : Cx) (id : String) (r : V → List V → Hp → VK → Prop) : Prop :=
 ∀ (pins : List (Addr × Obj)) (s : Shared) (σ : St) (H : Hp) (x : V) (xs : List V) (v : Value) (us : List Value) (Q : VK), Inv X pins σ H s → RelV x v → Vals xs us → r x xs H Q →
  wpAny (model X.prog X.w) X.A (call (.builtin id) (v :: us)) (EP X pins σ Q) X.xe s
theorem Vals.one : ∀ {x : V} {us : List Value}, Vals [x] us → ∃ u, us = [u] ∧ RelV x u
 | _, _, .cons r .nil => ⟨_, rfl, r⟩
theorem Vals.two : ∀ {x y : V} {us : List Value}, Vals [x, y] us → ∃ u v, us = [u, v] ∧ RelV x u ∧ RelV y v
 | _, _, _, .cons r (.cons q .nil) => ⟨_, _, rfl, r, q⟩
section
variable {X : Cx} {pins : List (Addr × Obj)} {σ : St} {H : Hp} {s : Shared} {l b : Addr} {xs ys zs : List V}
theorem Inv.lset {its its' : List Value} {n : Nat} {f : Array Value → Array Value} {t' : Nat} (I : Inv X pins σ H s) (hH : H l = some (.lst xs))
  (e : s.heap.get? l = some { cls := .type "list", data := .seq its.toArray n }) (hf : f its.toArray = its'.toArray) (hv : Vals ys its') (hz : ys.length ≤ sizeLine) :
  Inv X pins σ (upd H l (.lst ys)) { s with heap := s.heap.update l (Obj.mapSeq f), toks := t' } := by
 have q := PySem.IsL.update e f
 rw [hf] at q
 refine I.write (x := l) (e := l) (by rw [hH]; exact trivial) (.inl rfl) (fun b' u hb hu => (Heap.get?_update_other s.heap (Obj.mapSeq f) (Ne.symm hb)).trans hu) ⟨_, q⟩ ?_
 exact ⟨hz, its', _, hv, q⟩
theorem Inv.lnew {its : List Value} {t' : Nat} (I : Inv X pins σ H s) (hv : Vals ys its) (hz : ys.length ≤ sizeLine) :
  Inv X pins σ (upd H s.heap.objs.size (.lst ys)) { s with heap := s.heap.push { cls := .type "list", data := .seq its.toArray }, toks := t' } :=
 I.laid (fun _ _ q => Heap.get?_push_of_some _ q) (Nat.le_refl _) ⟨hz, its, 0, hv, Heap.get?_push_size _ rfl⟩
theorem Inv.fresh (I : Inv X pins σ H s) : H s.heap.objs.size = none := I.hok.fresh (Nat.le_refl _)
theorem Inv.lstM (I : Inv X pins σ H s) (hH : H l = some (.lst xs)) : xs.length ≤ sizeLine ∧ ∃ (its : List Value) (n : Nat), Vals xs its ∧ xs.length = its.length ∧ s.heap.get? l = some { cls := .type "list", data := .seq its.toArray n } := by
 obtain ⟨z, its, n, r, e⟩ := I.hok l _ hH
 exact ⟨z, its, n, r, r.length, e⟩
end
section
variable {X : Cx}
def rAppend : V → List V → Hp → VK → Prop := fun x vs H Q => ∃ l xs y, x = .ref l ∧ vs = [y] ∧ H l = some (.lst xs) ∧ xs.length < sizeLine ∧ Q .non (upd H l (.lst (xs ++ [y])))
theorem mt_append : MtM X "list.append" rAppend := by
 intro pins s σ H x vs v us Q I rx rv h
 obtain ⟨l, xs, y, rfl, rfl, hH, hz, q⟩ := h
 cases rx
 obtain ⟨u, rfl, ru⟩ := rv.one
 obtain ⟨z, its, n, r, hl, e⟩ := I.lstM hH
 refine call_meets F.slot_list_append ⟨_, e, rfl⟩ F.entry_list_append (F.args_list_append_2 _ _) (PySem.list_append l its.toArray n u (by rw [List.size_toArray]; omega)) ⟨e, ?_⟩
 refine ⟨.non, _, I.lset (its' := its ++ [u]) hH e (by simp) (r.append (.cons ru .nil)) ?_, rfl, q⟩
 rw [List.length_append, List.length_singleton]
 omega
def rCat : R2 := fun x y H Q => ∃ l b xs zs, x = .ref l ∧ y = .ref b ∧ H l = some (.lst xs) ∧ H b = some (.lst zs) ∧ xs.length + zs.length ≤ sizeLine ∧ ∀ p, H p = none → Q (.ref p) (upd H p (.lst (xs ++ zs)))
theorem op_cat : OpR X (binaryOp .Add) rCat := by
 intro pins s σ H x y v u Q I rx ry h
 obtain ⟨l, b, xs, zs, rfl, rfl, hH, hB, hz, q⟩ := h
 cases rx
 cases ry
 obtain ⟨z, its, n, r, hl, e⟩ := I.lstM hH
 obtain ⟨z2, its2, n2, r2, hl2, e2⟩ := I.lstM hB
 refine PySem.P.add_list e e2 ?_ (by rw [List.size_toArray, List.size_toArray]; omega)
 have ea : its.toArray ++ its2.toArray = (its ++ its2).toArray := by simp
 rw [ea]
 exact ⟨.ref _, _, I.lnew (t' := s.toks) (r.append r2) (by rw [List.length_append]; omega), rfl, q _ I.fresh⟩
end
section
variable {prog : Program} {w : World} {A : Around} {E : Value → Shared → Prop} {s : Shared}
set_option maxRecDepth 100000 in
end
section
variable {X : Cx}
end
end L2
namespace Att
open PySem PySem.W PySem.Calls PyProof.Rows
theorem ints_of_wellAll {P : Params} {h : Heap} : ∀ (ns : List Int) (vs : List Value), WellAll P h vs (ns.map WData.int) → IntsAre vs ns := by
 intro ns
 induction ns with
 | nil =>
  intro vs w
  rw [List.map_nil] at w
  cases w
  exact .nil
 | cons n ns ih =>
  intro vs w
  rw [List.map_cons] at w
  cases w with
  | cons a b =>
   cases a
   exact .cons _ _ (ih _ b)
theorem script_of {l : OpenLaw} {n : Nat} (hn : l.most = some n) {P : Params} {h : Heap} {args : List WData} {vals : List Value}
  (hpre : l.row.toRowW.claim.pre args = true) (hwl : WellAll P h vals args) :
  ∃ a vs ns, vals = [Value.ref a] ∧ args = [WData.list (ns.map WData.int)] ∧ h.get? a = some { cls := .type "list", data := .seq vs.toArray } ∧ IntsAre vs ns ∧ ns.length ≤ n := by
 have hsh : WShape.hasAll [] args [.list .int] = true := (pre_splitW hpre).1
 have hc : l.pre.holds [] { args := args } = true := (pre_splitW hpre).2
 obtain ⟨d, r, rfl, h1, h2⟩ := hasAllW_cons hsh
 obtain rfl := hasAllW_nil h2
 obtain ⟨xs, rfl, h3⟩ := hasW_list h1
 obtain ⟨ns, rfl⟩ := items_int h3
 have hlen : ns.length ≤ n := by
  unfold OpenLaw.pre at hc
  have h4 : (WTm.not (.lt (.lit (.int (n : Int))) (.len (.arg 0)))).holds [] { args := [.list (ns.map .int)] } = true := by
   have h4 := (holds_andW hc).1
   rw [hn] at h4
   exact h4
  have h5 := condW_of h4 (w_not (w_lt w_lit (w_len_list (w_arg rfl))))
  rw [List.length_map] at h5
  refine Nat.le_of_not_lt fun q => ?_
  have q' : (n : Int) < ((ns.length : Nat) : Int) := by omega
  first
   | (rw [decide_eq_true q'] at h5; exact absurd h5 (by decide))
   | (simp at h5; omega)
 cases hwl with
 | cons w1 w2 =>
  cases w2
  cases w1 with
  | list ho hall => exact ⟨_, _, ns, rfl, rfl, ho, ints_of_wellAll ns _ hall, hlen⟩
theorem post_true (l : OpenLaw) (args : List WData) : l.row.toRowW.claim.post args (.bool true) args = true :=
 postW_of (r := l.row.toRowW) (X := (true == true))
  (show WShape.has [] (.bool true) .bool = true by first | rfl | decide | simp [WShape.has, WShape.arms, WShape.armsAll])
  (show (WTm.eq .res (.lit (.bool true))).value [] { args := args, res := some (.bool true), after := args } = some (.bool (true == true)) from w_eq_bool (w_res rfl) w_lit) rfl
theorem attach_call {l : OpenLaw} {n : Nat} {q : Program} {loose : List Str} {XP : (Str → Option Value) → Heap → Prop} {YP : World → Heap → Prop} {d : DefRec}
  (hn : l.most = some n) (hdf : d.params.defaults = [])
  (call : ∀ (w : World) (s₀ s₁ : Shared) (mg mb : Str → Option Value) (fa : Addr) (o : Obj) (pm cd doc : Value) (a : Addr) (vs : List Value) (ns : List Int),
   Ground q loose [] XP w s₀ mg mb s₁.heap → YP w s₁.heap →
   s₁.heap.get? fa = some o → o.data = .func (docDef d.name d.params d.body d.scope pm cd doc) → s₁.heap.CodeRec cd d.name → mg d.name = some (.ref fa) →
   s₁.heap.get? a = some { cls := .type "list", data := .seq vs.toArray } → IntsAre vs ns → ns.length ≤ n → s₁.gens = #[] →
   codeAny (model l.prog w) callerA (.call (.ref fa) ⟨[.ref a], []⟩) (fun r s' => r = .ok (.ret (.bool true)) ∧ OldK s₁.heap s'.heap ∧ s'.os = s₁.os ∧ AllBare s'.gens) s₁) :
  WalkO q loose XP YP l.row.toRowW d [] (fun f vs => PySem.call f vs) := by
 intro w s₀ s₁ mg mb G Y fa o pm cd doc dV kV ho hd hcd hD hmg hg args vals as hpre hlay hrd hwl hlo
 obtain rfl : dV = .none := Dflts.none hD hdf
 obtain rfl : kV = .none := Dflts.noKw hD
 obtain ⟨a, vs, ns, rfl, rfl, hobj, hints, hlen⟩ := script_of hn hpre hwl
 refine enter_call (codeAny_mono (call w s₀ s₁ mg mb fa o pm cd doc a vs ns G Y ho (fd_plain hd) hcd hmg hobj hints hlen hg) fun r s' hq => ?_)
 obtain ⟨rfl, h2, h3, h4⟩ := hq
 exact ⟨.inl ⟨.bool true, .bool true, [], rfl, fun _ => rfl, .bool true, post_true l _, fun _ => ⟨List.Pairwise.nil, fun _ hm => (nomatch hm)⟩⟩, h2, h3, h4⟩
section
variable {prog : Program} {w : World} {A : Around} {E : Value → Shared → Prop} {s : Shared} {K : Frag}
def ledger (h : Heap) (L d : Addr) : List (Addr × Obj) := (List.range h.objs.size).filterMap fun a => if a = L ∨ a = d then none else (h.get? a).map fun o => (a, o)
end
end Att
namespace L2
open PySem PySem.Spec PyProof.Rows
theorem vals_ints : ∀ {vs : List Value} {ns : List Int}, IntsAre vs ns → Vals (ns.map V.int) vs
 | _, _, .nil => .nil
 | _, _, .cons n t h => .cons ⟨t, rfl⟩ (vals_ints h)
def Only (H : Hp) : Prop := ∀ b, H b = none ∨ ∃ o xs, H b = some (.frz o (.lst xs))
theorem law_call {P : Program} {w : World} {K : PySem.W.Frag} {mg mb : Str → Option Value} {CX : CXT} {k : Nat} {fa a : Addr} {fd : FuncData} {x : Str} {sp : Sp} {s₁ : Shared} {vs : List Value} {ns : List Int}
    (KX : K.In s₁.heap) (hns : s₁.heap.Ns mainGlobals mg) (hb : s₁.heap.Ns builtinsNs mb) (hbb : ∀ x : Str, x ≠ "__name__" → mb x = bootBuiltins x) (hlim : s₁.heap.NoLimit) (hg : s₁.gens = #[])
    (ha : s₁.heap.get? a = some { cls := .type "list", data := .seq vs.toArray }) (hi : IntsAre vs ns) (hl : ns.length ≤ sizeLine) (hr : Room k callerA)
    (F : ∀ base : Heap, K.In base → base.Ns mainGlobals mg → FnOk P w K mg base CX k fa fd [x] sp) (hbind : ∀ (s : Shared) (u : Value), BindsTo s fd ⟨[u], []⟩ [(x, u)])
    (hsp : ∀ H : Hp, Only H → SqL K H a (ns.map V.int) → sp [.ref a] H (fun v _ => v = .bl true) fun _ _ _ => False)
    (hCX : ∀ H e s', CX [] H s₁ (fun _ _ _ => False) e s' → False) :
    codeAny (model P w) callerA (.call (.ref fa) ⟨[.ref a], []⟩) (fun r s' => r = .ok (.ret (.bool true)) ∧ OldK s₁.heap s'.heap ∧ s'.os = s₁.os ∧ AllBare s'.gens) s₁ := by
  have rv := vals_ints hi
  have lenV := hi.length
  -- from an abstract heap in which nothing but the script may be tracked
  have core : ∀ H : Hp, Only H → SqL K H a (ns.map V.int) → HOk P w H s₁.heap → (∀ b, H b ≠ none → b = a) → (H a ≠ none → K.lookup a = none) →
      codeAny (model P w) callerA (.call (.ref fa) ⟨[.ref a], []⟩) (fun r s' => r = .ok (.ret (.bool true)) ∧ OldK s₁.heap s'.heap ∧ s'.os = s₁.os ∧ AllBare s'.gens) s₁ := by
    intro H hO hS hok hA hK
    have base_of : ∀ {b : Addr} {o : Obj}, s₁.heap.get? b = some o → H b = none → (hidT s₁.heap H).get? b = some o := fun e n => hidT_get e n
    have noA : ∀ {b : Addr} {o : Obj} {es : Array DictEntry} {ep : Nat}, s₁.heap.get? b = some o → o.data = .dict es ep → H b = none := fun {b o es ep} e d => by
      cases q : H b with
      | none => rfl
      | some u =>
        have e' : b = a := hA b (by rw [q]; simp)
        subst e'
        rw [ha] at e; cases e
        have d' : Data.seq vs.toArray _ = Data.dict es ep := d
        cases d'
    have nsK : ∀ {b : Addr} {m : Str → Option Value}, s₁.heap.Ns b m → (hidT s₁.heap H).Ns b m := fun {b m} ⟨o, es, ep, e, d, r⟩ => ⟨o, es, ep, base_of e (noA e d), d, r⟩
    have hKb : K.In (hidT s₁.heap H) := fun b o e => base_of (KX b o e) (by
      cases q : H b with
      | none => rfl
      | some u =>
        have e' : b = a := hA b (by rw [q]; simp)
        subst e'
        rw [hK (by rw [q]; simp)] at e; cases e)
    have hM : Mod K mg (hidT s₁.heap H) := ⟨hKb, nsK hns, ⟨mb, nsK hb, hbb⟩, let ⟨mc, h1, h2⟩ := hlim; ⟨mc, nsK h1, h2⟩⟩
    have e0 : Env0 P w K mg (hidT s₁.heap H) callerA [] s₁ H := ⟨rfl, hM, fun b o e => of_hidT e, Nat.le_of_eq (hidT_size _ _), trivial, fun b hb => absurd (show b ∈ ([] : List Addr) from hb) (by simp), hok, .of_eq hg⟩
    refine codeAny_mono ((F _ hKb (nsK hns)).run callerA [] s₁ H ⟨[.ref a], []⟩ [.ref a] [.ref a] _ _ hr e0 (hbind s₁ (.ref a)) (.cons rfl .nil) (hsp H hO hS)) fun r s' h => ?_
    cases r with
    | error e => exact (hCX H e s' h).elim
    | ok fl =>
      cases fl with
      | next => exact False.elim h
      | brk => exact False.elim h
      | cont => exact False.elim h
      | ret u =>
        obtain ⟨v, H', os, bare, un, hok', r', q⟩ := h
        have q' : v = .bl true := q
        subst q'
        obtain rfl : u = Value.bool true := r'
        refine ⟨rfl, OldK.of_keep fun b o e => ?_, os, bare⟩
        cases q : H b with
        | none => exact un.keep b o e q (by intro z; exact absurd (show b ∈ ([] : List Addr) from z) (by simp)) (by simp)
        | some u =>
          rcases hO b with z | ⟨ob, xs, z⟩
          · rw [q] at z; cases z
          · have z2 := un.frzs b ob _ z
            obtain ⟨e1, _⟩ := hok b _ z
            obtain ⟨e2, _⟩ := hok' b _ z2
            rw [e] at e1; cases e1
            exact e2
  cases hk : K.lookup a with
  | some o =>
    -- the script is one of the module's own objects
    have e := KX a o hk
    rw [ha] at e
    cases e
    refine core (fun _ => none) (fun _ => .inl rfl) (.inr ⟨_, vs.toArray, _, hk, rfl, rfl, rfl, by rw [List.size_toArray, lenV]; exact hl, by simpa using rv⟩) (fun b u z => by have z' : (none : Option HO) = some u := z; cases z') (fun b z => absurd rfl z) fun z => absurd rfl z
  | none =>
    refine core (fun b => if b = a then some (.frz { cls := .type "list", data := .seq vs.toArray } (.lst (ns.map V.int))) else none) (fun b => ?_) (.inl (.inr ⟨{ cls := .type "list", data := .seq vs.toArray }, if_pos rfl⟩)) (fun b u z => ?_) (fun b z => ?_) fun _ => hk
    · by_cases hb : b = a
      · exact .inr ⟨_, _, if_pos hb⟩
      · exact .inl (if_neg hb)
    · by_cases hb : b = a
      · have z' := (if_pos hb).symm.trans z
        cases z'
        subst hb
        exact ⟨ha, by rw [List.length_map]; exact hl, vs, _, rv, ha⟩
      · have z' := (if_neg hb).symm.trans z
        cases z'
    · by_cases hb : b = a
      · exact hb
      · exact absurd (if_neg hb) z
end L2
namespace L2
open PySem PySem.Spec PyProof.Rows
abbrev KOf {K : PySem.W.Frag} {h : Heap} (_ : K.In h) : PySem.W.Frag := K
theorem walk_of {l : PySem.W.OpenLaw} {n k : Nat} {q : Program} {loose : List Str} {XP : (Str → Option Value) → Heap → Prop} {YP : World → Heap → Prop} {d : DefRec} {K : Params → PySem.W.Frag} {CX : World → CXT} {sp : World → Sp} {x : Str}
  (hn : l.most = some n) (hn2 : n ≤ sizeLine) (hdf : d.params.defaults = []) (hr : Room k callerA)
  (hY : ∀ (w : World) (h : Heap), YP w h → (K w.params).In h)
  (F : ∀ (w : World) (mg : Str → Option Value) (fa : Addr) (h : Heap), (K w.params).In h → h.Ns mainGlobals mg → mg d.name = some (.ref fa) →
   ∃ fd : FuncData, (∀ (s : Shared) (u : Value), BindsTo s fd ⟨[u], []⟩ [(x, u)]) ∧
    ∀ base : Heap, (K w.params).In base → base.Ns mainGlobals mg → FnOk l.prog w (K w.params) mg base (CX w) k fa fd [x] (sp w))
  (hsp : ∀ (w : World) (H : Hp) (a : Addr) (ns : List Int), ns.length ≤ n → Only H → SqL (K w.params) H a (ns.map V.int) → sp w [.ref a] H (fun v _ => v = .bl true) fun _ _ _ => False)
  (hCX : ∀ (w : World) (H : Hp) (s : Shared) (e : Value) (s' : Shared), CX w [] H s (fun _ _ _ => False) e s' → False) :
  PySem.W.WalkO q loose XP YP l.row.toRowW d [] (fun f vs => PySem.call f vs) := by
 refine Att.attach_call hn hdf fun w s₀ s₁ mg mb fa o pm cd doc a vs ns G Y ho hd hcd hmg hobj hints hlen hg => ?_
 have KX := hY w _ Y
 obtain ⟨fd, hb, hF⟩ := F w mg fa _ KX G.T.g hmg
 exact law_call KX G.T.g G.T.b G.T.builtins G.T.nolimit hg hobj hints (Nat.le_trans hlen hn2) hr hF hb (fun H hO hS => hsp w H a ns hlen hO hS) fun H e s' => hCX w H s₁ e s'
theorem walk_ofK {l : PySem.W.OpenLaw} {n k : Nat} {q : Program} {loose : List Str} {XP : (Str → Option Value) → Heap → Prop} {YP : World → Heap → Prop} {d : DefRec} {K : Params → PySem.W.Frag} {CX : CXT} {sp : PySem.W.Frag → Sp} {x : Str}
  (hn : l.most = some n) (hn2 : n ≤ sizeLine) (hdf : d.params.defaults = []) (hr : Room k callerA)
  (hY : ∀ (w : World) (h : Heap), YP w h → (K w.params).In h)
  (F : ∀ (w : World) (mg : Str → Option Value) (fa : Addr) (h : Heap), (K w.params).In h → h.Ns mainGlobals mg → mg d.name = some (.ref fa) →
   ∃ fd : FuncData, (∀ (s : Shared) (u : Value), BindsTo s fd ⟨[u], []⟩ [(x, u)]) ∧
    ∀ base : Heap, (K w.params).In base → base.Ns mainGlobals mg → FnOk l.prog w (K w.params) mg base CX k fa fd [x] (sp (K w.params)))
  (hsp : ∀ (K : PySem.W.Frag) (H : Hp) (a : Addr) (ns : List Int), ns.length ≤ n → Only H → SqL K H a (ns.map V.int) → sp K [.ref a] H (fun v _ => v = .bl true) fun _ _ _ => False)
  (hCX : ∀ (H : Hp) (s : Shared) (e : Value) (s' : Shared), CX [] H s (fun _ _ _ => False) e s' → False) :
  PySem.W.WalkO q loose XP YP l.row.toRowW d [] (fun f vs => PySem.call f vs) :=
 walk_of (K := K) (CX := fun _ => CX) (sp := fun w => sp (K w.params)) hn hn2 hdf hr hY F (fun w H a ns h1 h2 h3 => hsp (K w.params) H a ns h1 h2 h3) fun _ H s e s' => hCX H s e s'
end L2
/- THE LAST THEOREM (shape; LID, My.* are yours):
   My.Adr: a structure of the addresses that your layer names (classes, functions); My.Txt K t: a structure (Prop) of the equations over K;
   My.txt_mk : {K} {implicit addresses ..} (e1 : nsIn K mainGlobals "law" = some (some (.ref f))) (e2 : K.lookup f = some ⟨oc, od, .func (fnOf "law" "law" params body scope dV kV doc pm an cdv ct), sl⟩) (e3 : codeIn K cdv "law" = true) .. : ∃ t, My.Txt K t
set_option maxRecDepth 100000 in
set_option maxHeartbeats 0 in
theorem PySem.Challenge.cw_LID_holds : PySem.Challenge.rw_LID.Holds := by
 w_on; o_law; k_head; (case hw => w_witness2)
 k_fill
 refine L2.walk_of (l := PySem.Challenge.rw_LID) (n := 63) (k := 40) (x := "script") (CX := fun w => ..) (sp := fun _ => My.sp_law) rfl (by decide) rfl ⟨rfl, by decide, by decide⟩ (fun w h Y => PySem.W.kIn_of Y) ?F ?S ?C
 case F =>
  intro w mg fa h KX G hmg
  have T : ∃ t, My.Txt (L2.KOf KX) t := by
   dsimp only [L2.KOf]                          -- K must stand as «<heap const> w.params» for k_is
   refine' My.txt_mk ?e1 ?e2 ?e3 ..
   (case e1 => PySem.W.k_is)                    -- in the order: a name -> its address -> its object -> its parts
   (case e2 => PySem.W.k_is)
   ..
  obtain ⟨t, T⟩ := T
  have e0 := hmg.symm.trans (PySem.W.mg_of KX G T.law)
  cases e0                                       -- fa is the law's own address
  exact ⟨_, fun s u => .of_eq rfl, fun base kb nb => My.law_fn T kb nb⟩     -- if «.of_eq rfl» comes too early: refine' ⟨_, ?b, fun base kb nb => My.law_fn T kb nb⟩; exact fun s u => .of_eq rfl
 case S => exact fun w H a ns hl hO hS => ..
 case C => exact ..
(the tactic k_is has no namespace: write k_is) -/
namespace L2
open PySem PySem.Spec PyProof.Rows
def inClass (s : Stmt) (j : Nat) : Stmt := match s with
 | .ClassDef _ _ _ body _ _ _ _ _ _ _ => body.getD j (.Pass ⟨0, 0, 0, 0⟩)
 | _ => .Pass ⟨0, 0, 0, 0⟩
def defArgs (s : Stmt) : Arguments := match s with
 | .FunctionDef _ a _ _ _ _ _ _ _ _ => a
 | _ => { posonlyargs := [], args := [], vararg := none, kwonlyargs := [], kw_defaults := [], kwarg := none, defaults := [] }
def defBody (s : Stmt) : List Stmt := match s with
 | .FunctionDef _ _ b _ _ _ _ _ _ _ => b
 | _ => []
def defScope (s : Stmt) : Scope := match s with
 | .FunctionDef _ _ _ _ _ _ sc _ _ _ => sc
 | _ => { kind := .function, names := [], isGenerator := false, isCoroutine := false }
abbrev CX0 : CXT := fun _ _ _ _ _ _ => False
abbrev E0 : XK := fun _ _ _ => False
theorem pass0 {X : Cx} : Passes CX0 X E0 := fun _ _ _ _ _ _ _ h => h.elim
structure Fun (K : PySem.W.Frag) (x qual : Str) (st : Stmt) (f : Addr) (fd : FuncData) : Prop where
 ex : ∃ (oc : Value) (od : Option Addr) (kV doc pm : Value) (an : Option Addr) (cdv ct : Value) (osl : Array (Option Value)),
  fd = PySem.W.fnOf x qual (defArgs st) (defBody st) (defScope st) .none kV doc pm an cdv ct ∧ K.lookup f = some ⟨oc, od, .func fd, osl⟩ ∧ PySem.W.codeIn K cdv qual = true
 kp : PySem.W.keepIn K (.ref f) = true
section
variable {P : Program} {w : World} {K : PySem.W.Frag} {mg : Str → Option Value} {base : Heap}
theorem Fun.ok {x qual : Str} {st : Stmt} {f : Addr} {fd : FuncData} {N ps : List Str} {k : Nat} {sp : Sp} (F : Fun K x qual st f fd) (S : FnScope N ps (defScope st)) (len : ∀ vs H Q E, sp vs H Q E → vs.length = ps.length)
  (hbody : ∀ (cdv : Value) (A : Around) (outer : List Env) (s : Shared) (H : Hp) (vs : List V) (Q : VK) (E : XK), Room k (A.deeper (envOfC qual (defScope st) s.heap.objs.size f cdv)) → sp vs H Q E →
   ∃ t, PSs (cxOf CX0 P w K mg base N qual (defScope st) f cdv A outer s H E).nox (defBody st) t ∧ t { nx := fun _ H' => Q .non H', rt := Q } (start N vs) H) : FnOk P w K mg base CX0 (k + 1) f fd ps sp := by
 obtain ⟨oc, od, kV, doc, pm, an, cdv, ct, osl, rfl, lk, hcd⟩ := F.ex
 refine fn_of lk hcd S len fun A outer s H vs Q E hr hsp => ?_
 obtain ⟨t, h, q⟩ := hbody cdv A outer s H vs Q E hr hsp
 exact ⟨t, h.nox, q⟩
theorem Fun.binds {x qual : Str} {st : Stmt} {f : Addr} {fd : FuncData} {ps : List Str} (F : Fun K x qual st f fd)
  (h : ∀ (kV doc pm : Value) (an : Option Addr) (cdv ct : Value) (us : List Value), us.length = ps.length → bindArgs (PySem.W.fnOf x qual (defArgs st) (defBody st) (defScope st) .none kV doc pm an cdv ct) ⟨us, []⟩ = pure (ps.zip us)) : Binds K fd ps [] := by
 obtain ⟨oc, od, kV, doc, pm, an, cdv, ct, osl, rfl, lk, hcd⟩ := F.ex
 exact .all (h kV doc pm an cdv ct)
theorem fun_mk {x qual : Str} {st : Stmt} {f : Addr} {oc : Value} {od an : Option Addr} {osl : Array (Option Value)} {kV doc pm cdv ct : Value} (l : K.lookup f = some ⟨oc, od, .func (PySem.W.fnOf x qual (defArgs st) (defBody st) (defScope st) .none kV doc pm an cdv ct), osl⟩)
  (c : PySem.W.codeIn K cdv qual = true) (k : PySem.W.keepIn K (.ref f) = true) : Fun K x qual st f (PySem.W.fnOf x qual (defArgs st) (defBody st) (defScope st) .none kV doc pm an cdv ct) := ⟨⟨oc, od, kV, doc, pm, an, cdv, ct, osl, rfl, l, c⟩, k⟩
end
theorem small1000 {n : Nat} (h : n ≤ 1000) : n < sizeLine := Nat.lt_of_le_of_lt h (by decide)
section
variable {X : Cx}
theorem pv (i : Nat) {x : Str} {pos : Pos} (hN : X.N[i]? = some x := by rfl) (hv : Vis X.env.scope x := by first | exact Or.inl rfl | exact Or.inr (Or.inl rfl) | exact Or.inr (Or.inr rfl)) (hd : (x == ("__debug__" : Str)) = false := by decide)
  (hcd : (x == ("__classdict__" : Str)) = false := by decide) : PE X (.Name x pos) (tVar i) := pe_var hN hv hd hcd
end
theorem iteF {A B : Prop} (h : B) : if false = true then A else B := by
 rw [if_neg Bool.false_ne_true]
 exact h
theorem iteT {A B : Prop} (h : A) : if true = true then A else B := by
 rw [if_pos rfl]
 exact h
theorem ite2 {c A B : Prop} [Decidable c] (h1 : c → A) (h2 : ¬ c → B) : if c then A else B := by
 by_cases h : c
 ·rw [if_pos h]
  exact h1 h
 ·rw [if_neg h]
  exact h2 h
def Same (H H' : Hp) : Prop := ∀ b o, H b = some o → H' b = some o
theorem Same.refl (H : Hp) : Same H H := fun _ _ h => h
theorem Same.trans {H H1 H2 : Hp} (a : Same H H1) (b : Same H1 H2) : Same H H2 := fun c o h => b c o (a c o h)
theorem Same.seq {K : PySem.W.Frag} {H H' : Hp} {a : Addr} {xs : List V} (e : Same H H') (h : SqL K H a xs) : SqL K H' a xs := by
 rcases h with (h | ⟨o, h⟩) | h
 ·exact .inl (.inl (e _ _ h))
 ·exact .inl (.inr ⟨o, e _ _ h⟩)
 ·exact .inr h
end L2
set_option Elab.async false
set_option maxRecDepth 100000
namespace L2
open PySem PySem.Spec PyProof.Rows
def closOf (cells : List (Str × Addr)) : List (Str × NameKind) → List (Str × Addr) → List (Str × Addr)
 | [], acc => acc
 | (n, k) :: r, acc => closOf cells r (if k == .free then (n, (cells.lookup n).getD 0) :: acc else acc)
theorem closureFor_of {scope : Scope} {env : Env} (h : ∀ x ∈ scope.names, x.2 = .free → ∃ c, env.cells.lookup x.1 = some c) : closureFor scope env = pure (closOf env.cells scope.names []) := by
 unfold closureFor
 generalize hn : scope.names = names at h ⊢
 clear hn
 generalize ([] : List (Str × Addr)) = acc
 induction names generalizing acc with
 | nil => simp [closOf]
 | cons x r ih =>
  obtain ⟨n, k⟩ := x
  have ih' := fun a => ih (fun x hx => h x (List.mem_cons_of_mem _ hx)) a
  simp only [List.forIn_cons, bind_pure] at ih' ⊢
  by_cases hk : k = .free
  ·obtain ⟨c, hc⟩ := h (n, k) List.mem_cons_self hk
   subst hk
   have hcl : cellOf env n = pure c := by simp only [cellOf, hc]
   simp only [beq_self_eq_true, if_true, hcl, hc, pure_bind, closOf, Option.getD_some]
   simpa using ih' _
  ·have hb : (k == NameKind.free) = false := by simpa using hk
   simp only [hb, Bool.false_eq_true, if_false, pure_bind, closOf]
   simpa using ih' _
theorem closOf_look {cells : List (Str × Addr)} {y : Str} {c : Addr} : ∀ {names : List (Str × NameKind)} {acc : List (Str × Addr)}, (∀ x ∈ names, x.2 = .free → ∃ c, cells.lookup x.1 = some c) → (acc.lookup y = some c → cells.lookup y = some c) →
  (closOf cells names acc).lookup y = some c → cells.lookup y = some c
 | [], _, _, ha, e => ha e
 | (n, k) :: r, acc, h, ha, e => by
  unfold closOf at e
  refine closOf_look (names := r) (fun x hx => h x (List.mem_cons_of_mem _ hx)) (fun e' => ?_) e
  by_cases hk : k = .free
  ·obtain ⟨d, hd⟩ := h (n, k) List.mem_cons_self hk
   subst hk
   simp only [beq_self_eq_true, if_true, hd, Option.getD_some, List.lookup_cons] at e'
   cases q : y == n with
   | true =>
    rw [q] at e'
    have : y = n := by simpa using q
    subst this
    exact hd.trans e'
   | false => rw [q] at e'; exact ha e'
  ·have hb : (k == NameKind.free) = false := by simpa using hk
   simp only [hb, Bool.false_eq_true, if_false] at e'
   exact ha e'
theorem closOf_has {cells : List (Str × Addr)} {y : Str} : ∀ {names : List (Str × NameKind)} {acc : List (Str × Addr)}, ((y, NameKind.free) ∈ names ∨ ∃ c, acc.lookup y = some c) → ∃ c, (closOf cells names acc).lookup y = some c
 | [], _, h => by simpa [closOf] using h
 | (n, k) :: r, acc, h => by
  unfold closOf
  refine closOf_has (names := r) ?_
  rcases h with h | ⟨c, h⟩
  ·rcases List.mem_cons.mp h with e | e
   ·cases e
    right
    simp
   ·exact .inl e
  ·right
   by_cases hk : (k == NameKind.free) = true
   ·rw [if_pos hk, List.lookup_cons]
    cases y == n
    ·exact ⟨c, h⟩
    ·exact ⟨_, rfl⟩
   ·rw [if_neg hk]
    exact ⟨c, h⟩
end L2
set_option Elab.async false
set_option maxRecDepth 100000
namespace L2
open PySem PySem.Spec PyProof.Rows
def PTs (X : Cx) (ifs : List Expr) (t : TT) : Prop :=
 ∀ (pins : List (Addr × Obj)) (s : Shared) (σ : St) (H : Hp) (Q : Bool → Hp → Prop), Inv X pins σ H s → t σ H Q →
  wpAny (model X.prog X.w) X.A (forIn ifs true fun c r => if r = true then do let ok ← isTrue c X.env (eval c X.env); pure (ForInStep.yield ok) else pure (ForInStep.yield r)) (TP X pins σ Q) X.xe s
def tTrue : TT := fun _ H Q => Q true H
theorem pts_nil {X : Cx} : PTs X [] tTrue := fun _ _ _ H _ I h => wpAny_tests_nil ⟨H, I, h⟩
def Cx.block (X : Cx) (scope : Scope) (N : List Str) (s : Shared) (H : Hp) (fp : List Addr) : Cx where
 prog := X.prog
 w := X.w
 K := X.K
 mg := X.mg
 base := X.base
 A := X.A
 N := N
 s₀ := s
 H₀ := H
 env := compEnvC scope (closOf X.env.cells scope.names []) s.heap.objs.size X.env
 outer := X.stack
 stack := X.stack
 ex := fp
 fn := fun _ => false
 calm := X.calm
 pn := []
 xe := fun _ _ => False
def isCl : Option NameKind → Bool
 | some .cell => true
 | some .free => true
 | _ => false
theorem isCl_iff {k : Option NameKind} (h : isCl k = true) : k = some .cell ∨ k = some .free := by
 unfold isCl at h
 split at h
 ·exact .inl rfl
 ·exact .inr rfl
 ·cases h
structure CompOk (X : Cx) (scope : Scope) (N : List Str) (cap : List (Option Nat)) : Prop where
 kind : scope.kind = .function
 nocell : (scope.names.all fun y => !(y.2 == .cell)) = true
 loc : (scope.names.all fun y => !(y.2 == .local) || (scope.names.lookup y.1 == some .local)) = true
 fre : (scope.names.all fun y => !(y.2 == .free) || isCl (X.env.kindOf y.1)) = true
 len : cap.length = N.length
 cap : ((cap.zip N).all fun p => match p.1 with | none => true | some j => (X.N[j]? == some p.2) && isCl (X.env.kindOf p.2) && isCl ((relabel scope X.env).names.lookup p.2)) = true
def capS (cap : List (Option Nat)) (σ : St) : St := cap.map fun o => match o with | none => none | some j => (σ[j]?).join
section
variable {X : Cx} {pins : List (Addr × Obj)} {σ : St} {H : Hp} {s : Shared} {fp : List Addr} {scope : Scope} {N : List Str} {cap : List (Option Nat)}
theorem CompOk.freeH (c : CompOk X scope N cap) (ok : X.Ok) : ∀ x ∈ scope.names, x.2 = .free → ∃ a, X.env.cells.lookup x.1 = some a := fun x hx hf => by
 have := List.all_eq_true.mp c.fre x hx
 rw [hf] at this
 simp only [beq_self_eq_true, Bool.not_true, Bool.false_or] at this
 exact ok.has x.1 (isCl_iff this)
theorem relabel_look {scope : Scope} {env : Env} {y : Str} (h : (relabel scope env).names.lookup y = some .cell ∨ (relabel scope env).names.lookup y = some .free) (nc : ∀ z ∈ scope.names, z.2 ≠ .cell) : (y, NameKind.free) ∈ scope.names := by
 unfold relabel at h
 dsimp only at h
 generalize scope.names = names at h nc
 induction names with
 | nil => simp at h
 | cons z r ih =>
  obtain ⟨n, k⟩ := z
  have nc' : ∀ z ∈ r, z.2 ≠ .cell := fun z hz => nc z (List.mem_cons_of_mem _ hz)
  rw [List.map_cons, List.lookup_cons] at h
  have nck := nc (n, k) List.mem_cons_self
  dsimp only at h nck
  by_cases hc : (k == NameKind.free && env.scope.kind == .function && env.kindOf n == some .cell) = true
  ·rw [if_pos hc] at h
   dsimp only at h
   have hk : k = .free := by
    simp only [Bool.and_eq_true, beq_iff_eq] at hc
    exact hc.1.1
   cases q : y == n with
   | true => rw [show y = n from by simpa using q, hk]; exact List.mem_cons_self
   | false => rw [q] at h; exact List.mem_cons_of_mem _ (ih h nc')
  ·rw [if_neg hc] at h
   dsimp only at h
   cases q : y == n with
   | true =>
    rw [q] at h
    rcases h with h | h
    ·cases h; exact absurd rfl nck
    ·cases h; rw [show y = n from by simpa using q]; exact List.mem_cons_self
   | false => rw [q] at h; exact List.mem_cons_of_mem _ (ih h nc')
theorem CompOk.nc (c : CompOk X scope N cap) : ∀ z ∈ scope.names, z.2 ≠ .cell := fun z hz e => by
 have := List.all_eq_true.mp c.nocell z hz
 rw [e] at this
 exact absurd this (by decide)
theorem CompOk.lc (c : CompOk X scope N cap) : ∀ x ∈ scope.names, x.2 = .local → scope.names.lookup x.1 = some .local := fun x hx e => by
 have := List.all_eq_true.mp c.loc x hx
 rw [e] at this
 simpa using this
theorem block_ok (c : CompOk X scope N cap) (I : Inv X pins σ H s) (hf : ∀ b ∈ fp, FpOk X pins H b) (hlt : ∀ b ∈ fp, b < s.heap.objs.size) : (X.block scope N s H fp).Ok := by
 have lk : ∀ {y : Str} {a : Addr}, (closOf X.env.cells scope.names []).lookup y = some a → X.env.cells.lookup y = some a := fun e => closOf_look (c.freeH I.ok) (fun z => by simp at z) e
 refine ⟨I.ok.mod, c.kind, I.ok.glob, I.ok.blt, Nat.le_refl _, fun x y a h1 h2 => I.ok.inj x y a (lk h1) (lk h2), fun x hx => closOf_has (.inl (relabel_look hx c.nc)), fun x a h => absurd h (by simp [Cx.block]), I.ok.hd, I.ok.frames, .inl rfl, fun b hb => ⟨?_, fun x a h => (hf b hb).2.2.2.2.1 x a (lk h)⟩, I.bs, Nat.le_trans I.ok.bsz I.sz, fun b o e hb => ?_, fun b hb z => ?_, I.stack, I.stkFree⟩
 ·exact Nat.ne_of_lt (hlt b hb)
 ·rcases (hf b hb).2.2.2.1 with z | z
  ·exact I.ok.noex b o e z
  ·exact absurd (Nat.lt_of_lt_of_le (Heap.lt_size (I.ok.bs b o e).1) z) (Nat.lt_irrefl _)
 ·rcases List.mem_cons.mp (I.stkSub b z) with e | e
  ·exact (hf b hb).2.1 e
  ·exact (hf b hb).2.2.1 e
theorem capS_get {i : Nat} {v : V} (h : (capS cap σ)[i]? = some (some v)) : ∃ j, cap[i]? = some (some j) ∧ σ[j]? = some (some v) := by
 unfold capS at h
 rw [List.getElem?_map] at h
 cases q : cap[i]? with
 | none => rw [q] at h; cases h
 | some o =>
  rw [q] at h
  cases o with
  | none => cases h
  | some j =>
   refine ⟨j, rfl, ?_⟩
   have h' : (σ[j]?).join = some v := Option.some.inj h
   cases q2 : σ[j]? with
   | none => rw [q2] at h'; cases h'
   | some o =>
    rw [q2] at h'
    have : o = some v := h'
    rw [this]
theorem block_inv (c : CompOk X scope N cap) (I : Inv X pins σ H s) (hf : ∀ b ∈ fp, FpOk X pins H b) (hlt : ∀ b ∈ fp, b < s.heap.objs.size) {h1 : Heap} {t1 : Nat} (hns : h1.Ns s.heap.objs.size (fun x => ([] : List (Str × Value)).reverse.lookup x))
  (hsb : Heap.SameBut s.heap.objs.size (s.heap.push { cls := .type (if (some X.env : Option Env).isSome then "dict" else "frame"), data := .dict #[] }) h1) : Inv (X.block scope N s H fp) [] (capS cap σ) H { s with heap := h1, toks := t1 } := by
 have lk : ∀ {y : Str} {a : Addr}, (closOf X.env.cells scope.names []).lookup y = some a → X.env.cells.lookup y = some a := fun e => closOf_look (c.freeH I.ok) (fun z => by simp at z) e
 have keep : ∀ b o, s.heap.get? b = some o → h1.get? b = some o := fun b o e => (hsb.2 b (Nat.ne_of_lt (Heap.lt_size e))).trans (Heap.get?_push_of_some _ e)
 have cellK : ∀ {a : Addr} {v : Option Value}, s.heap.IsCell a v → h1.IsCell a v := fun ⟨o, e, d⟩ => ⟨o, keep _ _ e, d⟩
 refine ⟨block_ok c I hf hlt, rfl, I.bare, Un.kept keep, ⟨_, hns, fun i x v h1 h2 h3 => ?_⟩, fun x a e => ?_, I.hok.fresh (Nat.le_refl _), fun x a e => I.freeC x a (lk e), fun p hp => absurd (show p ∈ ([] : List (Addr × Obj)) from hp) (by simp), I.hok.kept keep, ?_⟩
 ·obtain ⟨j, hc, hs⟩ := capS_get h2
  have hN : N[i]? = some x := h1
  have hz : (cap.zip N)[i]? = some (some j, x) := by rw [List.getElem?_zip_eq_some]; exact ⟨hc, hN⟩
  have := List.all_eq_true.mp c.cap _ (List.mem_of_getElem? hz)
  simp only [Bool.and_eq_true, beq_iff_eq] at this
  obtain ⟨⟨e1, e2⟩, e3⟩ := this
  obtain ⟨m, hn, hl⟩ := I.loc
  have hk := isCl_iff e2
  obtain ⟨u, r, l⟩ := hl j x v e1 hs (by rcases hk with z | z; exact .inr (.inl z); exact .inr (.inr z))
  refine ⟨u, r, ?_⟩
  rcases l with ⟨l, _⟩ | ⟨_, a, ea, ca⟩
  ·rw [l] at hk; rcases hk with z | z <;> cases z
  ·have hk' := isCl_iff e3
   obtain ⟨a', ha'⟩ := closOf_has (cells := X.env.cells) (acc := []) (.inl (relabel_look hk' c.nc))
   have : a' = a := Option.some.inj ((lk ha').symm.trans ea)
   subst this
   exact .inr ⟨hk', a', ha', cellK ca⟩
 ·obtain ⟨v, hv⟩ := I.cell x a (lk e)
  exact ⟨v, cellK hv⟩
 ·unfold capS
  rw [List.length_map]
  exact c.len
end
end L2
set_option Elab.async false
set_option maxRecDepth 100000
namespace L2
open PySem PySem.Spec PyProof.Rows
theorem compLoop_go {prog : Program} {w : World} {A : Around} {R : Result → Shared → Prop} {s : Shared} {elt target iter : Expr} {ifs : List Expr} {scope : Scope} {pos : Pos} {it acc : Value} {env : Env} (J : Nat → Shared → Prop)
    (turn : ∀ n s, J n s → wpAny (model prog w) A (pyNext it) (fun r s₁ => match r with
      | none => R (.ok .next) s₁
      | some v => wpAny (model prog w) A (letOwnedTupleGo target it v) (fun _ s₀ => wpAny (model prog w) A (assign target env v) (fun _ s₂ =>
          wpAny (model prog w) A (forIn ifs true fun c r => if r = true then do let ok ← isTrue c env (eval c env); pure (ForInStep.yield ok) else pure (ForInStep.yield r)) (fun ok s₃ =>
            if ok = true then wpAny (model prog w) A (eval elt env) (fun x s₄ =>
              wpAny (model prog w) A (call (.builtin "list.append") [acc, x]) (fun _ s₅ => ∃ m, m < n ∧ J m s₅) (fun _ _ => False) s₄) (fun _ _ => False) s₃
            else ∃ m, m < n ∧ J m s₃) (fun _ _ => False) s₂) (fun _ _ => False) s₀) (fun _ _ => False) s₁) (fun _ _ => False) s)
    (n : Nat) (h : J n s) :
    codeAny (model prog w) A (.compLoop (.ListComp elt [⟨target, iter, ifs, 0⟩] scope pos) 0 it acc env) R s := by
  refine codeAny_loop rfl J (fun n s hI => ?_) n h
  show wpAny _ A ((compTurn (.ListComp elt [⟨target, iter, ifs, 0⟩] scope pos) 0 it acc env).onRaise (fun x => do noteFrame x env; theTreesLotGoes x)) _ _ s
  refine wpAny_noted ?_
  rw [compTurn_list]
  refine wpAny_bind (wpAny_standAt (wpAny_bind (wpAny_mono (turn n s hI) (fun r s₁ h₁ => ?_) fun _ _ h' => h'.elim)))
  cases r with
  | none => exact wpAny_pure h₁
  | some v =>
    refine wpAny_bind (wpAny_mono h₁ (fun _ s₀ h₀ => ?_) fun _ _ h' => h'.elim)
    refine wpAny_bind (wpAny_mono h₀ (fun _ s₂ h₂ => wpAny_bind (wpAny_mono h₂ (fun ok s₃ h₃ => ?_) fun _ _ h' => h'.elim)) fun _ _ h' => h'.elim)
    cases ok with
    | false => exact wpAny_pure ⟨rfl, h₃⟩
    | true =>
      exact wpAny_bind (wpAny_bind (wpAny_mono h₃ (fun x s₄ h₄ => wpAny_bind (wpAny_mono h₄ (fun _ s₅ h₅ => wpAny_pure (wpAny_pure ⟨rfl, h₅⟩)) fun _ _ h' => h'.elim)) fun _ _ h' => h'.elim))
def tComp (wi : TI) (g : TG) (tt : TT) (te : TE) (cap : List (Option Nat)) : TE := fun σ H Q => wi σ H fun J H1 => ∀ l, H1 l = none →
 ∃ (n : Nat) (Pv : Nat → List V → St → Hp → Prop), Pv 0 [] (capS cap σ) (upd H1 l (.lst [])) ∧
  (∀ i ys σ' H', i < n → Pv i ys σ' H' → J.go i H' ∧ ∀ x H2, J.yld i H' x H2 → g x σ' H2 fun σ3 H3 => tt σ3 H3 fun b H4 =>
   if b = true then te σ3 H4 fun y H5 => H5 l = some (.lst ys) ∧ ys.length < sizeLine ∧ Pv (i + 1) (ys ++ [y]) σ3 (upd H5 l (.lst (ys ++ [y]))) else Pv (i + 1) ys σ3 H4) ∧
  ∀ ys σ' H', Pv n ys σ' H' → J.stop n H' ∧ Q (.ref l) H'
section
variable {X : Cx} {elt tg iter : Expr} {ifs : List Expr} {scope : Scope} {pos : Pos} {N : List Str} {cap : List (Option Nat)} {wi : TI} {g : TG} {tt : TT} {te : TE}
theorem comp_run {U : Value → Addr → Shared → Prop} (hc : X.calm = true) (c : CompOk X scope N cap) (hi : PI X tg iter wi) (hg : ∀ s H fp, PG (X.block scope N s H fp) tg g) (ht : ∀ s H fp, PTs (X.block scope N s H fp) ifs tt)
    (he : ∀ s H fp, PE (X.block scope N s H fp) elt te)
    {pins : List (Addr × Obj)} {s : Shared} {σ : St} {H : Hp} {Q : VK} (I : Inv X pins σ H s) (h : tComp wi g tt te cap σ H Q)
    (hU : ∀ (l C : Addr) (H' : Hp) (s' : Shared), Inv X pins σ H' s' → (∃ m, s'.heap.Ns C m) → FpOk X pins H' C → Q (.ref l) H' → U (.ref l) C s')
    {RR : Value → Addr → Result → Shared → Prop} (hRR : ∀ a C s', U a C s' → RR a C (.ok .next) s') :
    wpAny (model X.prog X.w) X.A (eval iter X.env) (fun x s₁ => wpAny (model X.prog X.w) X.A (pyIter x) (fun it s₂ => wpAny (model X.prog X.w) X.A (newList []) (fun acc s₃ =>
      wpAny (model X.prog X.w) X.A (newFunctionEnv scope X.env.globals (closOf X.env.cells scope.names []) [] X.env.qual none .none (some X.env)) (fun cenv s₄ =>
        codeAny (model X.prog X.w) X.A (.compStart (.ListComp elt [⟨tg, iter, ifs, 0⟩] scope pos) 0 it acc { cenv with scope := relabel scope X.env }) (RR acc cenv.locals) s₄) X.xe s₃) X.xe s₂) X.xe s₁) X.xe s := by
  refine thn (hi pins s σ H _ I h) fun v s1 h1 => thn h1 fun itv s2 h2 => ?_
  obtain ⟨it, fp, tn, J, H2, e, I2, T, st2, f2, hq⟩ := h2
  subst e
  have hl : H2 s2.heap.objs.size = none := I2.hok.fresh (Nat.le_refl _)
  obtain ⟨n, Pv, p0, step, fin⟩ := hq _ hl
  refine wpAny_newObj_type ?_ (by show 0 ≤ sizeLine; exact Nat.zero_le _)
  have I3 : Inv X pins σ (upd H2 s2.heap.objs.size (.lst [])) { s2 with heap := s2.heap.push { cls := .type "list", data := .seq ([] : List Value).toArray } } :=
    I2.laid (t' := s2.toks) (fun b u e => Heap.get?_push_of_some _ e) (Nat.le_refl _) ⟨Nat.zero_le _, [], _, .nil, Heap.get?_push_size _ rfl⟩
  generalize hs3 : ({ s2 with heap := s2.heap.push { cls := .type "list", data := .seq ([] : List Value).toArray } } : Shared) = s3 at I3 ⊢
  have k23 : ∀ b o, s2.heap.get? b = some o → s3.heap.get? b = some o := fun b o e => by rw [← hs3]; exact Heap.get?_push_of_some _ e
  have fplt2 : ∀ b ∈ fp, b < s2.heap.objs.size := fun b hb => let ⟨o, e, _⟩ := T.obj _ _ st2 b hb; Heap.lt_size e
  have sz23 : s2.heap.objs.size ≤ s3.heap.objs.size := by rw [← hs3]; show _ ≤ (s2.heap.push _).objs.size; rw [Heap.size_push]; exact Nat.le_succ _
  have fplt : ∀ b ∈ fp, b < s3.heap.objs.size := fun b hb => Nat.lt_of_lt_of_le (fplt2 b hb) sz23
  have f3 : ∀ b ∈ fp, FpOk X pins (upd H2 s2.heap.objs.size (.lst [])) b := fun b hb => ⟨by rw [upd_ne (Nat.ne_of_lt (fplt2 b hb))]; exact (f2 b hb).1, (f2 b hb).2⟩
  have st3 : tn 0 s3.heap := T.keep _ _ _ st2 fun b hb o e => k23 b o e
  refine wpAny_newFunctionEnv c.nc (by intro y hy; simp at hy) (fun h4 hns hsb => ?_) c.kind
  have I4 := block_inv (t1 := s3.toks + ([] : List (Str × Value)).length) c I3 f3 fplt hns hsb
  have st4 : tn 0 h4 := T.keep _ _ _ st3 fun b hb o e => (hsb.2 b (Nat.ne_of_lt (fplt b hb))).trans (Heap.get?_push_of_some _ e)
  generalize hY : X.block scope N s3 (upd H2 s2.heap.objs.size (.lst [])) fp = Y at I4
  have yP : Y.prog = X.prog := by rw [← hY]; rfl
  have yw : Y.w = X.w := by rw [← hY]; rfl
  have yK : Y.K = X.K := by rw [← hY]; rfl
  have yA : Y.A = X.A := by rw [← hY]; rfl
  have yx : Y.xe = fun _ _ => False := by rw [← hY]; rfl
  have yc : Y.calm = true := by rw [← hY]; exact hc
  have yex : Y.ex = fp := by rw [← hY]; rfl
  have yfs : Y.fs = frs X.stack := by rw [← hY]; rfl
  have yH : Y.H₀ = upd H2 s2.heap.objs.size (.lst []) := by rw [← hY]; rfl
  have ys : Y.s₀ = s3 := by rw [← hY]; rfl
  have yC : Y.env.locals = s3.heap.objs.size := by rw [← hY]; rfl
  have yenv : compEnvC scope (closOf X.env.cells scope.names []) s3.heap.objs.size X.env = Y.env := by rw [← hY]; rfl
  have yg := hg s3 (upd H2 s2.heap.objs.size (.lst [])) fp
  have yt := ht s3 (upd H2 s2.heap.objs.size (.lst [])) fp
  have ye := he s3 (upd H2 s2.heap.objs.size (.lst [])) fp
  have ypn : Y.pn = [] := by rw [← hY]; rfl
  have ycl : Y.env.cells = closOf X.env.cells scope.names [] := by rw [← hY]; rfl
  rw [hY] at yg yt ye
  have lk : ∀ {y : Str} {a : Addr}, Y.env.cells.lookup y = some a → X.env.cells.lookup y = some a := fun e => by rw [ycl] at e; exact closOf_look (c.freeH I.ok) (fun z => by simp at z) e
  have stat : ∀ {H' : Hp}, (∀ b ∈ fp, H' b = none) → ∀ b ∈ fp, FpOk Y [] H' b := fun hn b hb => by
    refine ⟨hn b hb, by rw [yC]; exact Nat.ne_of_lt (fplt b hb), ?_, .inl (by rw [yex]; exact hb), fun x a e => (f2 b hb).2.2.2.2.1 x a (lk e), fun p hp => ?_⟩
    · rw [yfs]
      intro z
      rcases List.mem_cons.mp (I2.stkSub b z) with e | e
      · exact (f2 b hb).2.1 e
      · exact (f2 b hb).2.2.1 e
    · rw [ypn] at hp
      exact absurd hp (by simp)
  -- the end
  have done : ∀ {σ' : St} {H' : Hp} {s' : Shared}, Inv Y [] σ' H' s' → Q (.ref s2.heap.objs.size) H' → U (.ref s2.heap.objs.size) s3.heap.objs.size s' := fun {σ' H' s'} J' q => by
    have un := J'.base
    rw [yfs, yex, yH, ys] at un
    have J3 := I3.call' (s' := s') (ch := fp) (by rw [J'.os, ys]) un (by have := J'.hok; rw [yP, yw] at this; exact this) J'.bare fun b hb => ⟨(f3 b hb).2.2.2.1, (f3 b hb).2.1, (f3 b hb).2.2.2.2.1, (f3 b hb).2.2.2.2.2⟩
    have hCn : H' s3.heap.objs.size = none := by have := J'.free; rw [yC] at this; exact this
    have hne : s3.heap.objs.size ≠ X.env.locals := Nat.ne_of_gt I3.lt
    have hcl : ∀ x a, X.env.cells.lookup x = some a → a ≠ s3.heap.objs.size := fun x a e => let ⟨_, o, ho, _⟩ := I3.cell x a e; Nat.ne_of_lt (Heap.lt_size ho)
    have hpn : ∀ p ∈ X.pn ++ pins, p.1 ≠ s3.heap.objs.size := fun p hp => Nat.ne_of_lt (Heap.lt_size (I3.pin p hp).1)
    obtain ⟨m, hn, _⟩ := J'.loc
    rw [yC] at hn
    exact hU _ _ H' s' J3 ⟨m, hn⟩ ⟨hCn, hne, I3.nofs (Nat.le_refl _), .inr I3.sz, hcl, hpn⟩ q
  have loop : ∀ s5 : Shared, s5 = { s3 with heap := h4, toks := s3.toks + ([] : List (Str × Value)).length } →
      codeAny (model X.prog X.w) X.A (.compLoop (.ListComp elt [⟨tg, iter, ifs, 0⟩] scope pos) 0 (.ref it) (.ref s2.heap.objs.size) Y.env) (RR (.ref s2.heap.objs.size) s3.heap.objs.size) s5 := by
    rintro s5 rfl
    refine compLoop_go (fun k s' => ∃ i ys σ' H', Inv Y [] σ' H' s' ∧ tn i s'.heap ∧ (∀ b ∈ fp, H' b = none) ∧ i ≤ n ∧ k = n - i ∧ Pv i ys σ' H') ?_ n ⟨0, [], _, _, I4, st4, fun b hb => (f3 b hb).1, Nat.zero_le _, rfl, p0⟩
    rintro k s6 ⟨i, zs, σ6, H6, I6, st6, fr6, hin, rfl, pv6⟩
    by_cases hlt : i < n
    · obtain ⟨go, stp⟩ := step i zs σ6 H6 hlt pv6
      have q := T.item Y yP yw yK yc i [] s6 σ6 H6 (fun _ _ => False) I6 (stat fr6) st6 go
      rw [yA] at q
      refine thn q fun r s7 ⟨u, hr, h7⟩ => ?_
      subst hr
      refine thn h7 fun _ s8 ⟨x, H8, I8, r8, y8, st8, fr8⟩ => ?_
      have I8' := I8.pinned (stat fr8) (T.obj _ _ st8)
      have q := yg _ s8 σ6 H8 x u _ I8' r8 (stp x H8 y8)
      rw [yP, yw, yA, yx] at q
      refine thn q fun _ s9 ⟨σ9, H9, I9, q9⟩ => ?_
      have q := yt _ s9 σ9 H9 _ I9 q9
      rw [yP, yw, yA, yx] at q
      refine thn q fun b s10 ⟨H10, I10, q10⟩ => ?_
      have again : ∀ {ws : List V} {σ' : St} {H' : Hp} {s' : Shared}, Inv Y ([] ++ pinsAt fp s8.heap) σ' H' s' → Pv (i + 1) ws σ' H' → ∃ m, m < n - i ∧ ∃ i ys σ' H', Inv Y [] σ' H' s' ∧ tn i s'.heap ∧ (∀ b ∈ fp, H' b = none) ∧ i ≤ n ∧ m = n - i ∧ Pv i ys σ' H' := fun {ws σ' H' s'} J' p' => by
        refine ⟨n - (i + 1), by omega, i + 1, ws, σ', H', J'.unpinned, T.keep _ _ _ st8 fun b hb o e => (J'.pin (b, o) (List.mem_append_right _ (List.mem_append_right _ (mem_pinsAt hb e)))).1, fun b hb => ?_, hlt, rfl, p'⟩
        obtain ⟨o, e, d⟩ := T.obj _ _ st8 b hb
        exact (J'.pin (b, o) (List.mem_append_right _ (List.mem_append_right _ (mem_pinsAt hb e)))).2.1
      cases b with
      | false => exact again I10 q10
      | true =>
        have q10 := (if_pos (α := Prop) rfl).mp q10
        have q := ye _ s10 σ9 H10 _ I10 q10
        rw [yP, yw, yA, yx] at q
        refine iteT ?_
        refine thn q fun xv s11 ⟨y, H11, I11, r11, hl11, hz, p11⟩ => ?_
        have q := mt_append (X := Y) _ s11 σ9 H11 (.ref s2.heap.objs.size) [y] _ [xv] (fun _ H' => Pv (i + 1) (zs ++ [y]) σ9 H') I11 rfl (.cons r11 .nil) ⟨_, _, _, rfl, rfl, hl11, hz, p11⟩
        rw [yP, yw, yA, yx] at q
        exact thn q fun _ s12 ⟨_, H12, I12, _, p12⟩ => again I12 p12
    · have e : i = n := by omega
      subst e
      obtain ⟨stop, q⟩ := fin zs σ6 H6 pv6
      have qd := T.done Y yP yw yK yc i [] s6 σ6 H6 (fun _ _ => False) I6 (stat fr6) st6 stop
      rw [yA] at qd
      refine thn qd fun r s7 ⟨hr, I7⟩ => ?_
      subst hr
      exact hRR _ _ _ (done I7 q)
  show codeAny _ _ (.compStart _ 0 (.ref it) _ (compEnvC scope (closOf X.env.cells scope.names []) s3.heap.objs.size X.env)) (RR (.ref s2.heap.objs.size) s3.heap.objs.size) _
  rw [yenv]
  exact codeAny_compStart_list (loop _ rfl) (T.self X.A 0 _ _ _ st4 (loop _ rfl))
theorem FpOk.turned {pins : List (Addr × Obj)} {σ : St} {H : Hp} {s : Shared} {C : Addr} {h' : Heap} (f : FpOk X pins H C) (I : Inv X pins σ H s) (sb : Heap.SameBut C s.heap h') : Inv X pins σ H { s with heap := h' } :=
 I.turned (t' := s.toks) (fun b o hb e => (sb.2 b hb).trans e) f.1 f.2.1 f.2.2.2.1 f.2.2.2.2.1 f.2.2.2.2.2
theorem pe_comp (hc : X.calm = true) (c : CompOk X scope N cap) (hi : PI X tg iter wi) (hg : ∀ s H fp, PG (X.block scope N s H fp) tg g) (ht : ∀ s H fp, PTs (X.block scope N s H fp) ifs tt)
  (he : ∀ s H fp, PE (X.block scope N s H fp) elt te) (hs : ∀ x, foldedSetIterable iter X.env x = pure x := by intro _; rfl) : PE X (.ListComp elt [⟨tg, iter, ifs, 0⟩] scope pos) (tComp wi g tt te cap) := by
 intro pins s σ H Q I h
 rw [eval_ListComp]
 refine wpAny_comprehension_free rfl hs (closureFor_of (c.freeH I.ok)) c.kind c.lc ?_
 exact comp_run (U := fun a C s' => ∃ m, s'.heap.Ns C m ∧ ∀ h', Heap.SameBut C s'.heap h' → EP X pins σ Q a { s' with heap := h' }) hc c hi hg ht he I h
  (fun l C H' s' I' ⟨m, hn⟩ f q => ⟨m, hn, fun h' sb => ⟨.ref l, H', f.turned I' sb, rfl, q⟩⟩) fun a C s' u => u
theorem ps_setC {i : Nat} {x : Str} {pos' pos2 : Pos} (hN : X.N.Nodup) (hi' : X.N[i]? = some x) (hx : Loc X.env.scope x) (hc : X.calm = true) (c : CompOk X scope N cap) (hi : PI X tg iter wi) (hg : ∀ s H fp, PG (X.block scope N s H fp) tg g) (ht : ∀ s H fp, PTs (X.block scope N s H fp) ifs tt)
  (he : ∀ s H fp, PE (X.block scope N s H fp) elt te) (hsw : swapsWith (.ListComp elt [⟨tg, iter, ifs, 0⟩] scope pos) (some (.Name x pos')) pos2.line X.env = pure true) (hs : ∀ x, foldedSetIterable iter X.env x = pure x := by intro _; rfl)
  (hf : X.fn x = true ∨ X.env.scope.names.lookup x = some .local := by first | exact .inl rfl | exact .inr rfl | assumption) : PS X (.Assign [.Name x pos'] (.ListComp elt [⟨tg, iter, ifs, 0⟩] scope pos) pos2) (tAsg (tComp wi g tt te cap) (gName i)) := by
 intro pins s σ H D I h
 rw [exec_Assign_Name_used _ _ _ _ hsw]
 refine wpAny_bind (wpAny_standAt (wpAny_bind ?_))
 show wpAny _ X.A (do let _ ← comprehension (.ListComp elt [⟨tg, iter, ifs, 0⟩] scope pos) scope X.env _ (newList []) false (eval iter X.env) (some (assign (.Name x pos') X.env))) _ _ s
 refine wpAny_bind (wpAny_mono (wpAny_comprehension_free (Q := fun _ s' => SP X pins D .next s') rfl hs (closureFor_of (c.freeH I.ok)) c.kind c.lc ?_) (fun _ s' hq => wpAny_pure (wpAny_pure hq)) fun _ _ e => e)
 refine comp_run (U := fun a C s' => wpAny (model X.prog X.w) X.A (assign (.Name x pos') X.env a) (fun _ s'' => ∃ m, s''.heap.Ns C m ∧ ∀ h', Heap.SameBut C s''.heap h' → SP X pins D .next { s'' with heap := h' }) X.xe s') hc c hi hg ht he I h ?_ fun a C s' u => u
 intro l C H' s' I' hn f q
 obtain ⟨m, o, es, ep, ho, hd, r⟩ := hn
 have I2 : Inv X (pins ++ [(C, o)]) σ H' s' := I'.pins_of fun p hp => by
  rcases List.mem_append.mp hp with z | z
  ·exact I'.pin p (List.mem_append_right _ z)
  ·have e : p = (C, o) := by simpa using z
   subst e
   exact ⟨ho, f.1, f.2.1, f.2.2.1, fun v z => by rw [hd] at z; cases z⟩
 refine wpAny_assign_Name (store_ok I2 hN hi' hx (v := .ref l) rfl (fun s2 I3 => ?_) hf)
 have pc := (I3.pin (C, o) (List.mem_append_right _ (List.mem_append_right _ List.mem_cons_self))).1
 exact ⟨m, ⟨o, es, ep, pc, hd, r⟩, fun h' sb => ⟨_, H', f.turned I3.unpinned sb, q⟩⟩
end
end L2
set_option Elab.async false
set_option maxRecDepth 100000
namespace L2
open PySem PySem.Spec PyProof.Rows
section
variable {X : Cx}
theorem call_isinst : CallR X (.builtin "isinstance") (fun xs H Q => ∃ x n t b, xs = [x, .ty n] ∧ TyOf X.K H x t ∧ PySem.W.kitOne X.K t (.type n) = some b ∧ Q (.bl b) H) := by
 intro pins s σ H xs us Q I r h
 obtain ⟨x, n, t, b, rfl, ty, e, q⟩ := h
 obtain ⟨u, v, rfl, ru, rv⟩ := r.two
 cases (show v = Value.type n from rv)
 exact isinst_ok I ru ty e fun tk => ⟨.bl b, H, I.tok tk, rfl, q⟩
theorem in1_hd {A : Around} (h : A.handled = none) : A.in1.handled = none := h
theorem vals_getD {its : List Value} {bs : List Bool} (r : Vals (bs.map V.bl) its) {i : Nat} {v : Value} (e : its[i]? = some v) : v = .bool (bs.getD i false) := by
 have hl := r.length
 rw [List.length_map] at hl
 have hi : i < its.length := (List.getElem?_eq_some_iff.mp e).1
 have hb : (bs.map V.bl)[i]? = some (V.bl (bs.getD i false)) := by
  rw [List.getElem?_map, List.getD_eq_getElem?_getD, List.getElem?_eq_getElem (by omega)]
  rfl
 obtain ⟨u, hu, ru⟩ := r.get hb
 rw [e] at hu
 cases hu
 exact ru
theorem range_all (bs : List Bool) : (List.range bs.length).all (fun i => bs.getD i false) = bs.all id := by
 rw [Bool.eq_iff_iff]
 simp only [List.all_eq_true, List.mem_range, id]
 constructor
 ·intro h b hb
  obtain ⟨i, hi, rfl⟩ := List.mem_iff_getElem.mp hb
  have := h i hi
  rwa [List.getD_eq_getElem?_getD, List.getElem?_eq_getElem hi] at this
 ·intro h i hi
  rw [List.getD_eq_getElem?_getD, List.getElem?_eq_getElem hi]
  exact h _ (List.getElem_mem hi)
theorem call_all_bl (hc : X.calm = true) : CallR X (.builtin "all") (fun xs H Q => ∃ (p : Addr) (bs : List Bool), xs = [.ref p] ∧ SqL X.K H p (bs.map V.bl) ∧ Q (.bl (bs.all id)) H) := by
 intro pins s σ H xs us Q I r h
 obtain ⟨p, bs, rfl, hp, q⟩ := h
 obtain ⟨u, rfl, ru⟩ := r.one
 cases (show u = Value.ref p from ru)
 obtain ⟨its, rv, pl, hz⟩ := I.list hp
 have hh := in1_hd (I.ok.hd hc)
 have hlt : p < s.heap.objs.size := let ⟨o, ho, _⟩ := pl.isList; Heap.lt_size ho
 refine call_all_walk (wpAny_pyIter_list pl.isList ?_)
 refine ⟨s.heap.objs.size, _, _, _, _, _, fun i => bs.getD i false, rfl, Walks.list hh s.heap.objs.size p (Nat.ne_of_lt hlt) its.toArray, ⟨⟨_, Heap.get?_push_size _ rfl, rfl, rfl⟩, pl.isList.push _⟩, fun i v s' Q' E' hP hQ => ?_, fun h' tk hk => ?_⟩
 ·have := vals_getD rv (i := i) (v := v) (by simpa using hP)
  subst this
  exact wpAny_truthy_bool hQ
 ·have hl := rv.length
  rw [List.length_map] at hl
  refine ⟨.bl (bs.all id), H, I.kept (h' := h') (t' := tk) fun b o e => hk b o (by simpa using Nat.ne_of_lt (Heap.lt_size e)) (Heap.get?_push_of_some _ e), ?_, q⟩
  show _ = _
  rw [List.size_toArray, ← hl, range_all]
end
end L2
set_option Elab.async false
set_option maxRecDepth 100000
namespace L2
open PySem PySem.Spec PyProof.Rows
mutual
def Rep (H : Hp) : PyData → V → Prop
 | .none, v => v = .non
 | .bool b, v => v = .bl b
 | .int i, v => v = .int i
 | .str x, v => v = .str x
 | .list ds, v => ∃ a xs, v = .ref a ∧ H a = some (.lst xs) ∧ RepL H ds xs
 | .tuple ds, v => ∃ a xs, v = .ref a ∧ H a = some (.tup xs) ∧ RepL H ds xs
 | .dict _, _ => False
def RepL (H : Hp) : List PyData → List V → Prop
 | [], xs => xs = []
 | d :: ds, xs => ∃ x r, xs = x :: r ∧ Rep H d x ∧ RepL H ds r
end
mutual
theorem Rep.mono {H H' : Hp} (s : Same H H') : ∀ {d : PyData} {v : V}, Rep H d v → Rep H' d v
 | .none, _, h => by simpa [Rep] using h
 | .bool _, _, h => by simpa [Rep] using h
 | .int _, _, h => by simpa [Rep] using h
 | .str _, _, h => by simpa [Rep] using h
 | .list ds, _, h => by
  simp only [Rep] at h ⊢
  obtain ⟨a, xs, e, h1, h2⟩ := h
  exact ⟨a, xs, e, s _ _ h1, RepL.mono s h2⟩
 | .tuple ds, _, h => by
  simp only [Rep] at h ⊢
  obtain ⟨a, xs, e, h1, h2⟩ := h
  exact ⟨a, xs, e, s _ _ h1, RepL.mono s h2⟩
 | .dict _, _, h => by simp only [Rep] at h
theorem RepL.mono {H H' : Hp} (s : Same H H') : ∀ {ds : List PyData} {xs : List V}, RepL H ds xs → RepL H' ds xs
 | [], _, h => by simpa [RepL] using h
 | d :: ds, _, h => by
  simp only [RepL] at h ⊢
  obtain ⟨x, r, e, h1, h2⟩ := h
  exact ⟨x, r, e, Rep.mono s h1, RepL.mono s h2⟩
end
section
variable {X : Cx} {pins : List (Addr × Obj)} {σ : St} {H : Hp} {s : Shared}
mutual
theorem Rep.reads (I : Inv X pins σ H s) : ∀ {d : PyData} {v : V} {u : Value}, Rep H d v → RelV v u → ∃ as, Reads s.heap u d as
 | .none, _, _, h, r => by simp only [Rep] at h; subst h; cases r; exact ⟨_, .none⟩
 | .bool _, _, _, h, r => by simp only [Rep] at h; subst h; cases r; exact ⟨_, .bool _⟩
 | .int _, _, _, h, r => by simp only [Rep] at h; subst h; obtain ⟨t, rfl⟩ := r; exact ⟨_, .int _ _⟩
 | .str _, _, _, h, r => by simp only [Rep] at h; subst h; obtain ⟨t, rfl⟩ := r; exact ⟨_, .str _ _⟩
 | .list ds, _, _, h, r => by
  simp only [Rep] at h
  obtain ⟨a, xs, rfl, h1, h2⟩ := h
  cases (show _ = Value.ref a from r)
  obtain ⟨its, rv, pl, _⟩ := I.list (SqL.of h1)
  obtain ⟨as, ra⟩ := RepL.reads I h2 rv
  obtain ⟨o, n, e, c, _, d⟩ := pl
  exact ⟨_, .list e c d (by simpa using ra)⟩
 | .tuple ds, _, _, h, r => by
  simp only [Rep] at h
  obtain ⟨a, xs, rfl, h1, h2⟩ := h
  cases (show _ = Value.ref a from r)
  obtain ⟨its, rv, pl, _⟩ := I.tuple (SqT.of h1)
  obtain ⟨as, ra⟩ := RepL.reads I h2 rv
  obtain ⟨o, e, c, n, d⟩ := pl
  exact ⟨_, .tuple e c d (by simpa using ra)⟩
 | .dict _, _, _, h, _ => by simp only [Rep] at h
theorem RepL.reads (I : Inv X pins σ H s) : ∀ {ds : List PyData} {xs : List V} {us : List Value}, RepL H ds xs → Vals xs us → ∃ as, ReadsAll s.heap us ds as
 | [], _, _, h, r => by simp only [RepL] at h; subst h; cases r; exact ⟨_, .nil⟩
 | d :: ds, _, _, h, r => by
  simp only [RepL] at h
  obtain ⟨x, t, rfl, h1, h2⟩ := h
  cases r with
  | cons r1 r2 =>
   obtain ⟨as, a1⟩ := Rep.reads I h1 r1
   obtain ⟨bs, a2⟩ := RepL.reads I h2 r2
   exact ⟨_, .cons a1 a2⟩
end
end
def rEqD (neg : Bool) : R2 := fun x y H Q => ∃ d e, Rep H d x ∧ Rep H e y ∧ SeqAt.shaped d = true ∧ SeqAt.shaped e = true ∧ Q (.bl (if neg then !PyData.eqv d e else PyData.eqv d e)) H
section
variable {X : Cx}
theorem op_eqD (hu : X.A.units + 64 < cLine) : OpR X (compareOp .Eq) (rEqD false) := by
 intro pins s σ H x y v u Q I rx ry h
 obtain ⟨d, e, h1, h2, s1, s2, q⟩ := h
 obtain ⟨as, r1⟩ := h1.reads I rx
 obtain ⟨bs, r2⟩ := h2.reads I ry
 exact eq_dataH r1 r2 s1 s2 hu ⟨.bl _, H, I, rfl, q⟩
end
def tyD : PyData → String
 | .none => "NoneType"
 | .bool _ => "bool"
 | .int _ => "int"
 | .str _ => "str"
 | .list _ => "list"
 | .tuple _ => "tuple"
 | .dict _ => "dict"
theorem Rep.ty {K : PySem.W.Frag} {H : Hp} {d : PyData} {v : V} (h : Rep H d v) : TyOf K H v (.type (tyD d)) := by
 cases d with
 | none => simp only [Rep] at h; subst h; exact .non
 | bool b => simp only [Rep] at h; subst h; exact .bl b
 | int b => simp only [Rep] at h; subst h; exact .int b
 | str b => simp only [Rep] at h; subst h; exact .str b
 | list ds => simp only [Rep] at h; obtain ⟨a, xs, rfl, e, _⟩ := h; exact .lst e
 | tuple ds => simp only [Rep] at h; obtain ⟨a, xs, rfl, e, _⟩ := h; exact .tup e
 | dict _ => simp only [Rep] at h
def isD (T : String) : PyData → Bool
 | .none => T == "NoneType"
 | .bool _ => T == "bool" || T == "int"
 | .int _ => T == "int"
 | .str _ => T == "str"
 | .list _ => T == "list"
 | .tuple _ => T == "tuple"
 | .dict _ => T == "dict"
theorem kit_bool {K : PySem.W.Frag} (d : PyData) : PySem.W.kitOne K (.type (tyD d)) (.type "bool") = some (isD "bool" d) := by cases d <;> kernel_rfl
theorem kit_int {K : PySem.W.Frag} (d : PyData) : PySem.W.kitOne K (.type (tyD d)) (.type "int") = some (isD "int" d) := by cases d <;> kernel_rfl
theorem kit_str {K : PySem.W.Frag} (d : PyData) : PySem.W.kitOne K (.type (tyD d)) (.type "str") = some (isD "str" d) := by cases d <;> kernel_rfl
theorem kit_list {K : PySem.W.Frag} (d : PyData) : PySem.W.kitOne K (.type (tyD d)) (.type "list") = some (isD "list" d) := by cases d <;> kernel_rfl
theorem kit_tuple {K : PySem.W.Frag} (d : PyData) : PySem.W.kitOne K (.type (tyD d)) (.type "tuple") = some (isD "tuple" d) := by cases d <;> kernel_rfl
end L2
set_option Elab.async false
set_option maxRecDepth 100000
namespace L2
open PySem PySem.Spec PyProof.Rows
theorem Inv.turnedL {X : Cx} {pins : List (Addr × Obj)} {σ : St} {H : Hp} {s : Shared} {h' : Heap} {t' : Nat} {ch : List Addr} {T : Addr} {o : HO} (I : Inv X pins σ H s) (k : ∀ b o, b ∉ ch → s.heap.get? b = some o → h'.get? b = some o)
  (f : ∀ b ∈ ch, FpOk X pins H b) (there : ∀ b ∈ ch, ∃ o, h'.get? b = some o) (hT : s.heap.objs.size ≤ T) (new : ObjOk X.prog X.w (upd H T o) h' T o) : Inv X pins σ (upd H T o) { s with heap := h', toks := t' } := by
 have nit : ∀ b u, H b = some u → b ∉ ch := fun b u e z => by rw [(f b z).1] at e; cases e
 have ltT : ∀ b ob, s.heap.get? b = some ob → b ≠ T := fun b ob e => Nat.ne_of_lt (Nat.lt_of_lt_of_le (Heap.lt_size e) hT)
 have hTn : H T = none := I.hok.fresh hT
 have neT : ∀ b u, H b = some u → b ≠ T := fun b u e => ne_of_none e hTn
 refine I.step (g' := s.gens) (d' := s.drawn) (ch := ch) (fun b hb => ⟨(f b hb).2.2.2.1, (f b hb).2.1, (f b hb).2.2.2.2.1, (f b hb).2.2.2.2.2⟩) (fun b o _ _ hc e _ => k b o hc e) (fun b o _ _ hc e _ => ⟨o.slots, k b o hc e⟩) (fun b o _ e n => by rw [upd_ne (ltT b o e)]; exact n)
  (fun b o hc e => ⟨o, k b o hc e⟩) (fun b _ e => by rw [upd_ne (neT b _ e)]; exact e) (fun b _ _ e => by rw [upd_ne (neT b _ e)]; exact e) (fun b ps e => ⟨#[], by rw [upd_ne (neT b _ e), e]; simp⟩) (fun m hm => ?_) (fun b u e => ?_) I.bare
 ·obtain ⟨ob, es, ep, ho, r⟩ := hm
  exact ⟨ob, es, ep, k _ ob (fun z => (f _ z).2.1 rfl) ho, r⟩
 ·by_cases hb : b = T
  ·subst hb
   rw [upd_same] at e
   cases e
   exact new
  ·rw [upd_ne hb] at e
   refine (I.hok b u e).stay (fun c v hc q => k c v ?_ q) (fun q e' => ?_) fun a q e' => ?_
   ·rcases hc with z | z
    ·rw [z]; exact nit b u e
    ·exact nit c _ z
   ·rw [upd_ne (neT _ _ e')]; exact e'
   ·rw [upd_ne (neT _ _ e')]; exact e'
def Itz (K : PySem.W.Frag) (a b : Addr) : It :=
  ⟨fun i H => ∃ xs ys x y, SqL K H a xs ∧ SqL K H b ys ∧ xs[i]? = some x ∧ ys[i]? = some y,
   fun i H v H' => ∃ T, v = .ref T ∧ H T = none ∧ ∀ xs ys, SqL K H a xs → SqL K H b ys → ∃ x y, xs[i]? = some x ∧ ys[i]? = some y ∧ H' = upd H T (.tup [x, y]),
   fun i H => ∃ xs ys, SqL K H a xs ∧ SqL K H b ys ∧ (xs.length ≤ i ∨ ys.length ≤ i)⟩
theorem turn_zip {P : Program} {w : World} {K : PySem.W.Frag} {elts : List Expr} {kt : Nat} {pt : Pos} {a b n : Addr} (ha : a < n) (hb : b < n) :
    Turn P w K (.Tuple elts kt pt) (Itz K a b) [n + 4, n + 2, n + 3, n, n + 1] (n + 4) (fun i h => IsZip h (n + 4) (n + 2) (n + 3) .none ∧ IsPair h (n + 2) (.ref n) (.ref (n + 1)) ∧ (∃ x y, IsPair h (n + 3) x y) ∧ h.IsListIter n a i ∧ h.IsListIter (n + 1) b i) where
  mem := by simp
  obj := fun i h st c hc => by
    obtain ⟨z1, z2, ⟨x, y, z3⟩, ⟨o4, e4, c4, d4⟩, ⟨o5, e5, c5, d5⟩⟩ := st
    simp only [List.mem_cons, List.not_mem_nil, or_false] at hc
    rcases hc with rfl | rfl | rfl | rfl | rfl
    · exact ⟨_, z1, fun v z => by cases z⟩
    · exact ⟨_, z2, fun v z => by cases z⟩
    · exact ⟨_, z3, fun v z => by cases z⟩
    · exact ⟨_, e4, fun v z => by rw [d4] at z; cases z⟩
    · exact ⟨_, e5, fun v z => by rw [d5] at z; cases z⟩
  keep := fun i h h' st k => by
    obtain ⟨z1, z2, ⟨x, y, z3⟩, z4, z5⟩ := st
    exact ⟨k _ (by simp) _ z1, k _ (by simp) _ z2, ⟨x, y, k _ (by simp) _ z3⟩, z4.at fun o e => k _ (by simp) o e, z5.at fun o e => k _ (by simp) o e⟩
  item := by
    intro X hP hw hK hc i pins s σ H E I hf st hg
    subst hP hw hK
    obtain ⟨xs, ys, x, y, hqa, hqb, hx, hy⟩ := hg
    obtain ⟨its, rv, p, hz⟩ := I.list hqa
    obtain ⟨jts, rw', p', hz'⟩ := I.list hqb
    obtain ⟨u, hu, ru⟩ := rv.get hx
    obtain ⟨u', hu', ru'⟩ := rw'.get hy
    obtain ⟨z1, z2, ⟨x0, y0, z3⟩, z4, z5⟩ := st
    have D : ZipApart (n + 4) (n + 2) (n + 3) n (n + 1) a b := PyProof.Rows.zipApart_new ha hb
    have ltz : n + 4 < s.heap.objs.size := Heap.lt_size z1
    refine wpAny_pyNext_zip_item D z1 z2 z3 z4 z5 p.isList p'.isList (x := u) (y := u') (by simpa using hu) (by simpa using hu') fun h' a1 a2 a3 a4 a5 a6 hk => ?_
    refine ⟨_, rfl, wpAny_letOwnedTupleGo_zip (s := { s with heap := h' }) a1 fun h2 b1 hs => ?_⟩
    have neT : ∀ {c : Addr}, c ≤ n + 4 → c ≠ s.heap.objs.size := fun h => Nat.ne_of_lt (Nat.lt_of_le_of_lt h ltz)
    have kk : ∀ c o, c ∉ [n + 4, n + 3, n, n + 1] → s.heap.get? c = some o → h2.get? c = some o := fun c o hc e => by
      simp only [List.mem_cons, List.not_mem_nil, or_false, not_or] at hc
      exact (hs.2 c hc.1).trans (hk c o hc.1 hc.2.1 hc.2.2.1 hc.2.2.2 e)
    have q2 : h2.get? (n + 2) = _ := kk _ _ (by simp only [List.mem_cons, List.not_mem_nil, or_false, not_or]; exact ⟨D.TIz, D.TITO, D.TIi1, D.TIi2⟩) z2
    have q3 : h2.get? (n + 3) = _ := (hs.2 _ D.TOz).trans a2
    obtain ⟨o4, e4, c4⟩ := a3
    obtain ⟨o5, e5, c5⟩ := a4
    have q4 : h2.get? n = _ := (hs.2 _ D.i1z).trans e4
    have q5 : h2.get? (n + 1) = _ := (hs.2 _ D.i2z).trans e5
    have qT : h2.get? s.heap.objs.size = _ := (hs.2 _ (Ne.symm (neT (Nat.le_refl _)))).trans a5
    have sub : ∀ c ∈ [n + 4, n + 3, n, n + 1], c ∈ [n + 4, n + 2, n + 3, n, n + 1] := fun c hc => by
      simp only [List.mem_cons, List.not_mem_nil, or_false] at hc ⊢
      rcases hc with e | e | e | e
      · exact .inl e
      · exact .inr (.inr (.inl e))
      · exact .inr (.inr (.inr (.inl e)))
      · exact .inr (.inr (.inr (.inr e)))
    have I1 : Inv X pins σ (upd H s.heap.objs.size (.tup [x, y])) { s with heap := h2, toks := s.toks } := I.turnedL (ch := [n + 4, n + 3, n, n + 1]) kk (fun c hc => hf c (sub c hc)) (fun c hc => by
        simp only [List.mem_cons, List.not_mem_nil, or_false] at hc
        rcases hc with rfl | rfl | rfl | rfl
        · exact ⟨_, b1⟩
        · exact ⟨_, q3⟩
        · exact ⟨_, q4⟩
        · exact ⟨_, q5⟩) (Nat.le_refl _) ⟨by show 2 ≤ sizeLine; decide, [u, u'], .cons ru (.cons ru' .nil), _, qT, rfl, _, rfl⟩
    refine ⟨.ref s.heap.objs.size, _, I1, rfl, ⟨_, rfl, I.hok.fresh (Nat.le_refl _), fun vs ws hv hw => ?_⟩, ⟨b1, q2, ⟨_, _, q3⟩, ⟨_, q4, c4⟩, ⟨_, q5, c5⟩⟩, fun c hc => ?_⟩
    · rw [I.list_inj hv hqa, I.list_inj hw hqb]
      exact ⟨x, y, hx, hy, rfl⟩
    · have hle : c ≤ n + 4 := by
        simp only [List.mem_cons, List.not_mem_nil, or_false] at hc
        rcases hc with rfl | rfl | rfl | rfl | rfl
        · exact Nat.le_refl _
        · exact Nat.le_add_right (n + 2) 2
        · exact Nat.le_add_right (n + 3) 1
        · exact Nat.le_add_right _ 4
        · exact Nat.le_add_right (n + 1) 3
      rw [upd_ne (neT hle)]
      exact (hf c hc).1
  done := by
    intro X hP hw hK hc i pins s σ H E I hf st hg
    subst hP hw hK
    obtain ⟨xs, ys, hqa, hqb, hl⟩ := hg
    obtain ⟨its, rv, p, hz⟩ := I.list hqa
    obtain ⟨jts, rw', p', hz'⟩ := I.list hqb
    obtain ⟨z1, z2, ⟨x0, y0, z3⟩, z4, z5⟩ := st
    have D : ZipApart (n + 4) (n + 2) (n + 3) n (n + 1) a b := PyProof.Rows.zipApart_new ha hb
    have l1 := rv.length
    have l2 := rw'.length
    refine wpAny_pyNext_zip_end (I.ok.hd hc) D z1 z2 z3 z4 z5 p.isList p'.isList ?_ fun h' hk => ⟨rfl, ?_⟩
    · rcases hl with h | h
      · exact .inl (by simp; omega)
      · exact .inr (by simp; omega)
    · have fp : ∀ c ∈ [n + 4, n + 3, n, n + 1], FpOk X pins H c := fun c hc => hf c (by
        simp only [List.mem_cons, List.not_mem_nil, or_false] at hc ⊢
        rcases hc with e | e | e | e
        · exact .inl e
        · exact .inr (.inr (.inl e))
        · exact .inr (.inr (.inr (.inl e)))
        · exact .inr (.inr (.inr (.inr e))))
      have kk : ∀ c o, c ∉ [n + 4, n + 3, n, n + 1] → s.heap.get? c = some o → h'.get? c = some o := fun c o hc e => by
        simp only [List.mem_cons, List.not_mem_nil, or_false, not_or] at hc
        exact hk c o hc.1 hc.2.1 hc.2.2.1 hc.2.2.2 e
      have nit : ∀ c u, H c = some u → c ∉ [n + 4, n + 3, n, n + 1] := fun c u e z => by rw [(fp c z).1] at e; cases e
      refine I.step (g' := s.gens) (d' := s.drawn) (t' := s.toks) (ch := [n + 4, n + 3, n, n + 1]) (fun c hc => ⟨(fp c hc).2.2.2.1, (fp c hc).2.1, (fp c hc).2.2.2.2.1, (fp c hc).2.2.2.2.2⟩) (fun c o _ _ hc e _ => kk c o hc e) (fun c o _ _ hc e _ => ⟨o.slots, kk c o hc e⟩) (fun _ _ _ _ n => n)
        (fun c o hc e => ⟨o, kk c o hc e⟩) (fun _ _ e => e) (fun _ _ _ e => e) (fun _ ps e => ⟨#[], by rw [e]; simp⟩) (fun m hm => ?_) (fun c u e => ?_) I.bare
      · obtain ⟨ob, es, ep, ho, r⟩ := hm
        exact ⟨ob, es, ep, kk _ ob (fun z => (fp _ z).2.1 rfl) ho, r⟩
      · refine (I.hok c u e).stay (fun d v hd q => kk d v ?_ q) (fun _ e' => e') fun _ _ e' => e'
        rcases hd with z | z
        · rw [z]; exact nit c u e
        · exact nit d _ z
  self := fun _ _ _ _ _ st h => wpAny_pyIter_zip st.1 h
section
variable {X : Cx} {elts : List Expr} {kt : Nat} {pt : Pos}
end
end L2
set_option Elab.async false
set_option maxRecDepth 100000
namespace L2
open PySem PySem.Spec PyProof.Rows
section
variable {σ : St} {H : Hp} {Q : VK} {D : Ends} {QB : Bool → Hp → Prop} {QA : List V → Hp → Prop}
theorem rd_next (h : D.nx σ H) : tNext D σ H := h
theorem rd_asg {te : TE} {g : TG} (h : te σ H fun x H1 => g x σ H1 D.nx) : tAsg te g D σ H := h
theorem rd_name {i : Nat} {v : V} {Q : St → Hp → Prop} (h : Q (σ.set i (some v)) H) : gName i v σ H Q := h
theorem rd_ret {te : TE} (h : te σ H D.rt) : tRet te D σ H := h
theorem rd_drop {te : TE} (h : te σ H fun _ H1 => D.nx σ H1) : tDrop te D σ H := h
theorem rd_ifS {c : TT} {t u : TS} (h : c σ H fun b H1 => if b = true then t D σ H1 else u D σ H1) : tIfS c t u D σ H := h
theorem rd_tB {t : TE} (h : t σ H fun x H1 => ∃ c, x = .bl c ∧ QB c H1) : tB t σ H QB := h
theorem rd_tTest {t : TE} (h : t σ H fun x H1 => ∃ c, x = .bl c ∧ QB c H1) : tTest t σ H QB := h
theorem rd_exbl {b : Bool} {P : Bool → Prop} (h : P b) : ∃ c, V.bl b = V.bl c ∧ P c := ⟨b, rfl, h⟩
theorem rd_exref {a : Addr} {P : Addr → Prop} (h : P a) : ∃ c, V.ref a = V.ref c ∧ P c := ⟨a, rfl, h⟩
theorem rd_exint {i : Int} {P : Int → Prop} (h : P i) : ∃ c, V.int i = V.int c ∧ P c := ⟨i, rfl, h⟩
theorem rd_var {i : Nat} {v : V} (e : σ[i]? = some (some v)) (h : Q v H) : tVar i σ H Q := ⟨v, e, h⟩
theorem rd_c {v : V} (h : Q v H) : tC v σ H Q := h
theorem rd_op {r : R2} {ta tb : TE} (h : ta σ H fun x H1 => tb σ H1 fun y H2 => r x y H2 Q) : tOp r ta tb σ H Q := h
theorem rd_un {r : V → Hp → VK → Prop} {ta : TE} (h : ta σ H fun x H1 => r x H1 Q) : tUn r ta σ H Q := h
theorem rd_andV {ta tb : TE} (h : ta σ H fun x H1 => ∃ c, x = .bl c ∧ if c = true then tb σ H1 Q else Q (.bl false) H1) : tAndV ta tb σ H Q := h
theorem rd_orV {ta tb : TE} (h : ta σ H fun x H1 => ∃ c, x = .bl c ∧ if c = true then Q (.bl true) H1 else tb σ H1 Q) : tOrV ta tb σ H Q := h
theorem rd_notV {ta : TE} (h : ta σ H fun x H1 => ∃ c, x = .bl c ∧ Q (.bl (!c)) H1) : tNotV ta σ H Q := h
theorem rd_and {t u : TT} (h : t σ H fun c H1 => if c = true then u σ H1 QB else QB false H1) : tAnd t u σ H QB := h
theorem rd_or {t u : TT} (h : t σ H fun c H1 => if c = true then QB true H1 else u σ H1 QB) : tOr t u σ H QB := h
theorem rd_not {t : TT} (h : t σ H fun c H1 => QB (!c) H1) : tNot t σ H QB := h
theorem rd_true (h : QB true H) : tTrue σ H QB := h
theorem rd_I0 {g : Int → Int → V} {i j : Int} (h : Q (g i j) H) : rI0 g (.int i) (.int j) H Q := ⟨i, j, rfl, rfl, h⟩
theorem rd_I {C : Int → Int → Prop} {g : Int → Int → V} {i j : Int} (c : C i j) (h : Q (g i j) H) : rI C g (.int i) (.int j) H Q := ⟨i, j, rfl, rfl, c, h⟩
theorem rd_U {g : Int → V} {i : Int} (h : Q (g i) H) : rU g (.int i) H Q := ⟨i, rfl, h⟩
theorem rd_eqI {i j : Int} (h : Q (.bl (decide (i = j))) H) : rEq (.int i) (.int j) H Q := ⟨rfl, by
 rw [dec_int, Int.instDecidableEq.eq_def] <;> first | exact h | (simpa [dec_int] using h)⟩
theorem rd_neI {i j : Int} (h : Q (.bl (!decide (i = j))) H) : rNe (.int i) (.int j) H Q := ⟨rfl, by
 have e : decide (V.int i = V.int j) = decide (i = j) := by by_cases z : i = j <;> simp [z]
 rw [e]; exact h⟩
theorem rd_eqS {i j : Str} (h : Q (.bl (decide (i = j))) H) : rEq (.str i) (.str j) H Q := ⟨rfl, by
 have e : decide (V.str i = V.str j) = decide (i = j) := by by_cases z : i = j <;> simp [z]
 rw [e]; exact h⟩
theorem rd_eqB {i j : Bool} (h : Q (.bl (decide (i = j))) H) : rEq (.bl i) (.bl j) H Q := ⟨rfl, by
 have e : decide (V.bl i = V.bl j) = decide (i = j) := by by_cases z : i = j <;> simp [z]
 rw [e]; exact h⟩
theorem rd_neB {i j : Bool} (h : Q (.bl (!decide (i = j))) H) : rNe (.bl i) (.bl j) H Q := ⟨rfl, by
 have e : decide (V.bl i = V.bl j) = decide (i = j) := by by_cases z : i = j <;> simp [z]
 rw [e]; exact h⟩
theorem rd_ixL {K : PySem.W.Frag} {p : Addr} {xs : List V} {i : Int} {v : V} (h : SqL K H p xs) (e : atI xs i = some v) (q : Q v H) : rIxL K (.ref p) (.int i) H Q := ⟨p, xs, i, v, rfl, rfl, h, e, q⟩
theorem rd_ixT {K : PySem.W.Frag} {p : Addr} {xs : List V} {i : Int} {v : V} (h : SqT K H p xs) (e : atI xs i = some v) (q : Q v H) : rIxT K (.ref p) (.int i) H Q := ⟨p, xs, i, v, rfl, rfl, h, e, q⟩
theorem rd_ixsL {K : PySem.W.Frag} {p : Addr} {xs : List V} {i : Int} {v : V} (h : SqL K H p xs) (e : atI xs i = some v) (q : Q v H) : rIx K (.ref p) (.int i) H Q := .inl (rd_ixL h e q)
theorem rd_ixsT {K : PySem.W.Frag} {p : Addr} {xs : List V} {i : Int} {v : V} (h : SqT K H p xs) (e : atI xs i = some v) (q : Q v H) : rIx K (.ref p) (.int i) H Q := .inr (.inl (rd_ixT h e q))
theorem rd_chain {r r' : R2} {ta tb tc : TE} (h : ta σ H fun x H1 => tb σ H1 fun y H2 => r x y H2 fun z H3 => ∃ k, z = .bl k ∧ if k = true then tc σ H3 fun y' H4 => r' y y' H4 Q else Q (.bl false) H3) : tChain r r' ta tb tc σ H Q := h
theorem rd_call {sp : Sp} {dvs : List V} {E : XK} {t : TA} (h : t σ H fun vs H1 => sp (vs ++ dvs) H1 Q E) : tCall sp dvs E t σ H Q := h
theorem rd_nil (h : QA [] H) : tNil σ H QA := h
theorem rd_cons {ta : TE} {tr : TA} (h : ta σ H fun x H1 => tr σ H1 fun xs H2 => QA (x :: xs) H2) : tCons ta tr σ H QA := h
theorem rd_CB {r : List V → Hp → VK → Prop} {t : TA} (h : t σ H fun vs H1 => r vs H1 Q) : tCB r t σ H Q := h
theorem rd_tup {t : TA} (h : t σ H fun xs H1 => xs.length ≤ sizeLine ∧ ∀ p, H1 p = none → Q (.ref p) (upd H1 p (.tup xs))) : tTup t σ H Q := h
theorem rd_lst {t : TA} (h : t σ H fun xs H1 => xs.length ≤ sizeLine ∧ ∀ p, H1 p = none → Q (.ref p) (upd H1 p (.lst xs))) : tLst t σ H Q := h
end
end L2
set_option Elab.async false
set_option maxRecDepth 100000
namespace L2
open PySem PySem.Spec PyProof.Rows
theorem kit_ii {K : PySem.W.Frag} : PySem.W.kitOne K (.type "int") (.type "int") = some true := by kernel_rfl
theorem kit_ib {K : PySem.W.Frag} : PySem.W.kitOne K (.type "int") (.type "bool") = some false := by kernel_rfl
section
variable {X : Cx} {K : PySem.W.Frag} {H : Hp} {Q : VK} {σ : St}
def rIsi (K : PySem.W.Frag) : List V → Hp → VK → Prop := fun xs H Q => ∃ x n t b, xs = [x, .ty n] ∧ TyOf K H x t ∧ PySem.W.kitOne K t (.type n) = some b ∧ Q (.bl b) H
theorem cI_isinst : CallR X (.builtin "isinstance") (rIsi X.K) := call_isinst
theorem rd_isi {x : V} {n : String} {t : Value} {b : Bool} (ty : TyOf K H x t) (e : PySem.W.kitOne K t (.type n) = some b) (h : Q (.bl b) H) : rIsi K [x, .ty n] H Q := ⟨x, n, t, b, rfl, ty, e, h⟩
def rLen (K : PySem.W.Frag) : List V → Hp → VK → Prop := fun xs H Q => ∃ p ys, xs = [.ref p] ∧ (SqL K H p ys ∨ SqT K H p ys) ∧ Q (.int ys.length) H
theorem cI_len : CallR X (.builtin "len") (rLen X.K) := call_len_seq
theorem rd_lenL {p : Addr} {ys : List V} (h : H p = some (.lst ys)) (q : Q (.int ys.length) H) : rLen K [.ref p] H Q := ⟨p, ys, rfl, .inl (SqL.of h), q⟩
theorem rd_lenT {p : Addr} {ys : List V} (h : H p = some (.tup ys)) (q : Q (.int ys.length) H) : rLen K [.ref p] H Q := ⟨p, ys, rfl, .inr (SqT.of h), q⟩
def rAll (K : PySem.W.Frag) : List V → Hp → VK → Prop := fun xs H Q => ∃ (p : Addr) (bs : List Bool), xs = [.ref p] ∧ SqL K H p (bs.map V.bl) ∧ Q (.bl (bs.all id)) H
theorem cI_all (hc : X.calm = true) : CallR X (.builtin "all") (rAll X.K) := call_all_bl hc
theorem rd_all {p : Addr} {bs : List Bool} (h : H p = some (.lst (bs.map V.bl))) (q : Q (.bl (bs.all id)) H) : rAll K [.ref p] H Q := ⟨p, bs, rfl, SqL.of h, q⟩
def rAbs : List V → Hp → VK → Prop := fun xs H Q => ∃ i, xs = [.int i] ∧ Q (.int (if i < 0 then -i else i)) H
theorem cI_abs : CallR X (.builtin "abs") rAbs := call_abs
theorem rd_abs {i : Int} (q : Q (.int (if i < 0 then -i else i)) H) : rAbs [.int i] H Q := ⟨i, rfl, q⟩
def rList (K : PySem.W.Frag) : List V → Hp → VK → Prop := fun xs H Q => ∃ p ys, xs = [.ref p] ∧ (SqL K H p ys ∨ SqT K H p ys) ∧ ∀ l, H l = none → Q (.ref l) (upd H l (.lst ys))
theorem cI_list : CallR X (.type "list") (rList X.K) := call_list_of
theorem rd_listL {p : Addr} {ys : List V} (h : H p = some (.lst ys)) (q : ∀ l, H l = none → Q (.ref l) (upd H l (.lst ys))) : rList K [.ref p] H Q := ⟨p, ys, rfl, .inl (SqL.of h), q⟩
theorem rd_listT {p : Addr} {ys : List V} (h : H p = some (.tup ys)) (q : ∀ l, H l = none → Q (.ref l) (upd H l (.lst ys))) : rList K [.ref p] H Q := ⟨p, ys, rfl, .inr (SqT.of h), q⟩
def rTuple (K : PySem.W.Frag) : List V → Hp → VK → Prop := fun xs H Q => ∃ p ys, xs = [.ref p] ∧ ((SqL K H p ys ∧ ∀ l, H l = none → Q (.ref l) (upd H l (.tup ys))) ∨ (SqT K H p ys ∧ Q (.ref p) H))
theorem cI_tuple : CallR X (.type "tuple") (rTuple X.K) := call_tuple_of
theorem rd_tupleL {p : Addr} {ys : List V} (h : H p = some (.lst ys)) (q : ∀ l, H l = none → Q (.ref l) (upd H l (.tup ys))) : rTuple K [.ref p] H Q := ⟨p, ys, rfl, .inl ⟨SqL.of h, q⟩⟩
def rFld (K : PySem.W.Frag) (f : Str) : V → Hp → VK → Prop := fun x H1 Q => ∃ a C dx fs v, x = .ref a ∧ H1 a = some (.ins C dx fs) ∧ Cls K C ∧ NoAttr K C f ∧ fs.lookup f = some v ∧ Q v H1
theorem rd_fld {ta : TE} {f : Str} (h : ta σ H fun x H1 => rFld K f x H1 Q) : tFld K ta f σ H Q := h
theorem rd_fldv {f : Str} {a C dx : Addr} {fs : List (Str × V)} {v : V} (h : H a = some (.ins C dx fs)) (c : Cls K C) (n : NoAttr K C f) (l : fs.lookup f = some v) (q : Q v H) : rFld K f (.ref a) H Q := ⟨a, C, dx, fs, v, rfl, h, c, n, l, q⟩
def rMeth (C : Addr) (m : Str) : V → Hp → Prop → Prop := fun x H1 q => ∃ a dx fs, x = .ref a ∧ H1 a = some (.ins C dx fs) ∧ fs.lookup m = none ∧ q
theorem rd_meth {C : Addr} {m : Str} {sp : Sp} {dvs : List V} {E : XK} {ta : TE} {t : TA} (h : ta σ H fun x H1 => rMeth C m x H1 (t σ H1 fun vs H2 => sp (x :: (vs ++ dvs)) H2 Q E)) : tMeth C m sp dvs E ta t σ H Q := h
theorem rd_methv {C a dx : Addr} {m : Str} {fs : List (Str × V)} {q : Prop} (h : H a = some (.ins C dx fs)) (l : fs.lookup m = none) (hq : q) : rMeth C m (.ref a) H q := ⟨a, dx, fs, rfl, h, l, hq⟩
theorem rd_make {C : Addr} {sp : Sp} {dvs : List V} {E : XK} {t : TA} (h : t σ H fun vs H1 => ∀ x dx, H1 x = none → H1 dx = none → dx ≠ x →
 sp (.ref x :: (vs ++ dvs)) (upd (upd H1 dx (.own x)) x (.ins C dx [])) (fun v H2 => v = .non ∧ Q (.ref x) H2) E) : tMake C sp dvs E t σ H Q := h
def rBM (K : PySem.W.Frag) (T : String) : V → Hp → Prop → Prop := fun x H1 q => tyV K T x H1 ∧ q
theorem rd_bm {T : String} {r : V → List V → Hp → VK → Prop} {to : TE} {t : TA} (h : to σ H fun x H1 => rBM K T x H1 (t σ H1 fun xs H2 => r x xs H2 Q)) : tBM K T r to t σ H Q := h
theorem rd_bmL {l : Addr} {xs : List V} {q : Prop} (h : H l = some (.lst xs)) (hq : q) : rBM K "list" (.ref l) H q := ⟨.inl ⟨rfl, _, SqL.of h⟩, hq⟩
theorem rd_append {l : Addr} {xs : List V} {y : V} (h : H l = some (.lst xs)) (z : xs.length < sizeLine) (q : Q .non (upd H l (.lst (xs ++ [y])))) : rAppend (.ref l) [y] H Q := ⟨l, xs, y, rfl, rfl, h, z, q⟩
theorem rd_sl {r : V → Option Int → Option Int → Hp → VK → Prop} {te : TE} {tl th : TO} (h : te σ H fun x H1 => tl σ H1 fun l H2 => th σ H2 fun u H3 => r x l u H3 Q) : tSl r te tl th σ H Q := h
theorem rd_nopart {Q : Option Int → Hp → Prop} (h : Q none H) : tNoPart σ H Q := h
theorem rd_part {t : TE} {Q : Option Int → Hp → Prop} (h : t σ H fun x H1 => ∃ i, x = .int i ∧ Q (some i) H1) : tPart t σ H Q := h
theorem rd_slL {a : Addr} {xs : List V} {lo hi : Option Int} (h : H a = some (.lst xs)) (q : ∀ p, H p = none → Q (.ref p) (upd H p (.lst (cutV xs lo hi)))) : rSlL K (.ref a) lo hi H Q := ⟨a, xs, rfl, SqL.of h, q⟩
def ForW (J : It) (g : TG) (tb : TS) (D : Ends) (σ : St) (H1 : Hp) : Prop := ∃ W : Nat → Nat → St → Hp → Prop, (∃ m, W 0 m σ H1) ∧ ∀ i m σ H, W i m σ H →
 (J.stop i H ∧ D.nx σ H) ∨ (J.go i H ∧ ∃ N : St → Hp → Prop, (∀ σ' H', N σ' H' → ∃ m', m' < m ∧ W (i + 1) m' σ' H') ∧ ∀ x H', J.yld i H x H' → g x σ H' fun σ2 H2 => tb { D with nx := N, ct := N, bk := D.nx } σ2 H2)
theorem rd_for {wi : TI} {g : TG} {tb : TS} {D : Ends} (h : wi σ H fun J H1 => ForW J g tb D σ H1) : tFor wi g tb D σ H := h
theorem forW_list {a : Addr} {xs : List V} {g : TG} {tb : TS} {D : Ends} (Pv : Nat → St → Hp → Prop) (h0 : Pv 0 σ H) (hl : ∀ i σ H, i ≤ xs.length → Pv i σ H → SqL K H a xs)
  (hs : ∀ i x σ H, xs[i]? = some x → Pv i σ H → g x σ H fun σ2 H2 => tb { D with nx := Pv (i + 1), ct := Pv (i + 1), bk := D.nx } σ2 H2) (hd : ∀ σ H, Pv xs.length σ H → D.nx σ H) : ForW (Itl K a) g tb D σ H := for_list Pv h0 hl hs hd
theorem forW_tup {a : Addr} {xs : List V} {g : TG} {tb : TS} {D : Ends} (Pv : Nat → St → Hp → Prop) (h0 : Pv 0 σ H) (hl : ∀ i σ H, i ≤ xs.length → Pv i σ H → SqT K H a xs)
  (hs : ∀ i x σ H, xs[i]? = some x → Pv i σ H → g x σ H fun σ2 H2 => tb { D with nx := Pv (i + 1), ct := Pv (i + 1), bk := D.nx } σ2 H2) (hd : ∀ σ H, Pv xs.length σ H → D.nx σ H) : ForW (Itt K a) g tb D σ H := for_tup Pv h0 hl hs hd
theorem forW_range {lo : Int} {n : Nat} {g : TG} {tb : TS} {D : Ends} (Pv : Nat → St → Hp → Prop) (h0 : Pv 0 σ H)
  (hs : ∀ i σ H, i < n → Pv i σ H → g (.int (lo + i)) σ H fun σ2 H2 => tb { D with nx := Pv (i + 1), ct := Pv (i + 1), bk := D.nx } σ2 H2) (hd : ∀ σ H, Pv n σ H → D.nx σ H) : ForW (Itr lo n) g tb D σ H := for_range Pv h0 hs hd
theorem rd_rng1 {ta : TA} {R : It → Hp → Prop} (h : ta σ H fun vs H1 => ∃ j : Int, vs = [.int j] ∧ -(2 ^ 62) ≤ j ∧ j < 2 ^ 62 ∧ R (Itr 0 j.toNat) H1) : iRng1 ta σ H R := h
theorem rd_ilist {tl : TE} {R : It → Hp → Prop} (h : tl σ H fun x H1 => ∃ a, x = .ref a ∧ (∃ xs, SqL K H1 a xs) ∧ R (Itl K a) H1) : iList K tl σ H R := h
theorem rd_itup {tl : TE} {R : It → Hp → Prop} (h : tl σ H fun x H1 => ∃ a, x = .ref a ∧ (∃ xs, SqT K H1 a xs) ∧ R (Itt K a) H1) : iTup K tl σ H R := h
end
theorem atI_ints {zs : List Int} {i : Int} (h0 : 0 ≤ i) (h1 : i < zs.length) : atI (zs.map V.int) i = some (.int (zs.getD i.toNat 0)) := by
 obtain ⟨k, rfl⟩ : ∃ k : Nat, i = (k : Int) := ⟨i.toNat, by omega⟩
 refine atI_nat ?_
 have hk : k < zs.length := by omega
 simp [hk]
theorem Same.new {H : Hp} {p : Addr} {o : HO} (h : H p = none) : Same H (upd H p o) := fun b u e => by rw [upd_ne (ne_of_none e h)]; exact e
theorem Same.later {H0 H : Hp} {p : Addr} {o : HO} (s : Same H0 H) (h : H0 p = none) : Same H0 (upd H p o) := fun b u e => by rw [upd_ne (ne_of_none e h)]; exact s b u e
end L2
set_option Elab.async false
set_option maxRecDepth 100000
namespace L2
open PySem PySem.Spec PyProof.Rows
theorem iteNN {b : Bool} {A B : Prop} (h : if b = true then B else A) : if (!b) = true then A else B := by cases b <;> exact h
section
variable {prog : Program} {w : World} {A : Around} {E : Value → Shared → Prop} {s : Shared}
theorem getItem_tuple_whole {t sl : Addr} {items : Array Value} {vl vu : Value} {lo hi : Option Int} {Q : Value → Shared → Prop} (ht : IsTup s.heap t items) (hs : s.heap.IsSliceOf sl vl vu .none) (pl : IsPart vl lo) (pu : IsPart vu hi)
  (hw : HT.sIx items.size 0 lo = 0 ∧ HT.sIx items.size items.size hi = items.size) (h : Q (.ref t) s) : wpAny (model prog w) A (getItem (.ref t) (.ref sl)) Q E s := by
 obtain ⟨os, hos, hcs, hds⟩ := id hs
 have hTs : s.TypeIs (.ref sl) "slice" := ⟨os, hos, hcs⟩
 unfold getItem
 try with_reducible refine wpAny_holding ?_
 first | refine wpAny_bind (wpAny_pure ?_) | skip
 refine wpAny_bind (wpAny_sequenceKey ht.typeIs (by decide) ?_)
 refine wpAny_bind (wpAny_callSpecial?_slot (name := Str.ofString "__getitem__") ht.typeIs PyProof.Rows.slot_tuple_getitem
  (wpAny_call_entry PyProof.Rows.slot_tuple_getitem ht.typeIs entry_tuple_getitem ?_ (args_tuple_getitem _ _)))
 show wpAny _ _ (Builtin.Tuple.tupleItemsOf (.ref t) >>= _) _ _ s
 refine wpAny_bind (tupleItemsOf_ ht ?_)
 refine wpAny_bind (wpAny_typeOf hTs ?_)
 rw [if_pos (by decide)]
 refine wpAny_bind (HT.sliceApplied_gen hs pl pu ?_)
 have hyes : (((HT.sIx items.size 0 lo : Nat) : Int) == 0 && (1 : Int) == 1 && (HT.sIx items.size items.size hi - HT.sIx items.size 0 lo) == items.size) = true := by
  rw [hw.1, hw.2]; simp
 show wpAny _ _ (if (((HT.sIx items.size 0 lo : Nat) : Int) == 0 && (1 : Int) == 1 && (HT.sIx items.size items.size hi - HT.sIx items.size 0 lo) == items.size) = true then _ else _) _ _ s
 rw [if_pos hyes]
 unfold Builtin.Tuple.tupleIsExact
 refine wpAny_bind (wpAny_bind (wpAny_typeOf ht.typeIs (wpAny_pure ?_)))
 rw [if_pos (by decide)]
 first
  | exact wpAny_bind (wpAny_rule (wpAny_pure ⟨_, rfl, wpAny_pure h⟩))
  | exact wpAny_bind (wpAny_rule (wpAny_bind (wpAny_pure (wpAny_pure ⟨_, rfl, wpAny_pure h⟩))))
  | exact wpAny_bind (wpAny_bind (wpAny_rule (wpAny_pure ⟨_, rfl, wpAny_pure h⟩)))
end
def rSlT' (K : PySem.W.Frag) : V → Option Int → Option Int → Hp → VK → Prop := fun x lo hi H Q => ∃ a xs, x = .ref a ∧ H a = some (.tup xs) ∧ ∀ H1 p, Same H H1 → H1 p = some (.tup (cutV xs lo hi)) → Q (.ref p) H1
theorem sl_tup' {X : Cx} : SlR X (rSlT' X.K) := by
 intro pins s σ H x v vl vu lo hi sl Q I rx hs pl pu h
 obtain ⟨a, xs, rfl, hx, q⟩ := h
 by_cases hw : HT.sIx xs.length 0 lo = 0 ∧ HT.sIx xs.length xs.length hi = xs.length
 ·cases rx
  obtain ⟨its, r, ht, hz⟩ := I.tuple (SqT.of hx)
  have hlen : its.toArray.size = xs.length := by rw [List.size_toArray]; exact r.length.symm
  refine ⟨"tuple", _, PyProof.Rows.slot_tuple_getitem.lookup, ht.typeIs, getItem_tuple_whole ht hs pl pu (by rw [hlen]; exact hw) ⟨.ref a, H, I, rfl, q H a (Same.refl _) ?_⟩⟩
  rw [hx]
  unfold cutV
  rw [hw.1, hw.2, List.drop_zero, Nat.sub_zero, List.take_of_length_le (Nat.le_refl _)]
 ·exact sl_tup pins s σ H _ v vl vu lo hi sl Q I rx hs pl pu ⟨a, xs, rfl, SqT.of hx, hw, fun p hp => q _ p (Same.new hp) upd_same⟩
theorem rd_slT {K : PySem.W.Frag} {H : Hp} {Q : VK} {a : Addr} {xs : List V} {lo hi : Option Int} (h : H a = some (.tup xs)) (q : ∀ H1 p, Same H H1 → H1 p = some (.tup (cutV xs lo hi)) → Q (.ref p) H1) : rSlT' K (.ref a) lo hi H Q := ⟨a, xs, rfl, h, q⟩
def CompW (J : It) (g : TG) (tt : TT) (te : TE) (cap : List (Option Nat)) (l : Addr) (σ : St) (H1 : Hp) (Q : VK) : Prop :=
 ∃ (n : Nat) (Pv : Nat → List V → St → Hp → Prop), Pv 0 [] (capS cap σ) (upd H1 l (.lst [])) ∧
  (∀ i ys σ' H', i < n → Pv i ys σ' H' → J.go i H' ∧ ∀ x H2, J.yld i H' x H2 → g x σ' H2 fun σ3 H3 => tt σ3 H3 fun b H4 =>
   if b = true then te σ3 H4 fun y H5 => H5 l = some (.lst ys) ∧ ys.length < sizeLine ∧ Pv (i + 1) (ys ++ [y]) σ3 (upd H5 l (.lst (ys ++ [y]))) else Pv (i + 1) ys σ3 H4) ∧
  ∀ ys σ' H', Pv n ys σ' H' → J.stop n H' ∧ Q (.ref l) H'
section
variable {K : PySem.W.Frag} {σ : St} {H : Hp} {Q : VK} {te : TE} {cap : List (Option Nat)} {l : Addr}
theorem rd_comp {wi : TI} {g : TG} {tt : TT} (h : wi σ H fun J H1 => ∀ l, H1 l = none → CompW J g tt te cap l σ H1 Q) : tComp wi g tt te cap σ H Q := h
theorem take_succ_map {α β : Type} (F : α → β) (xs : List α) (i : Nat) {x : α} (h : xs[i]? = some x) : (xs.take (i + 1)).map F = (xs.take i).map F ++ [F x] := by
 rw [List.take_add_one, h, List.map_append]
 rfl
theorem compW_list {a : Addr} {xs : List V} (F : V → V) (hs : SqL K H a xs) (hz : xs.length ≤ 1000) (hl : H l = none)
  (step : ∀ x o H' (Q' : VK), x ∈ xs → Same H H' → (∀ H5, Same H' H5 → Q' (F x) H5) → te (((capS (none :: cap) σ).set 0 o).set 0 (some x)) H' Q')
  (fin : ∀ H', Same H H' → H' l = some (.lst (xs.map F)) → Q (.ref l) H') : CompW (Itl K a) (gName 0) tTrue te (none :: cap) l σ H Q := by
 refine ⟨xs.length, fun i ys σ' H' => ys = (xs.take i).map F ∧ (∃ o, σ' = (capS (none :: cap) σ).set 0 o) ∧ Same H H' ∧ H' l = some (.lst ys), ⟨rfl, ⟨none, rfl⟩, Same.new hl, upd_same⟩, ?_, ?_⟩
 ·rintro i ys σ' H' hi ⟨rfl, ⟨o, rfl⟩, s, e⟩
  refine ⟨⟨xs, xs[i], s.seq hs, by simp [hi]⟩, fun x H2 y => ?_⟩
  obtain ⟨e2, y⟩ := y
  subst e2
  have hx := y xs (s.seq hs)
  refine rd_name (rd_true (iteT ?_))
  refine step x o H2 _ (List.mem_of_getElem? hx) s fun H5 s5 => ⟨s5 _ _ e, ?_, ?_⟩
  ·rw [List.length_map, List.length_take]
   exact small1000 (by omega)
  ·exact ⟨(take_succ_map F xs i hx).symm, ⟨_, List.set_set ..⟩, (s.trans s5).later hl, upd_same⟩
 ·rintro ys σ' H' ⟨rfl, _, s, e⟩
  rw [List.take_of_length_le (Nat.le_refl _)] at e
  exact ⟨⟨xs, s.seq hs, Nat.le_refl _⟩, fin H' s e⟩
theorem compW_range {n : Nat} (F : Nat → V) (hz : n ≤ 1000) (hl : H l = none)
  (step : ∀ i o H' (Q' : VK), i < n → Same H H' → (∀ H5, Same H' H5 → Q' (F i) H5) → te (((capS (none :: cap) σ).set 0 o).set 0 (some (.int ((0 : Int) + (i : Nat))))) H' Q')
  (fin : ∀ H', Same H H' → H' l = some (.lst ((List.range n).map F)) → Q (.ref l) H') : CompW (Itr 0 n) (gName 0) tTrue te (none :: cap) l σ H Q := by
 refine ⟨n, fun i ys σ' H' => ys = (List.range i).map F ∧ (∃ o, σ' = (capS (none :: cap) σ).set 0 o) ∧ Same H H' ∧ H' l = some (.lst ys), ⟨rfl, ⟨none, rfl⟩, Same.new hl, upd_same⟩, ?_, ?_⟩
 ·rintro i ys σ' H' hi ⟨rfl, ⟨o, rfl⟩, s, e⟩
  refine ⟨hi, fun x H2 y => ?_⟩
  obtain ⟨e2, rfl⟩ := y
  subst e2
  refine rd_name (rd_true (iteT ?_))
  refine step i o H2 _ hi s fun H5 s5 => ⟨s5 _ _ e, ?_, ?_⟩
  ·rw [List.length_map, List.length_range]
   exact small1000 (by omega)
  ·refine ⟨?_, ⟨_, List.set_set ..⟩, (s.trans s5).later hl, upd_same⟩
   rw [List.range_succ, List.map_append]
   rfl
 ·rintro ys σ' H' ⟨rfl, _, s, e⟩
  exact ⟨Nat.le_refl _, fin H' s e⟩
def rSFld (K : PySem.W.Frag) (f : Str) (y x : V) (H2 : Hp) (k : Hp → Prop) : Prop := ∃ a C dx fs, x = .ref a ∧ H2 a = some (.ins C dx fs) ∧ Cls K C ∧ NoAttr K C f ∧ fs.length < 1000 ∧ k (upd H2 a (.ins C dx (putF f y fs)))
theorem rd_sfld {D : Ends} {ta tv : TE} {f : Str} (h : tv σ H fun y H1 => ta σ H1 fun x H2 => rSFld K f y x H2 fun H3 => D.nx σ H3) : sFld K ta tv f D σ H := h
theorem rd_sfldv {f : Str} {y : V} {k : Hp → Prop} {a C dx : Addr} {fs : List (Str × V)} (h : H a = some (.ins C dx fs)) (c : Cls K C) (n : NoAttr K C f) (z : fs.length < 1000) (q : k (upd H a (.ins C dx (putF f y fs)))) : rSFld K f y (.ref a) H k := ⟨a, C, dx, fs, rfl, h, c, n, z, q⟩
def WhileW (c : TT) (tb : TS) (D : Ends) (σ : St) (H : Hp) : Prop := ∃ W : Nat → St → Hp → Prop, (∃ m, W m σ H) ∧ ∀ m σ H, W m σ H →
 c σ H fun b H1 => if b = true then ∃ N : St → Hp → Prop, (∀ σ' H', N σ' H' → ∃ m', m' < m ∧ W m' σ' H') ∧ tb { D with nx := N, ct := N, bk := D.nx } σ H1 else D.nx σ H1
theorem rd_while {D : Ends} {c : TT} {tb : TS} (h : WhileW c tb D σ H) : tWhile c tb D σ H := h
theorem rd_gtup {n : Nat} {tt : TGs} {a : Addr} {xs : List V} {QS : St → Hp → Prop} (h : H a = some (.tup xs)) (hl : xs.length = n) (q : tt xs σ H QS) : gTup K n tt (.ref a) σ H QS := ⟨a, xs, rfl, SqT.of h, hl, q⟩
theorem rd_gcons {tg : TG} {u : TGs} {v : V} {r : List V} {QS : St → Hp → Prop} (h : tg v σ H fun σ' H' => u r σ' H' QS) : gCons tg u (v :: r) σ H QS := ⟨v, r, rfl, h⟩
theorem rd_gnil {QS : St → Hp → Prop} (h : QS σ H) : gNil [] σ H QS := ⟨rfl, h⟩
end
section
variable {X : Cx} (K : PySem.W.Frag) (h : X.K = K)
include h
theorem ix_listK : IxR X (rIxL K) := h ▸ ix_list
theorem ix_tupK : IxR X (rIxT K) := h ▸ ix_tup
theorem ix_seqK : IxR X (rIx K) := h ▸ ix_seq
theorem cI_isinstK : CallR X (.builtin "isinstance") (rIsi K) := h ▸ cI_isinst
theorem cI_lenK : CallR X (.builtin "len") (rLen K) := h ▸ cI_len
theorem cI_allK (hc : X.calm = true) : CallR X (.builtin "all") (rAll K) := h ▸ cI_all hc
theorem cI_listK : CallR X (.type "list") (rList K) := h ▸ cI_list
theorem cI_tupleK : CallR X (.type "tuple") (rTuple K) := h ▸ cI_tuple
theorem sl_listK : SlR X (rSlL K) := h ▸ sl_list
theorem sl_tupK : SlR X (rSlT' K) := h ▸ sl_tup'
theorem pe_fldK {e : Expr} {ta : TE} {f : Str} {pos : Pos} (he : PE X e ta) (hb : attributeBase e f X.env (eval e X.env) = eval e X.env) : PE X (.Attribute e f pos) (tFld K ta f) := h ▸ pe_fld he hb
end
theorem cutV_drop {zs : List Int} {k : Nat} : cutV (zs.map V.int) (some (k : Int)) none = (zs.drop k).map V.int := by
 unfold cutV
 rw [HT.sIx_none, HT.sIx_nat, List.length_map]
 rcases Nat.le_total k zs.length with h | h
 ·rw [Nat.min_eq_left h, ← List.map_drop, List.take_of_length_le (by rw [List.length_map, List.length_drop]; omega)]
 ·rw [Nat.min_eq_right h, List.drop_eq_nil_of_le h, Nat.sub_self, List.take_zero]; rfl
theorem getD_mem {α : Type} {zs : List α} {k : Nat} {d : α} (h : k < zs.length) : zs.getD k d ∈ zs := by
 rw [List.getD_eq_getElem?_getD, List.getElem?_eq_getElem h]
 exact List.getElem_mem h
end L2
set_option Elab.async false
set_option maxRecDepth 100000
namespace L2
open PySem PySem.Spec PyProof.Rows
theorem pg_tupK {X : Cx} (K : PySem.W.Frag) (hK : X.K = K) {es : List Expr} {k : Nat} {t : TGs} {n : Nat} {pos : Pos} (hc : X.calm = true) (h : PGs X es t)
  (hn : (assignEach es X.env).length = n := by rfl) (hst : (assignEach es X.env).findIdx? (·.1) = none := by rfl) : PG X (.Tuple es k pos) (gTup K n t) := hK ▸ pg_tup hc h hn hst
theorem repL_ints {H : Hp} : ∀ (ns : List Int), RepL H (ns.map PyData.int) (ns.map V.int)
 | [] => by simp only [List.map_nil, RepL]
 | n :: r => by
  simp only [List.map_cons, RepL, Rep]
  exact ⟨_, _, rfl, rfl, repL_ints r⟩
theorem rep_ints {H : Hp} {a : Addr} {ns : List Int} (h : H a = some (.lst (ns.map V.int))) : Rep H (.list (ns.map PyData.int)) (.ref a) := by
 simp only [Rep]
 exact ⟨a, _, rfl, h, repL_ints ns⟩
theorem repL_get {H : Hp} : ∀ {ds : List PyData} {xs : List V}, RepL H ds xs → ds.length = xs.length ∧ ∀ (i : Nat) x, xs[i]? = some x → ∃ d, ds[i]? = some d ∧ Rep H d x
 | [], xs, h => by simp only [RepL] at h; subst h; exact ⟨rfl, fun i x e => by simp at e⟩
 | d :: ds, xs, h => by
  simp only [RepL] at h
  obtain ⟨x, r, rfl, h1, h2⟩ := h
  obtain ⟨l, g⟩ := repL_get h2
  refine ⟨by simp [l], fun i y e => ?_⟩
  cases i with
  | zero => simp at e; subst e; exact ⟨d, rfl, h1⟩
  | succ i => exact g i y (by simpa using e)
theorem compW_zip {K : PySem.W.Frag} {σ : St} {H : Hp} {Q : VK} {te : TE} {l a b : Addr} {xs ys : List V} (F : Nat → V) (hx : H a = some (.lst xs)) (hy : H b = some (.lst ys)) (he : xs.length = ys.length) (hz : xs.length ≤ 1000) (hl : H l = none)
  (step : ∀ (i : Nat) x y H' (Q' : VK), xs[i]? = some x → ys[i]? = some y → Same H H' → (∀ H5, Same H' H5 → Q' (F i) H5) → te [some x, some y] H' Q')
  (fin : ∀ H', Same H H' → H' l = some (.lst ((List.range xs.length).map F)) → Q (.ref l) H') : CompW (Itz K a b) (gTup K 2 (gCons (gName 0) (gCons (gName 1) gNil))) tTrue te [none, none] l σ H Q := by
 refine ⟨xs.length, fun i zs σ' H' => zs = (List.range i).map F ∧ (∃ o o', σ' = [o, o']) ∧ Same H H' ∧ H' l = some (.lst zs), ⟨rfl, ⟨none, none, rfl⟩, Same.new hl, upd_same⟩, ?_, ?_⟩
 ·rintro i zs σ' H' hi ⟨rfl, ⟨o, o', rfl⟩, s, e⟩
  refine ⟨⟨xs, ys, xs[i], ys[i]'(by omega), SqL.of (s _ _ hx), SqL.of (s _ _ hy), by simp [hi], by simp⟩, fun v H2 z => ?_⟩
  obtain ⟨T, rfl, hT, z⟩ := z
  obtain ⟨x, y, ex, ey, rfl⟩ := z xs ys (SqL.of (s _ _ hx)) (SqL.of (s _ _ hy))
  have sT := Same.new (o := HO.tup [x, y]) hT
  refine rd_gtup upd_same rfl (rd_gcons (rd_name (rd_gcons (rd_name (rd_gnil (rd_true (iteT ?_)))))))
  refine step i x y _ _ ex ey (s.trans sT) fun H5 s5 => ⟨s5 _ _ (sT _ _ e), ?_, ?_⟩
  ·rw [List.length_map, List.length_range]
   exact small1000 (by omega)
  ·refine ⟨?_, ⟨_, _, rfl⟩, ((s.trans sT).trans s5).later hl, upd_same⟩
   rw [List.range_succ, List.map_append]
   rfl
 ·rintro zs σ' H' ⟨rfl, _, s, e⟩
  exact ⟨⟨xs, ys, SqL.of (s _ _ hx), SqL.of (s _ _ hy), .inl (Nat.le_refl _)⟩, fin H' s e⟩
end L2
set_option Elab.async false
set_option linter.all false
set_option maxRecDepth 100000
set_option maxHeartbeats 4000000
namespace L2
open PySem
inductive DS {α : Type} : Sem α → Prop
 | pure (a : α) : DS (.pure a)
 | raise (e : Value) : DS (.raise e)
 | unsup (w : String) : DS (.unsupported w)
 | fin (e : Ending) : DS (.finish e)
 | rule {t : String} {k : Unit → Sem α} : DS (k ()) → DS (.rule t k)
 | here {p : Pos} {k : Unit → Sem α} : DS (k ()) → DS (.at p k)
 | load {a : Addr} {p : Option Value} {k : Obj → Sem α} : (∀ o, DS (k o)) → DS (.load a p k)
 | upd {a : Addr} {p : Option Value} {f : Obj → Obj} {k : Unit → Sem α} : (∀ o, (f o).dict = o.dict ∧ (f o).isFreed = o.isFreed) → DS (k ()) → DS (.update a p f k)
 | alloc {o : Obj} {k : Addr → Sem α} : (∀ n, DS (k n)) → DS (.alloc o k)
 | point {l : List Value} {k : Unit → Sem α} : DS (k ()) → DS (.point l k)
 | fresh {k : Tok → Sem α} : (∀ n, DS (k n)) → DS (.fresh k)
 | ask {k : Setting → Sem α} : (∀ n, DS (k n)) → DS (.ask k)
 | stack {k : List (Code × Pos) → Sem α} : (∀ n, DS (k n)) → DS (.stack k)
theorem DS.andThen {α β : Type} {m : Sem α} {f : α → Sem β} (h : DS m) (g : ∀ a, DS (f a)) : DS (m >>= f) := by
 show DS (Sem.bind m f)
 induction h with
 | pure a => rw [Sem.bind]; exact g a
 | raise e => rw [Sem.bind]; exact .raise e
 | unsup w => rw [Sem.bind]; exact .unsup w
 | fin e => rw [Sem.bind]; exact .fin e
 | rule _ ih => rw [Sem.bind]; exact .rule ih
 | here _ ih => rw [Sem.bind]; exact .here ih
 | load _ ih => rw [Sem.bind]; exact .load ih
 | upd z _ ih => rw [Sem.bind]; exact .upd z ih
 | alloc _ ih => rw [Sem.bind]; exact .alloc ih
 | point _ ih => rw [Sem.bind]; exact .point ih
 | fresh _ ih => rw [Sem.bind]; exact .fresh ih
 | ask _ ih => rw [Sem.bind]; exact .ask ih
 | stack _ ih => rw [Sem.bind]; exact .stack ih
def HasD (e : Addr) (dx : Option Addr) (h : Heap) : Prop := ∃ o, h.get? e = some o ∧ o.dict = dx
theorem HasD.upd {e a : Addr} {dx : Option Addr} {h : Heap} {f : Obj → Obj} (x : HasD e dx h) (z : ∀ o, (f o).dict = o.dict ∧ (f o).isFreed = o.isFreed) : HasD e dx (h.update a f) := by
 obtain ⟨o, h1, h2⟩ := x
 by_cases q : a = e
 ·subst q
  have fr : o.isFreed = false := (Heap.get?_some_iff.mp h1).2
  exact ⟨_, Heap.get?_update_self f h1 (by rw [(z o).2]; exact fr), by rw [(z o).1]; exact h2⟩
 ·exact ⟨o, by rw [Heap.get?_update_other h f q]; exact h1, h2⟩
theorem DS.run {α : Type} {M : Model} {Γ : Ctx} {m : Sem α} {Q : α → Pos → Shared → Prop} {E : Value → Pos → Shared → Prop} {p : Pos} {s : Shared} {e : Addr} {dx : Option Addr} (h : DS m) (w : Sem.wp M Γ m Q E p s) (x : HasD e dx s.heap) :
  Sem.wp M Γ m (fun a p s' => Q a p s' ∧ HasD e dx s'.heap) (fun v p s' => E v p s' ∧ HasD e dx s'.heap) p s := by
 induction h generalizing p s with
 | pure a => rw [Sem.wp] at w ⊢; exact ⟨w, x⟩
 | raise v => rw [Sem.wp] at w ⊢; exact ⟨w, x⟩
 | unsup q => rw [Sem.wp] at w; exact w.elim
 | fin q => rw [Sem.wp] at w; exact w.elim
 | rule _ ih => rw [Sem.wp] at w ⊢; exact ih w x
 | here _ ih => rw [Sem.wp] at w ⊢; exact ih w x
 | load _ ih => rw [Sem.wp] at w ⊢; obtain ⟨o, h1, h2⟩ := w; exact ⟨o, h1, ih o h2 x⟩
 | upd z _ ih => rw [Sem.wp] at w ⊢; exact ⟨w.1, ih w.2 (x.upd z)⟩
 | alloc _ ih => rw [Sem.wp] at w ⊢; exact ih _ w (let ⟨o, h1, h2⟩ := x; ⟨o, Heap.get?_push_of_some _ h1, h2⟩)
 | point _ ih => rw [Sem.wp] at w ⊢; exact ih w x
 | fresh _ ih => rw [Sem.wp] at w ⊢; exact ih _ w x
 | ask _ ih => rw [Sem.wp] at w ⊢; exact ih _ w x
 | stack _ ih => rw [Sem.wp] at w ⊢; exact ih _ w x
theorem DS.any {α : Type} {M : Model} {A : Around} {m : Sem α} {Q : α → Shared → Prop} {E : Value → Shared → Prop} {s : Shared} {e : Addr} {dx : Option Addr} (h : DS m) (w : wpAny M A m Q E s) (x : HasD e dx s.heap) :
  wpAny M A m (fun a s' => Q a s' ∧ HasD e dx s'.heap) E s := fun Γ p hΓ =>
 Sem.wp_mono M Γ m (fun _ _ _ z => z) (fun _ _ _ z => z.1) p s (h.run (w Γ p hΓ) x)
theorem ds_ite {α : Type} {c : Prop} [Decidable c] {a b : Sem α} (h1 : DS a) (h2 : DS b) : DS (if c then a else b) := by split <;> assumption
theorem ds_field (v : Value) (i : Nat) : DS (field v i) := by
 unfold field fieldsOf
 refine DS.andThen ?_ fun vs => ?_
 ·cases v with
  | ref a =>
   refine DS.andThen (.load fun o => .pure o) fun o => ?_
   cases o.data <;> first | exact .pure _ | exact .unsup _
  | _ => exact .unsup _
 ·cases vs[i]? <;> first | exact .pure _ | exact .unsup _
theorem ds_mapFields (f : Array Value → Array Value) (o : Obj) : (Obj.mapFields f o).dict = o.dict ∧ (Obj.mapFields f o).isFreed = o.isFreed := by
 obtain ⟨c, d, dt, sl⟩ := o
 cases dt <;> exact ⟨rfl, rfl⟩
theorem ds_setField (v : Value) (i : Nat) (x : Value) : DS (setField v i x) := by
 unfold setField
 cases v with
 | ref a =>
  unfold updateField
  refine DS.andThen (.load fun o => .pure o) fun o => ?_
  cases o.data with
  | fields vs => exact ds_ite (.upd (ds_mapFields _) (.pure ())) (.unsup _)
  | _ => exact .unsup _
 | _ => exact .unsup _
theorem ds_setFlight (e : Value) (f : Option Addr) : DS (setFlight e f) := by
 unfold setFlight
 exact DS.andThen (ds_field _ _) fun tb => ds_ite (ds_setField _ _ _) (.pure _)
theorem ds_back (env : Env) (b : Bool) (l : List Env) : DS (keptBack env b l) := by
 cases l with
 | nil =>
  unfold keptBack underTheClaimsCaller
  refine ds_ite (.pure _) (DS.andThen (DS.andThen (.stack fun n => .pure n) fun _ => .pure _) fun q => .pure _)
 | cons c r => unfold keptBack; exact .pure _
theorem ds_import (env : Env) (l : List Env) : DS (behindIsImport env l) := by
 unfold behindIsImport
 exact ds_ite (.pure _) (ds_ite (.pure _) (DS.andThen (ds_field _ _) fun _ => .pure _))
theorem ds_ready : ∀ l : List Env, DS (readyFrames l)
 | [] => by unfold readyFrames; exact .pure _
 | env :: r => by
  unfold readyFrames
  cases env.frame with
  | none => exact .unsup _
  | some f =>
   refine DS.andThen (.load fun o => .pure o) fun o => ds_ite (.pure _) ?_
   refine DS.andThen (ds_import _ _) fun b => DS.andThen (ds_back _ _ _) fun v => DS.andThen (.upd (fun o => ⟨rfl, by obtain ⟨c, d, dt, sl⟩ := o; cases dt <;> rfl⟩) (.pure ())) fun _ => ds_ready r
theorem ds_frameOf (env : Env) : DS (frameOf env) := by
 unfold frameOf frameEnvs
 refine DS.andThen (DS.andThen (.stack fun n => .pure n) fun _ => .pure _) fun l => DS.andThen ?_ fun o => ?_
 ·generalize l.dropWhile _ = l'
  cases l' with
  | nil => unfold frameObject; exact .pure _
  | cons c r => unfold frameObject; exact DS.andThen (ds_ready _) fun _ => .pure _
 ·cases o with
  | none => exact .unsup _
  | some f => exact .pure _
theorem ds_place (f : Addr) (b : Bool) : DS (entryPlaceOf f b) := by
 unfold entryPlaceOf
 refine DS.andThen (.stack fun n => .pure n) fun l => ?_
 cases l.find? _ with
 | none => exact .pure _
 | some q => exact .pure _
theorem ds_newEntry (a b c d e : Value) (l : List Value) : DS (EntryCells.newEntry a b c d e l) := by
 unfold EntryCells.newEntry newFields newObj newObjAsIs
 generalize ([a, b, c, d, e] ++ if l.isEmpty then List.replicate 6 Value.none else l) = vs
 dsimp only
 split
 ·exact DS.andThen (.unsup _) fun _ => DS.andThen (.alloc fun n => .pure n) fun _ => .pure _
 ·exact DS.andThen (.alloc fun n => .pure n) fun _ => .pure _
theorem ds_noteFrame (e : Value) (env : Env) : DS (noteFrame e env) := by
  unfold noteFrame
  cases env.frame with
  | none => exact .unsup _
  | some f =>
    refine DS.andThen (ds_field _ _) fun hd => ?_
    have tail : DS (do
        let a ← frameOf env
        let pl ← entryPlaceOf f (hd != .none)
        let b ← EntryCells.newEntry hd a .none (rawInt f) .none pl
        setField e 1 b) := DS.andThen (ds_frameOf _) fun _ => DS.andThen (ds_place _ _) fun _ => DS.andThen (ds_newEntry _ _ _ _ _ _) fun _ => ds_setField _ _ _
    refine ds_ite ?_ tail
    refine DS.andThen (ds_field _ _) fun x => ds_ite (.pure _) (DS.andThen (ds_setField _ _ _) fun _ => tail)
theorem ds_leaving (env : Env) (e : Value) : DS (leaving env e) := by
 unfold leaving
 exact DS.andThen (ds_noteFrame _ _) fun _ => ds_setFlight _ _
end L2
set_option Elab.async false
set_option maxRecDepth 100000
namespace L2
open PySem PySem.Spec PyProof.Rows
structure Exc (g h : Heap) (H : Hp) (e C : Addr) (xo : Option Addr) : Prop where
 tr : h.Traced g e (.ref C)
 ne : g.get? e = none
 he : H e = none
 hT : ∀ oe vs T, h.get? e = some oe → oe.data = .fields vs → vs[1]? = some (.ref T) → H T = none
 dc : ∀ dx, xo = some dx → HasD e (some dx) h
def CX1 (P : Program) (w : World) : CXT := fun outer H s E x s' => ∃ (e C : Addr) (xo : Option Addr) (H' : Hp), x = .ref e ∧ s'.os = s.os ∧ AllBare s'.gens ∧ Un (frs outer) [] H H' s.heap s'.heap ∧ HOk P w H' s'.heap ∧ Exc s.heap s'.heap H' e C xo ∧ E (.ref C) xo H'
section
variable {X : Cx} {pins : List (Addr × Obj)} {σ : St} {H : Hp} {s : Shared}
theorem Inv.left {h' : Heap} {es : List Addr} (I : Inv X pins σ H s) (hs : X.stack = X.env :: X.outer) (he : ∀ b ∈ es, H b = none ∧ X.s₀.heap.get? b = none)
  (keep : ∀ b o, s.heap.get? b = some o → b ∉ frs X.stack → b ∉ es → h'.get? b = some o) (slot : ∀ b o, s.heap.get? b = some o → b ∈ frs X.stack → ∃ sl, h'.get? b = some { o with slots := sl }) : Un X.fs X.ex X.H₀ H X.s₀.heap h' ∧ HOk X.prog X.w H h' := by
 have sub : ∀ b ∈ X.fs, b ∈ frs X.stack := fun b hb => by
  rw [hs]; unfold frs; rw [List.filterMap_cons]
  cases X.env.frame with
  | none => exact hb
  | some f => exact List.mem_cons_of_mem _ hb
 have nfr : ∀ b u, H b = some u → b ∉ frs X.stack := fun b u e z => by rw [I.stkFree b z] at e; cases e
 have nes : ∀ b u, H b = some u → b ∉ es := fun b u e z => by rw [(he b z).1] at e; cases e
 have neL : ∀ b o, X.s₀.heap.get? b = some o → b ∉ X.fs → b ∉ frs X.stack := fun b o e hb z => by
  rcases List.mem_cons.mp (I.stkSub b z) with q | q
  ·exact absurd (Nat.lt_of_lt_of_le (Heap.lt_size e) (q ▸ I.ok.above)) (Nat.lt_irrefl _)
  ·exact hb q
 have ne0 : ∀ b o, X.s₀.heap.get? b = some o → b ∉ es := fun b o e z => by rw [(he b z).2] at e; cases e
 refine ⟨⟨fun b o e n hb hx => keep b o (I.base.keep b o e n hb hx) (neL b o e hb) (ne0 b o e), fun b o e n hb hx => ?_, I.base.free, fun b o e hx => ?_, I.base.tups, I.base.frzs, I.base.tbls⟩, fun b u e => ?_⟩
 ·obtain ⟨sl, e1⟩ := I.base.slot b o e n hb hx
  obtain ⟨sl', e2⟩ := slot b _ e1 (sub b hb)
  exact ⟨sl', e2⟩
 ·obtain ⟨o', e1⟩ := I.base.there b o e hx
  by_cases hf : b ∈ frs X.stack
  ·obtain ⟨sl, e2⟩ := slot b o' e1 hf
   exact ⟨_, e2⟩
  ·exact ⟨o', keep b o' e1 hf (ne0 b o e)⟩
 ·refine (I.hok b u e).stay (fun c v hc q => ?_) (fun _ q => q) fun _ _ q => q
  rcases hc with z | z
  ·rw [z] at q ⊢; exact keep b v q (nfr b u e) (nes b u e)
  ·exact keep c v q (nfr c _ z) (nes c _ z)
end
theorem ObjOk.get {P : Program} {w : World} {H : Hp} {h : Heap} {a : Addr} {o : HO} (x : ObjOk P w H h a o) : ∃ ob, h.get? a = some ob := by
 cases o with
 | lst xs => obtain ⟨_, _, _, _, e⟩ := x; exact ⟨_, e⟩
 | tup xs => obtain ⟨_, _, _, p⟩ := x; obtain ⟨o, e, _⟩ := p; exact ⟨_, e⟩
 | dK kvs => obtain ⟨_, _, _, _, o, _, _, e, _⟩ := x; exact ⟨_, e⟩
 | dT kvs => obtain ⟨_, _, _, _, o, _, _, e, _⟩ := x; exact ⟨_, e⟩
 | set S n => obtain ⟨o, _, _, _, e, _⟩ := x; exact ⟨_, e⟩
 | ins C dx fs => obtain ⟨_, _, _, e, _⟩ := x; exact ⟨_, e⟩
 | own y => obtain ⟨_, e⟩ := x; exact ⟨_, e⟩
 | xd fs => obtain ⟨_, ⟨_, _, _, e, _⟩, _⟩ := x; exact ⟨_, e⟩
 | rng lo hi => obtain ⟨_, _, _, e⟩ := x; exact ⟨_, e⟩
 | frz ob u => obtain ⟨e, _⟩ := x; exact ⟨_, e⟩
 | tbl ps => exact ⟨_, (show h.get? a = some _ from x)⟩
 | met f y => exact ⟨_, (show h.get? a = some _ from x)⟩
 | ext φ => obtain ⟨_, ⟨_, e⟩, _⟩ := x; exact ⟨_, e⟩
theorem HOk.none_of {P : Program} {w : World} {H : Hp} {h : Heap} {a : Addr} (k : HOk P w H h) (e : h.get? a = none) : H a = none := by
 cases q : H a with
 | none => rfl
 | some o => obtain ⟨_, z⟩ := (k a o q).get; rw [e] at z; cases z
section
variable {P : Program} {w : World} {K : PySem.W.Frag} {mg : Str → Option Value} {base : Heap} {N : List Str} {qual : Str} {scope : Scope} {f : Addr} {cd : Value} {A : Around} {outer : List Env} {s₀ : Shared} {H₀ : Hp} {E : XK} {pins : List (Addr × Obj)} {σ : St} {H : Hp} {s : Shared}
theorem stack_in {l : List Env} {as : List Addr} (h : ∀ b ∈ frs l, b ∈ as) : ∀ env ∈ l, ∀ a, env.frame = some a → a ∈ as := fun env he a ha => h a (List.mem_filterMap.mpr ⟨env, he, ha⟩)
theorem xe_made {e C : Addr} {xo : Option Addr} {oe : Obj} {vs : Array Value} (I1 : Inv (cxOf (CX1 P w) P w K mg base N qual scope f cd A outer s₀ H₀ E) pins σ H s) (he : s.heap.get? e = some oe) (hcl : oe.cls = .ref C) (hda : oe.data = .fields vs) (h1 : vs[1]? = some .none)
  (hs0 : s₀.heap.get? e = none) (hHe : H e = none) (dc : ∀ dx, xo = some dx → oe.dict = some dx) (q : E (.ref C) xo H) : (cxOf (CX1 P w) P w K mg base N qual scope f cd A outer s₀ H₀ E).xe (.ref e) s := by
 have ff := I1.stack
 have hl := PySem.W.funFrames_hide (as := e :: frs (cxOf (CX1 P w) P w K mg base N qual scope f cd A outer s₀ H₀ E).stack) ff (stack_in fun b hb => List.mem_cons_of_mem _ hb)
 have fin := wpAny_leaving_first (M := model P w) (E := fun v s' => CX1 P w outer H₀ s₀ E v s') (base := PySem.W.hideAll s.heap (e :: frs (cxOf (CX1 P w) P w K mg base N qual scope f cd A outer s₀ H₀ E).stack)) (L := s₀.heap.objs.size) (e := e) (s := s) (Q := fun _ s' => ∃ h2, s' = { s with heap := h2 } ∧ Heap.Left (PySem.W.hideAll s.heap (e :: frs (cxOf (CX1 P w) P w K mg base N qual scope f cd A outer s₀ H₀ E).stack)) (envOfC qual scope s₀.heap.objs.size f cd :: outer) e oe.cls s.heap h2) I1.ok.frames hl rfl he (fun b o z => PySem.W.of_hideAll _ z) (PySem.W.hideAll_none _ List.mem_cons_self) hda h1 fun h2 lf => ⟨h2, rfl, lf⟩
 refine wpAny_mono (DS.any (ds_leaving _ _) fin ⟨oe, he, rfl⟩) (fun _ s' ⟨⟨h2, e2, lf⟩, hd2⟩ => ?_) fun _ _ z => z
 subst e2
 obtain ⟨st, ff2, tr, up⟩ := lf
 have lf := I1.left (h' := h2) (es := [e]) rfl (fun b hb => by rw [List.mem_singleton.mp hb]; exact ⟨hHe, hs0⟩) (fun b o z nf ne => st b o (PySem.W.hideAll_get _ z (by intro m; rcases List.mem_cons.mp m with r | r; exact ne (by simp [r]); exact nf r)))
  (fun b o z hb => by
   obtain ⟨_, o', z', hd⟩ := ff.mem hb
   rw [z] at z'; cases z'
   exact up b o z hd)
 obtain ⟨oe', ws, T, oT, ts, g1, g2, g3, g4, g5, g6, g7, g8, g9⟩ := tr
 have nT : T ∉ frs (cxOf (CX1 P w) P w K mg base N qual scope f cd A outer s₀ H₀ E).stack := fun z => by
  obtain ⟨_, o, zo, hd⟩ := ff2.mem z
  rw [g7] at zo; cases zo
  exact hd ts g8
 have key : ∀ o, s.heap.get? T = some o → False := fun o z => by
  rw [PySem.W.hideAll_get _ z (by intro m; rcases List.mem_cons.mp m with r | r; exact g6 r; exact nT r)] at g5
  cases g5
 have hT0 : s₀.heap.get? T = none := by
  cases z : s₀.heap.get? T with
  | none => rfl
  | some o => obtain ⟨o', z'⟩ := I1.base.there T o z (by intro q; cases q); exact (key o' z').elim
 have hHT : H T = none := by
  cases z : H T with
  | none => rfl
  | some o => obtain ⟨o', z'⟩ := (I1.hok T o z).get; exact (key o' z').elim
 refine ⟨e, C, xo, H, rfl, I1.os, I1.bare, lf.1, lf.2, ⟨⟨oe', ws, T, oT, ts, g1, g2.trans hcl, g3, g4, hT0, g6, g7, g8, g9⟩, hs0, hHe, fun oe2 vs' T' z1 z2 z3 => ?_, fun dx z => by rw [dc dx z] at hd2; exact hd2⟩, q⟩
 rw [g1] at z1; cases z1
 rw [g3] at z2; cases z2
 rw [g4] at z3; cases z3
 exact hHT
theorem xe_new {h' : Heap} {t' : Nat} {e C : Addr} {vs : List Value} (I : Inv (cxOf (CX1 P w) P w K mg base N qual scope f cd A outer s₀ H₀ E) pins σ H s) (hx : Heap.MadeExcOf s.heap h' e (.ref C) vs) (q : E (.ref C) none H) :
  (cxOf (CX1 P w) P w K mg base N qual scope f cd A outer s₀ H₀ E).xe (.ref e) { s with heap := h', toks := t' } := by
 have I1 := I.kept (t' := t') hx.keeps
 obtain ⟨t, he, ht, _⟩ := hx.there
 have hs0 : s₀.heap.get? e = none := by
  cases z : s₀.heap.get? e with
  | none => rfl
  | some o => obtain ⟨o', z'⟩ := I.base.there e o z (by intro q; cases q); rw [hx.new] at z'; cases z'
 exact xe_made I1 he rfl rfl rfl hs0 (I.hok.none_of hx.new) (fun _ z => by cases z) q
theorem pass1 : Passes (CX1 P w) (cxOf (CX1 P w) P w K mg base N qual scope f cd A outer s₀ H₀ E) E := by
  intro pins σ H s x s' I h
  obtain ⟨e, C, xo, H', rfl, os, bare, un, hok, ex, q⟩ := h
  have J := I.call' (s' := s') (ch := []) os un hok bare (fun b hb => by cases hb)
  obtain ⟨⟨oe, ws, T, oT, ts, g1, g2, g3, g4, g5, g6, g7, g8, g9⟩, ne, hHe, hHT, dc⟩ := ex
  have hHT := hHT oe ws T g1 g3 g4
  have s0 : ∀ {b : Addr}, s.heap.get? b = none → s₀.heap.get? b = none := fun {b} hb => by
    cases z : s₀.heap.get? b with
    | none => rfl
    | some o => obtain ⟨o', z'⟩ := I.base.there b o z (by intro q; cases q); rw [hb] at z'; cases z'
  have ff := J.stack
  have hl := PySem.W.funFrames_hide (as := e :: T :: frs (cxOf (CX1 P w) P w K mg base N qual scope f cd A outer s₀ H₀ E).stack) ff (stack_in fun b hb => List.mem_cons_of_mem _ (List.mem_cons_of_mem _ hb))
  have fin := wpAny_leaving_next (M := model P w) (E := fun v s' => CX1 P w outer H₀ s₀ E v s') (base := PySem.W.hideAll s'.heap (e :: T :: frs (cxOf (CX1 P w) P w K mg base N qual scope f cd A outer s₀ H₀ E).stack)) (L := s₀.heap.objs.size) (e := e) (s := s') (Q := fun _ s2 => ∃ h2, s2 = { s' with heap := h2 } ∧ Heap.Left (PySem.W.hideAll s'.heap (e :: T :: frs (cxOf (CX1 P w) P w K mg base N qual scope f cd A outer s₀ H₀ E).stack)) (envOfC qual scope s₀.heap.objs.size f cd :: outer) e (.ref C) s'.heap h2) J.ok.frames hl rfl
    ⟨oe, ws, T, oT, ts, g1, g2, g3, g4, PySem.W.hideAll_none _ (List.mem_cons_of_mem _ List.mem_cons_self), g6, g7, g8, g9⟩ (fun b o z => PySem.W.of_hideAll _ z) (PySem.W.hideAll_none _ List.mem_cons_self) fun h2 lf => ⟨h2, rfl, lf⟩
  refine wpAny_mono (DS.any (ds_leaving _ _) fin ⟨oe, g1, rfl⟩) (fun _ s2 ⟨⟨h2, e2, lf⟩, hd2⟩ => ?_) fun _ _ z => z
  subst e2
  obtain ⟨st, ff2, tr, up⟩ := lf
  have lf := J.left (h' := h2) (es := [e, T]) rfl (fun b hb => by
      simp only [List.mem_cons, List.not_mem_nil, or_false] at hb
      rcases hb with rfl | rfl
      · exact ⟨hHe, s0 ne⟩
      · exact ⟨hHT, s0 g5⟩) (fun b o z nf ne => st b o (PySem.W.hideAll_get _ z (by
        intro m
        rcases List.mem_cons.mp m with r | m
        · exact ne (by simp [r])
        · rcases List.mem_cons.mp m with r | r
          · exact ne (by simp [r])
          · exact nf r)))
      (fun b o z hb => by
        obtain ⟨_, o', z', hd⟩ := ff.mem hb
        rw [z] at z'; cases z'
        exact up b o z hd)
  obtain ⟨oe2, ws2, T2, oT2, ts2, k1, k2, k3, k4, k5, k6, k7, k8, k9⟩ := tr
  have nT : T2 ∉ frs (cxOf (CX1 P w) P w K mg base N qual scope f cd A outer s₀ H₀ E).stack := fun z => by
    obtain ⟨_, o, zo, hd⟩ := ff2.mem z
    rw [k7] at zo; cases zo
    exact hd ts2 k8
  have hT0 : s₀.heap.get? T2 = none ∧ H' T2 = none := by
    by_cases r : T2 = T
    · subst r; exact ⟨s0 g5, hHT⟩
    · have key : ∀ o, s'.heap.get? T2 = some o → False := fun o z => by
        rw [PySem.W.hideAll_get _ z (by
          intro m
          rcases List.mem_cons.mp m with q | m
          · exact k6 q
          · rcases List.mem_cons.mp m with q | q
            · exact r q
            · exact nT q)] at k5
        cases k5
      constructor
      · cases z : s₀.heap.get? T2 with
        | none => rfl
        | some o => obtain ⟨o', z'⟩ := J.base.there T2 o z (by intro q; cases q); exact (key o' z').elim
      · cases z : H' T2 with
        | none => rfl
        | some o => obtain ⟨o', z'⟩ := (J.hok T2 o z).get; exact (key o' z').elim
  refine ⟨e, C, xo, H', rfl, J.os, J.bare, lf.1, lf.2, ⟨⟨oe2, ws2, T2, oT2, ts2, k1, k2, k3, k4, hT0.1, k6, k7, k8, k9⟩, s0 ne, hHe, fun oe' vs' T' z1 z2 z3 => ?_, fun dx z => by
      obtain ⟨o, y1, y2⟩ := dc dx z
      rw [g1] at y1; cases y1
      rw [y2] at hd2; exact hd2⟩, q⟩
  rw [k1] at z1; cases z1
  rw [k3] at z2; cases z2
  rw [k4] at z3; cases z3
  exact hT0.2
end
end L2
set_option Elab.async false
set_option maxRecDepth 100000
namespace L2
open PySem PySem.Spec PyProof.Rows
def tRaise (C : Addr) (E : XK) (t : TA) : TS := fun _ σ H => t σ H fun vs H1 => vs.length ≤ sizeLine ∧ E (.ref C) none H1
theorem ps_raise {X : Cx} {E : XK} {x : Str} {C : Addr} {B newId initId : String} {bm : List Value} {np cpos pos : Pos} {e : Expr} {es : List Expr} {t : TA} (O : OwnCls x C bm newId X.mg X.base) (FB : ExcBaseFacts B newId initId bm) (hc : X.calm = true) (hg : Gl X x)
  (hx : ∀ (pins : List (Addr × Obj)) (σ : St) (H : Hp) (s : Shared) (h' : Heap) (t' : Nat) (e : Addr) (vs : List Value), Inv X pins σ H s → Heap.MadeExcOf s.heap h' e (.ref C) vs → E (.ref C) none H → X.xe (.ref e) { s with heap := h', toks := t' })
  (ha : PA X (e :: es) t) (hd : (x == ("__debug__" : Str)) = false := by decide) (he : starEach (e :: es) X.env = (false, eval e X.env) :: starEach es X.env := by rfl) (hpl : (backTo cpos (starEach es X.env)).any (·.1) = false := by rfl) :
  PS X (.Raise (some (.Call (.Name x np) (e :: es) [] cpos)) none pos) (tRaise C E t) := by
 intro pins s σ H D I h
 obtain ⟨tl, N, nm, q, bs, hdct, sn, sub, ab, col, dd, k0, k1, k2, k3, k5, mN, hC, hN, hni, T⟩ := O.obj
 refine wpAny_Raise_call_subT (C := C) (nm := nm) (q := q) (N := N) (bs := bs) (bm := tl) (hdct := hdct) (sn := sn) (sub := sub) (ab := ab) (col := col) (dd := dd) (k0 := k0) (k1 := k1) (k2 := k2) (k3 := k3) (k5 := k5)
  FB (mN := mN) (T.hasType FB.hasBase) (I.ok.hd hc) (by rw [he]; show (false || (backTo cpos (starEach es X.env)).any (·.1)) = false; rw [hpl]; rfl) hni (ld_glob I hg O.bound ⟨rfl, ?_⟩ hd)
 have h1 := ha cpos pins s σ H _ I h
 rw [he] at h1 ⊢
 refine Calls.evalArgs_plain (wpAny_mono h1 (fun us s2 ⟨vs, H2, I2, r2, hl, hE⟩ => ⟨rfl, by show us.length ≤ sizeLine; rw [← r2.length]; exact hl, I2.bk _ _ hC, hN.keeps I2.bk, T.keeps I2.bk, fun h' a mk => ?_⟩) fun _ _ y => y)
 exact hx pins σ H2 s2 h' s2.toks a us I2 mk hE
section
variable {P : Program} {w : World} {K : PySem.W.Frag} {mg : Str → Option Value} {base : Heap}
theorem Fun.ok1 {x qual : Str} {st : Stmt} {f : Addr} {fd : FuncData} {N ps : List Str} {k : Nat} {sp : Sp} (F : Fun K x qual st f fd) (S : FnScope N ps (defScope st)) (len : ∀ vs H Q E, sp vs H Q E → vs.length = ps.length)
  (hbody : ∀ (cdv : Value) (A : Around) (outer : List Env) (s : Shared) (H : Hp) (vs : List V) (Q : VK) (E : XK), Room k (A.deeper (envOfC qual (defScope st) s.heap.objs.size f cdv)) → sp vs H Q E →
   ∃ t, PSs (cxOf (CX1 P w) P w K mg base N qual (defScope st) f cdv A outer s H E) (defBody st) t ∧ t { nx := fun _ H' => Q .non H', rt := Q } (start N vs) H) : FnOk P w K mg base (CX1 P w) (k + 1) f fd ps sp := by
 obtain ⟨oc, od, kV, doc, pm, an, cdv, ct, osl, rfl, lk, hcd⟩ := F.ex
 exact fn_of lk hcd S len fun A outer s H vs Q E hr hsp => hbody cdv A outer s H vs Q E hr hsp
theorem FnOk.up {k : Nat} {f : Addr} {fd : FuncData} {ps : List Str} {sp : Sp} (F : FnOk P w K mg base CX0 k f fd ps sp) : FnOk P w K mg base (CX1 P w) k f fd ps sp :=
 ⟨F.len, fun A outer s H args us vs Q E hr e0 hb hv hs => codeAny_mono (F.run A outer s H args us vs Q E hr e0 hb hv hs) fun r s' h => by
  cases r with
  | error e => exact False.elim h
  | ok fl => cases fl <;> exact h⟩
end
end L2
set_option Elab.async false
set_option maxRecDepth 100000
namespace L2
open PySem PySem.Spec PyProof.Rows PySem.W Builtin Builtin.ObjectAttr Builtin.Getset_descriptor
section
variable {prog : Program} {w : World} {A : Around} {E : Value → Shared → Prop} {s : Shared} {K : PySem.W.Frag} {x C : Addr} {R : Result → Shared → Prop}
theorem cls_get {tp : Value} (X : K.In s.heap) (LT : Looks (model prog w) s.heap (typeOf (.ref x)) (.ref C)) (hm : mroIn K C (.type "object") = some true)
  (h : R (.ok (.ret (.ref C))) s) : codeAny (model prog w) A (.call (.builtin "getset_descriptor.__get__") ⟨[.builtin "object.__class__", .ref x, tp], []⟩) R s := by
 have L1 := looks_mroIn (M := model prog w) X hm; obtain ⟨hh, g, dr, t, os⟩ := s
 refine codeAny_call_builtin KF.slot_gs.plain KF.entry_gs (KF.slot_gs.check _ _ _ _ _ _ _ _ KF.type_class (KF.args_gs _ _ _) ?_); unfold Builtin.«getset_descriptor.__get__» descrGet; rw [dga_obj]
 refine wpAny_bind (wpAny_pure ?_); unfold descrGetter descrCheckInstance descrNameAndClass isInstance; simp only [KF.owner_class]
 repeat lk
 refine ⟨Code.quiet_builtin _ (by decide +kernel), codeAny_builtin KF.entry_class ?_⟩; unfold Builtin.«object.__class__» shownTypeOf
 repeat lk
 exact h
theorem exc_class {Q : Option Value → Shared → Prop} (X : K.In s.heap) (LT : Looks (model prog w) s.heap (typeOf (.ref x)) (.ref C))
  (hga : findIn K (.ref C) "__getattribute__" = some (some (.builtin "BaseException.__getattribute__"))) (hgt : findIn K (.ref C) "__getattr__" = some none)
  (ha : findIn K (.ref C) "__class__" = some (some (.builtin "object.__class__"))) (hn : specialIn K (.builtin "object.__class__") "__get__" = some (some (.builtin "getset_descriptor.__get__"))) (htk : takesIn K (.builtin "object.__class__") = some true)
  (hm : mroIn K C (.type "object") = some true) (hb : mroIn K C (.type "BaseException") = some true)
  (h : Q (some (.ref C)) { s with toks := s.toks + 1 }) : wpAny (model prog w) A (getAttr? (.ref x) "__class__") Q E s := by
 obtain ⟨hh, g, d, t, os⟩ := s
 have L1 := looks_findIn (M := model prog w) X hga
 have L2 := looks_findIn (M := model prog w) X hgt
 have L3 := looks_mroIn (M := model prog w) X hb
 have L4 : Looks (model prog w) hh (find (.ref x) (.ref C) "__class__") (.bind (.builtin "getset_descriptor.__get__") (.builtin "object.__class__")) := by
  have a1 := looks_findIn (M := model prog w) X ha
  have a2 : Looks (model prog w) hh (getOf (some (.builtin "object.__class__"))) (some (.builtin "getset_descriptor.__get__")) := looks_specialIn X hn
  have a3 := looks_takesIn (M := model prog w) X htk
  refine a1.andThen (a2.andThen ?_)
  have a4 : Looks (model prog w) hh (dataDescriptor? (some (.builtin "object.__class__")) (some (.builtin "getset_descriptor.__get__"))) (some (.builtin "getset_descriptor.__get__", .builtin "object.__class__")) := a3.andThen .now
  exact a4.andThen (Looks.tag .now)
 have f3 := (F.attrBase_ValueError).ga.bind (.ref x)
 unfold getAttr? getAttrBy? getAttrBy
 refine wpAny_bind (wpAny_mkText (wpAny_bind (wpAny_attempt (wpAny_holding (wpAny_bind (LT.at (wpAny_bind (L1.at ?_))))))))
 show wpAny _ _ (getAttrByItsOwn _ _ _ _ _ _) _ _ _
 unfold getAttrByItsOwn hookBefore
 refine wpAny_bind (L2.at ?_)
 refine wpAny_bind (wpAny_attempt (wpAny_holding ?_))
 show wpAny _ _ (boundAndCalled _ _ _) _ _ _
 unfold boundAndCalled
 rw [f3]
 refine wpAny_bind (wpAny_pure (wpAny_call ?_))
 have hk : builtinKind "BaseException.__getattribute__" = some .slot := (by decide +kernel); have hsplit : splitId "BaseException.__getattribute__" = some ("BaseException", "__getattribute__") := by decide +kernel
 refine codeAny_call_builtin (F.attrBase_ValueError).ga.plain F.entry_bexc_ga ?_
 have ha := F.args_bexc_ga (.ref x) (.str "__class__" t)
 simp only [checkBuiltinCall, hk, hsplit]; refine wpAny_bind ?_
 unfold isInstance
 refine wpAny_bind (LT.at (L3.at ?_))
 simp only [Bool.not_true, Bool.false_eq_true, if_false]; refine wpAny_of_eq (a := ()) ha ?_
 unfold Builtin.«object.__getattribute__»
 repeat (first | with_reducible refine wpAny_call (cls_get X LT hm ?_) | lk)
 exact h
end
end L2
set_option Elab.async false
set_option maxRecDepth 100000
namespace L2
open PySem PySem.Spec PyProof.Rows
structure ExcIn (K : PySem.W.Frag) (C : Addr) : Prop where
 ga : PySem.W.findIn K (.ref C) "__getattribute__" = some (some (.builtin "BaseException.__getattribute__"))
 gt : PySem.W.findIn K (.ref C) "__getattr__" = some none
 cl : PySem.W.findIn K (.ref C) "__class__" = some (some (.builtin "object.__class__"))
 gs : PySem.W.specialIn K (.builtin "object.__class__") "__get__" = some (some (.builtin "getset_descriptor.__get__"))
 tk : PySem.W.takesIn K (.builtin "object.__class__") = some true
 mo : PySem.W.mroIn K C (.type "object") = some true
 mb : PySem.W.mroIn K C (.type "BaseException") = some true
theorem ExcIn.cls {K : PySem.W.Frag} {C : Addr} (e : ExcIn K C) : ∃ cd, PySem.W.clsIn K C = some cd := by
 obtain ⟨cd, hc, _⟩ := Option.bind_eq_some_iff.mp e.mo
 exact ⟨cd, hc⟩
def ExcAt (e C : Addr) (h : Heap) : Prop := ∃ o, h.get? e = some o ∧ o.cls = .ref C
theorem ExcAt.looks {e C : Addr} {h : Heap} {M : Model} (p : ExcAt e C h) : PySem.W.Looks M h (typeOf (.ref e)) (.ref C) := by
 obtain ⟨o, h1, h2⟩ := p
 rw [← h2]; exact (PySem.W.Looks.ld h1).andThen .now
def ExcAtX (e C : Addr) (xo : Option Addr) (h : Heap) : Prop := ∃ o vs, h.get? e = some o ∧ o.cls = .ref C ∧ o.data = .fields vs ∧ ∀ dx, xo = some dx → o.dict = some dx
theorem ExcAtX.at {e C : Addr} {xo : Option Addr} {h : Heap} (p : ExcAtX e C xo h) : ExcAt e C h := let ⟨o, _, h1, h2, _⟩ := p; ⟨o, h1, h2⟩
def ExcX (e C : Addr) (xo : Option Addr) : HO := .ext (ExcAtX e C xo)
theorem kitx_exc {K : PySem.W.Frag} {e C : Addr} (x : ExcIn K C) : PySem.W.KitX K (.ref e) (.ref C) (ExcAt e C) where
 ty := fun _ _ _ p => ExcAt.looks p
 it := fun _ _ X _ => by
  obtain ⟨cdD, hcD⟩ := x.cls
  unfold PySem.W.clsIn at hcD
  split at hcD
  ·rename_i ho
   intro A' Q' E' s' k q
   unfold isType loadHead
   exact wpAny_bind (wpAny_loadPart (k _ _ (X _ _ ho)) (wpAny_pure q))
  ·cases hcD
 ne := fun h tp dd its n sl X htp => by
  obtain ⟨cdD, hcD⟩ := x.cls
  refine Bool.eq_false_iff.mpr fun q => ?_
  have z := Value.ref.inj (beq_iff_eq.mp q)
  subst z
  unfold PySem.W.clsIn at hcD
  split at hcD
  ·rename_i ho
   have z := (X _ _ ho).symm.trans htp
   cases z
  ·cases hcD
 ca := fun X p k => exc_class X (ExcAt.looks p) x.ga x.gt x.cl x.gs x.tk x.mo x.mb k
def rIsiX (K : PySem.W.Frag) : List V → Hp → VK → Prop := fun xs H Q => ∃ e C xo y c b, xs = [.ref e, y] ∧ H e = some (ExcX e C xo) ∧ ExcIn K C ∧ RelV y c ∧ PySem.W.kitOne K (.ref C) c = some b ∧ Q (.bl b) H
theorem cI_isinstX {X : Cx} : CallR X (.builtin "isinstance") (rIsiX X.K) := by
 intro pins s σ H xs us Q I r h
 obtain ⟨e, C, xo, y, c, b, rfl, he, ex, ry, k, q⟩ := h
 obtain ⟨u, v, rfl, ru, rv⟩ := r.two
 cases (show u = Value.ref e from ru)
 have hv : v = c := by
  cases y with
  | ref a => exact (show v = Value.ref a from rv).trans (show c = Value.ref a from ry).symm
  | ty n => exact (show v = Value.type n from rv).trans (show c = Value.type n from ry).symm
  | non => exact (show v = Value.none from rv).trans (show c = Value.none from ry).symm
  | bl z => exact (show v = Value.bool z from rv).trans (show c = Value.bool z from ry).symm
  | int i => obtain ⟨t, rfl⟩ := ry; simp [PySem.W.kitOne, PySem.W.kitCls] at k
  | str i => obtain ⟨t, rfl⟩ := ry; simp [PySem.W.kitOne, PySem.W.kitCls] at k
  | byt i => obtain ⟨t, rfl⟩ := ry; simp [PySem.W.kitOne, PySem.W.kitCls] at k
  | flt i => obtain ⟨t, rfl⟩ := ry; simp [PySem.W.kitOne, PySem.W.kitCls] at k
 subst hv
 have p : ExcAt e C s.heap := ExcAtX.at (show ObjOk X.prog X.w H s.heap e (.ext (ExcAtX e C xo)) from I.hok e _ he).1
 exact PySem.W.kia_one (kitx_exc ex) I.kIn p k (fun z => nomatch z) fun tk => ⟨.bl b, H, I.tok tk, rfl, q⟩
theorem cI_isinstXK {X : Cx} (K : PySem.W.Frag) (h : X.K = K) : CallR X (.builtin "isinstance") (rIsiX K) := h ▸ cI_isinstX
theorem rd_isiX {K : PySem.W.Frag} {H : Hp} {Q : VK} {e C D : Addr} {xo : Option Addr} {b : Bool} (he : H e = some (ExcX e C xo)) (x : ExcIn K C) (k : PySem.W.kitOne K (.ref C) (.ref D) = some b) (q : Q (.bl b) H) : rIsiX K [.ref e, .ref D] H Q :=
 ⟨e, C, xo, .ref D, .ref D, b, rfl, he, x, rfl, k, q⟩
theorem rd_isiXT {K : PySem.W.Frag} {H : Hp} {Q : VK} {e C : Addr} {xo : Option Addr} {n : String} {b : Bool} (he : H e = some (ExcX e C xo)) (x : ExcIn K C) (k : PySem.W.kitOne K (.ref C) (.type n) = some b) (q : Q (.bl b) H) : rIsiX K [.ref e, .ty n] H Q :=
 ⟨e, C, xo, .ty n, .type n, b, rfl, he, x, rfl, k, q⟩
section
variable {X : Cx} {pins : List (Addr × Obj)} {σ : St} {H : Hp} {s : Shared}
theorem Inv.held {h' : Heap} {es : List Addr} (I : Inv X pins σ H s) (hs : X.stack = X.env :: X.outer) (hf : X.env.frame = some X.env.locals)
  (he : ∀ b ∈ es, H b = none ∧ X.s₀.heap.get? b = none ∧ (∀ p ∈ X.pn ++ pins, p.1 ≠ b) ∧ ∃ o vs, s.heap.get? b = some o ∧ o.data = .fields vs)
  (keep : ∀ b o, s.heap.get? b = some o → b ∉ frs X.stack → b ∉ es → h'.get? b = some o) (slot : ∀ b o, s.heap.get? b = some o → b ∈ frs X.stack → ∃ sl, h'.get? b = some { o with slots := sl }) : Inv X pins σ H { s with heap := h' } := by
 have lf := I.left hs (fun b hb => ⟨(he b hb).1, (he b hb).2.1⟩) keep slot
 have inL : X.env.locals ∈ frs X.stack := by rw [hs]; unfold frs; rw [List.filterMap_cons, hf]; exact List.mem_cons_self
 have cellK : ∀ c v, s.heap.IsCell c v → h'.IsCell c v := fun c v ⟨o, ho, hd⟩ => by
  by_cases hb : c ∈ frs X.stack
  ·obtain ⟨sl, q⟩ := slot c o ho hb
   exact ⟨_, q, hd⟩
  ·refine ⟨o, keep c o ho hb fun hm => ?_, hd⟩
   obtain ⟨_, _, _, o', vs, ho', hd'⟩ := he c hm
   rw [ho] at ho'; cases ho'; rw [hd] at hd'; cases hd'
 refine ⟨I.ok, I.os, I.bare, lf.1, ?_, fun x c e => ?_, I.free, I.freeC, fun p hp => ?_, lf.2, I.len⟩
 ·obtain ⟨m, ⟨o, es', ep, ho, r⟩, hl⟩ := I.loc
  obtain ⟨sl, hL⟩ := slot _ o ho inL
  refine ⟨m, ⟨_, es', ep, hL, r⟩, fun i x v e1 e2 e3 => ?_⟩
  obtain ⟨u, ru, l⟩ := hl i x v e1 e2 e3
  refine ⟨u, ru, ?_⟩
  rcases l with l | ⟨k, c, e, z⟩
  ·exact .inl l
  ·exact .inr ⟨k, c, e, cellK c _ z⟩
 ·obtain ⟨v, z⟩ := I.cell x c e
  exact ⟨v, cellK c v z⟩
 ·obtain ⟨e, n, ne, nf, d⟩ := I.pin p hp
  refine ⟨keep p.1 p.2 e (fun z => ?_) fun z => (he p.1 z).2.2.1 p hp rfl, n, ne, nf, d⟩
  rcases List.mem_cons.mp (I.stkSub p.1 z) with q | q
  ·exact ne q
  ·exact nf q
theorem Inv.track {e : Addr} {φ : Heap → Prop} (I : Inv X pins σ H s) (hH : H e = none) (h0 : X.s₀.heap.get? e = none) (hp : ∀ p ∈ X.pn ++ pins, p.1 ≠ e) (hd : ∃ o vs, s.heap.get? e = some o ∧ o.data = .fields vs)
    (hφ : φ s.heap) (st : ∀ h1 h2 : Heap, φ h1 → (∀ o, h1.get? e = some o → h2.get? e = some o) → φ h2) : Inv X pins σ (upd H e (.ext φ)) s := by
  obtain ⟨oe, vs, ho, hdd⟩ := hd
  have ne : ∀ b u, H b = some u → b ≠ e := fun b u z => ne_of_none z hH
  have n0 : ∀ b o, X.s₀.heap.get? b = some o → b ≠ e := fun b o z q => by rw [q, h0] at z; cases z
  have nH0 : ∀ b u, X.H₀ b = some u → H b ≠ none → b ≠ e := fun b u _ z q => z (q ▸ hH)
  refine ⟨I.ok, I.os, I.bare, ⟨I.base.keep, I.base.slot, fun b o z n hx => ?_, I.base.there, fun b xs z => ?_, fun b o u z => ?_, fun b ps z => ?_⟩, I.loc, I.cell, ?_, fun x c z => ?_, fun p hp' => ?_, fun b u z => ?_, I.len⟩
  · rw [upd_ne (n0 b o z)]; exact I.base.free b o z n hx
  · have q := I.base.tups b xs z
    rw [upd_ne (ne _ _ q)]; exact q
  · have q := I.base.frzs b o u z
    rw [upd_ne (ne _ _ q)]; exact q
  · obtain ⟨m, q⟩ := I.base.tbls b ps z
    exact ⟨m, by rw [upd_ne (ne _ _ q)]; exact q⟩
  · have q : X.env.locals ≠ e := fun q => by
      obtain ⟨m, ⟨o', es, ep, ho', hd', _⟩, _⟩ := I.loc
      rw [q, ho] at ho'; cases ho'; rw [hdd] at hd'; cases hd'
    rw [upd_ne q]; exact I.free
  · have q : c ≠ e := fun q => by
      obtain ⟨v, o', ho', hd'⟩ := I.cell x c z
      rw [q, ho] at ho'; cases ho'; rw [hdd] at hd'; cases hd'
    rw [upd_ne q]; exact I.freeC x c z
  · obtain ⟨a, n, r⟩ := I.pin p hp'
    exact ⟨a, by rw [upd_ne (hp p hp')]; exact n, r⟩
  · by_cases q : b = e
    · subst q
      rw [upd_same] at z
      cases z
      exact ⟨hφ, ⟨oe, ho⟩, st⟩
    · rw [upd_ne q] at z
      refine (I.hok b u z).stay (fun _ _ _ w => w) (fun c w => ?_) fun c xs w => ?_
      · rw [upd_ne (ne _ _ w)]; exact w
      · rw [upd_ne (ne _ _ w)]; exact w
end
end L2
set_option Elab.async false
set_option maxRecDepth 100000
namespace L2
open PySem PySem.Spec PyProof.Rows
abbrev Cx.tryIn (X : Cx) (pins : List (Addr × Obj)) (E : Value → Shared → Prop) : Cx := { X with pn := X.pn ++ pins, xe := E }
section
variable {X : Cx} {pins pins' : List (Addr × Obj)} {σ : St} {H : Hp} {s : Shared} {E : Value → Shared → Prop}
theorem Cx.Ok.tryIn (ok : X.Ok) : (X.tryIn pins E).Ok :=
 ⟨ok.mod, ok.kind, ok.glob, ok.blt, ok.above, ok.inj, ok.has, ok.cab, ok.hd, ok.frames, ok.stk, ok.exf, ok.bs, ok.bsz, ok.noex, ok.exfs, ok.funs, ok.frf⟩
theorem Cx.Ok.tryOut (ok : (X.tryIn pins E).Ok) : X.Ok :=
 ⟨ok.mod, ok.kind, ok.glob, ok.blt, ok.above, ok.inj, ok.has, ok.cab, ok.hd, ok.frames, ok.stk, ok.exf, ok.bs, ok.bsz, ok.noex, ok.exfs, ok.funs, ok.frf⟩
theorem Inv.tryIn (I : Inv X pins σ H s) (E : Value → Shared → Prop) : Inv (X.tryIn pins E) [] σ H s :=
 ⟨I.ok.tryIn, I.os, I.bare, I.base, I.loc, I.cell, I.free, I.freeC, fun p hp => I.pin p (by simpa using hp), I.hok, I.len⟩
theorem Inv.tryOut (I : Inv (X.tryIn pins E) pins' σ H s) : Inv X pins σ H s :=
 ⟨I.ok.tryOut, I.os, I.bare, I.base, I.loc, I.cell, I.free, I.freeC, fun p hp => I.pin p (List.mem_append_left _ hp), I.hok, I.len⟩
theorem SP.tryOut {D : Ends} {f : Flow} {s' : Shared} (h : SP (X.tryIn pins E) pins' D f s') : SP X pins D f s' := by
 cases f with
 | next => obtain ⟨σ', H', I, q⟩ := h; exact ⟨σ', H', I.tryOut, q⟩
 | brk => obtain ⟨σ', H', I, q⟩ := h; exact ⟨σ', H', I.tryOut, q⟩
 | cont => obtain ⟨σ', H', I, q⟩ := h; exact ⟨σ', H', I.tryOut, q⟩
 | ret u => obtain ⟨v, σ', H', I, r, q⟩ := h; exact ⟨v, σ', H', I.tryOut, r, q⟩
end
def XT (X : Cx) (pins : List (Addr × Obj)) (ET : St → XK) : Value → Shared → Prop := fun x s' => ∃ (σ : St) (e C : Addr) (xo : Option Addr) (H' : Hp), x = .ref e ∧ Inv X pins σ H' s' ∧ Exc X.s₀.heap s'.heap H' e C xo ∧
 (∀ p ∈ X.pn ++ pins, p.1 ≠ e ∧ ∀ oe vs T, s'.heap.get? e = some oe → oe.data = .fields vs → vs[1]? = some (.ref T) → p.1 ≠ T) ∧ ET σ (.ref C) xo H'
def PassesS (CX : CXT) (X : Cx) (ET : St → XK) : Prop := ∀ (pins : List (Addr × Obj)) (σ : St) (H : Hp) (s : Shared) (e : Value) (s' : Shared), Inv X pins σ H s → CX X.stack H s (ET σ) e s' → X.xe e s'
theorem passT {X : Cx} {pins : List (Addr × Obj)} {ET : St → XK} (hx : X.ex = [] := by rfl) : PassesS (CX1 X.prog X.w) (X.tryIn pins (XT X pins ET)) ET := by
 intro pins' σ H s x s' I h
 obtain ⟨e, C, xo, H', rfl, os, bare, un, hok, ex, q⟩ := h
 have J := I.call' (s' := s') (ch := []) os un hok bare (fun b hb => by cases hb)
 obtain ⟨⟨oe, ws, T, oT, ts, g1, g2, g3, g4, g5, g6, g7, g8, g9⟩, ne, hHe, hHT, dc⟩ := ex
 have s0 : ∀ {b : Addr}, s.heap.get? b = none → X.s₀.heap.get? b = none := fun {b} hb => by
  cases z : X.s₀.heap.get? b with
  | none => rfl
  | some o => obtain ⟨o', z'⟩ := I.base.there b o z (by show b ∉ X.ex; rw [hx]; simp); rw [hb] at z'; cases z'
 refine ⟨σ, e, C, xo, H', rfl, J.tryOut, ⟨⟨oe, ws, T, oT, ts, g1, g2, g3, g4, s0 g5, g6, g7, g8, g9⟩, s0 ne, hHe, hHT, dc⟩, fun p hp => ?_, q⟩
 have hp' := (I.pin p (List.mem_append_left _ hp)).1
 refine ⟨fun z => (by rw [z, ne] at hp'; cases hp'), fun oe' vs' T' z1 z2 z3 z => ?_⟩
 rw [g1] at z1; cases z1
 rw [g3] at z2; cases z2
 rw [g4] at z3; cases z3
 rw [z, g5] at hp'
 cases hp'
def tCallS (sp : Sp) (dvs : List V) (ET : St → XK) (t : TA) : TE := fun σ H Q => t σ H fun vs H1 => sp (vs ++ dvs) H1 Q (ET σ)
def tMakeS (C : Addr) (sp : Sp) (dvs : List V) (ET : St → XK) (t : TA) : TE := fun σ H Q => t σ H fun vs H1 => ∀ x dx, H1 x = none → H1 dx = none → dx ≠ x →
 sp (.ref x :: (vs ++ dvs)) (upd (upd H1 dx (.own x)) x (.ins C dx [])) (fun v H2 => v = .non ∧ Q (.ref x) H2) (ET σ)
section
variable {X : Cx} {CX : CXT} {k : Nat} {f C : Addr} {fd : FuncData} {ps : List Str} {sp : Sp} {dvs : List V} {ds : List Value} {ET : St → XK} {x m : Str} {p pos apos : Pos} {e o : Expr} {es : List Expr} {ta : TE} {t : TA}
theorem run_fnS {pins : List (Addr × Obj)} {σ : St} {H : Hp} {s : Shared} {Q : VK} {us : List Value} {vs : List V} (F : FnOk X.prog X.w X.K X.mg X.base CX k f fd ps sp) (hr : Room k X.A) (hb : Binds X.K fd ps ds) (hd : Vals dvs ds) (hx : PassesS CX X ET)
  (I : Inv X pins σ H s) (r : Vals vs us) (h : sp (vs ++ dvs) H Q (ET σ)) : wpAny (model X.prog X.w) X.A (call (.ref f) us) (EP X pins σ Q) X.xe s := by
 have r2 : Vals (vs ++ dvs) (us ++ ds) := r.append hd
 have hl : (us ++ ds).length = ps.length := by rw [← r2.length]; exact F.len _ _ _ _ h
 refine wpAny_call (codeAny_mono (F.run X.A X.stack s H ⟨us, []⟩ (us ++ ds) (vs ++ dvs) Q (ET σ) hr I.env0 (hb s us I.kIn hl) r2 h) fun r s' hq => ?_)
 cases r with
 | error e => exact hx pins σ H s e s' I hq
 | ok fl =>
  cases fl with
  | ret u => exact I.after hq
  | next => exact False.elim hq
  | brk => exact False.elim hq
  | cont => exact False.elim hq
theorem pe_callS (F : FnOk X.prog X.w X.K X.mg X.base CX k f fd ps sp) (hr : Room k X.A) (hg : Gl X x) (hm : X.mg x = some (.ref f)) (hk : PySem.W.keepIn X.K (.ref f) = true) (hb : Binds X.K fd ps ds) (hd : Vals dvs ds) (hx : PassesS CX X ET)
  (ha : PA X (e :: es) t) (hdb : (x == ("__debug__" : Str)) = false := by decide) (he : starEach (e :: es) X.env = (false, eval e X.env) :: starEach es X.env := by rfl) (hpl : (backTo pos (starEach es X.env)).any (·.1) = false := by rfl) :
  PE X (.Call (.Name x p) (e :: es) [] pos) (tCallS sp dvs ET t) := by
 intro pins s σ H Q I h
 refine wpAny_Call_Name_kw (ld_glob I hg hm ?_ hdb)
 refine PySem.W.callWith_K (h₀ := X.base) I.ok.mod.kin hk (thn (ha pos pins s σ H _ I h) fun us s1 ⟨vs, H1, I1, r, q⟩ => ⟨I1.kIn, ?_⟩) he hpl
 exact run_fnS F hr hb hd hx I1 r q
theorem run_makeS {pins : List (Addr × Obj)} {σ : St} {H : Hp} {s : Shared} {Q : VK} {us : List Value} {vs : List V} (M : Mk X.K C f) (F : FnOk X.prog X.w X.K X.mg X.base CX k f fd ps sp) (hr : Room (k + 1) X.A) (hb : Binds X.K fd ps ds) (hd : Vals dvs ds)
  (hx : PassesS CX X ET) (I : Inv X pins σ H s) (r : Vals vs us)
  (h : ∀ x dx, H x = none → H dx = none → dx ≠ x → sp (.ref x :: (vs ++ dvs)) (upd (upd H dx (.own x)) x (.ins C dx [])) (fun v H2 => v = .non ∧ Q (.ref x) H2) (ET σ)) :
  wpAny (model X.prog X.w) X.A (call (.ref C) us) (EP X pins σ Q) X.xe s := by
 have hq := h (s.heap.objs.size + 1) s.heap.objs.size (I.hok.fresh (Nat.le_succ _)) (I.hok.fresh (Nat.le_refl _)) (Nat.ne_of_lt (Nat.lt_succ_self _))
 have I2 := Inv.made (C := C) I
 have r2 : Vals (V.ref (s.heap.objs.size + 1) :: (vs ++ dvs)) (Value.ref (s.heap.objs.size + 1) :: (us ++ ds)) := .cons rfl (r.append hd)
 have hl : (Value.ref (s.heap.objs.size + 1) :: us ++ ds).length = ps.length := by
  have e := r2.length
  rw [F.len _ _ _ _ hq] at e
  exact e.symm
 refine wpAny_call (make_map (f := f) I.kIn M.makes M.init (beq_iff_eq.mp M.fn) (codeAny_mono (F.run _ X.stack _ _ ⟨Value.ref (s.heap.objs.size + 1) :: us, []⟩ (Value.ref (s.heap.objs.size + 1) :: (us ++ ds)) _ _ (ET σ) (hr.make C us [])
  (I2.env0.make C us []) (hb _ (Value.ref (s.heap.objs.size + 1) :: us) I2.kIn hl) r2 hq) fun r s' hq' => ?_))
 cases r with
 | error e => exact hx pins σ _ _ e s' I2 hq'
 | ok fl =>
  cases fl with
  | ret u =>
   obtain ⟨v, H', I3, rv, ev, q3⟩ := I2.after hq'
   subst ev
   exact ⟨rv, ⟨V.ref (s.heap.objs.size + 1), H', I3, rfl, q3⟩⟩
  | next => exact False.elim hq'
  | brk => exact False.elim hq'
  | cont => exact False.elim hq'
theorem pe_makeS (M : Mk X.K C f) (F : FnOk X.prog X.w X.K X.mg X.base CX k f fd ps sp) (hr : Room (k + 1) X.A) (hg : Gl X x) (hm : X.mg x = some (.ref C)) (hb : Binds X.K fd ps ds) (hd : Vals dvs ds) (hx : PassesS CX X ET)
  (ha : PA X (e :: es) t) (hdb : (x == ("__debug__" : Str)) = false := by decide) (he : starEach (e :: es) X.env = (false, eval e X.env) :: starEach es X.env := by rfl) (hpl : (backTo pos (starEach es X.env)).any (·.1) = false := by rfl) :
  PE X (.Call (.Name x p) (e :: es) [] pos) (tMakeS C sp dvs ET t) := by
 intro pins s σ H Q I h
 refine wpAny_Call_Name_kw (ld_glob I hg hm ?_ hdb)
 refine PySem.W.callWith_K (h₀ := X.base) I.ok.mod.kin M.kp (thn (ha pos pins s σ H _ I h) fun us s1 ⟨vs, H1, I1, r, q⟩ => ⟨I1.kIn, ?_⟩) he hpl
 exact run_makeS M F hr hb hd hx I1 r q
end
section
variable {σ : St} {H : Hp} {Q : VK}
theorem rd_callS {sp : Sp} {dvs : List V} {ET : St → XK} {t : TA} (h : t σ H fun vs H1 => sp (vs ++ dvs) H1 Q (ET σ)) : tCallS sp dvs ET t σ H Q := h
theorem rd_makeS {C : Addr} {sp : Sp} {dvs : List V} {ET : St → XK} {t : TA} (h : t σ H fun vs H1 => ∀ x dx, H1 x = none → H1 dx = none → dx ≠ x →
 sp (.ref x :: (vs ++ dvs)) (upd (upd H1 dx (.own x)) x (.ins C dx [])) (fun v H2 => v = .non ∧ Q (.ref x) H2) (ET σ)) : tMakeS C sp dvs ET t σ H Q := h
end
abbrev Cx.suite (X : Cx) (e : Addr) : Cx := { X with A := X.A.mark (some (.ref e)), calm := false, xe := fun _ _ => False }
section
variable {X : Cx} {pins : List (Addr × Obj)} {σ : St} {H : Hp} {s : Shared} {e : Addr}
theorem Cx.Ok.suite (ok : X.Ok) : (X.suite e).Ok :=
 ⟨ok.mod, ok.kind, ok.glob, ok.blt, ok.above, ok.inj, ok.has, ok.cab, fun z => Bool.noConfusion z, ok.frames, ok.stk, ok.exf, ok.bs, ok.bsz, ok.noex, ok.exfs, ok.funs, ok.frf⟩
theorem Inv.suite (I : Inv X pins σ H s) : Inv (X.suite e) pins σ H s := ⟨I.ok.suite, I.os, I.bare, I.base, I.loc, I.cell, I.free, I.freeC, I.pin, I.hok, I.len⟩
theorem Inv.unsuite (ok : X.Ok) (I : Inv (X.suite e) pins σ H s) : Inv X pins σ H s := ⟨ok, I.os, I.bare, I.base, I.loc, I.cell, I.free, I.freeC, I.pin, I.hok, I.len⟩
end
end L2
set_option Elab.async false
set_option maxRecDepth 100000
namespace L2
open PySem PySem.Spec PyProof.Rows
def Dh (i : Nat) (D : Ends) : Ends := { nx := fun σ H => D.nx (σ.set i none) H, rt := D.rt, bk := fun σ H => D.bk (σ.set i none) H, ct := fun σ H => D.ct (σ.set i none) H }
def ETof (K : PySem.W.Frag) (S : Addr) (i : Nat) (ts : TS) (D : Ends) : St → XK := fun σ cls xo H1 => ∃ C, cls = .ref C ∧ PySem.W.exmOne K (.ref C) (.ref S) = some true ∧ ∀ e, H1 e = none → ts (Dh i D) (σ.set i (some (.ref e))) (upd H1 e (ExcX e C xo))
def tTry (K : PySem.W.Frag) (S : Addr) (i : Nat) (tb : (St → XK) → TS) (ts : TS) : TS := fun D σ H => tb (ETof K S i ts D) D σ H
theorem gone_ok {X : Cx} {pins : List (Addr × Obj)} {σ : St} {H : Hp} {s : Shared} {M : Model} {A : Around} {E : Value → Shared → Prop} {i : Nat} {n : Str} {pos : Pos} {Q : Unit → Shared → Prop} (I : Inv X pins σ H s) (hN : X.N.Nodup) (hi : X.N[i]? = some n)
  (hk : X.env.kindOf n = some .local) (h : ∀ s', Inv X pins (σ.set i none) H s' → Q () s') : wpAny M A (do bindName X.env n .none; unbindBehindTheSuite X.env n pos) Q E s := by
 obtain ⟨m, hn, hl⟩ := id I.loc
 have hcls : (X.env.scope.kind == .class || (X.env.scope.kind == .module && X.env.locals != X.env.globals)) = false := by rw [I.ok.kind]; rfl
 have cne := I.cne
 refine wpAny_nameGoes_keeps hk hn hcls fun h' v hn' hs => h _ ?_
 obtain ⟨oL, _, _, hoL, _⟩ := id hn
 have hk' : HOk X.prog X.w H h' := fun b ob e => by
  refine (I.hok b ob e).stay (fun c w' hc q => (hs.2 c ?_).trans q) (fun _ q => q) fun _ _ q => q
  rintro rfl
  rcases hc with rfl | hc
  ·rw [I.free] at e; cases e
  ·rw [I.free] at hc; cases hc
 have nL : ∀ b o, X.s₀.heap.get? b = some o → b ≠ X.env.locals := fun b o e => Nat.ne_of_lt (Nat.lt_of_lt_of_le (Heap.lt_size e) I.ok.above)
 refine ⟨I.ok, I.os, I.bare, ⟨fun b o e n hb hx => (hs.2 b (nL b o e)).trans (I.base.keep b o e n hb hx), fun b o e n hb hx => ?_, I.base.free, fun b o e hx => ?_, I.base.tups, I.base.frzs, I.base.tbls⟩, ⟨_, hn', fun j y v' e1 e2 e3 => ?_⟩, fun y c e => ?_, I.free, I.freeC, fun p hp => ?_, hk', by simpa using I.len⟩
 ·obtain ⟨sl, e1⟩ := I.base.slot b o e n hb hx
  exact ⟨sl, (hs.2 b (nL b o e)).trans e1⟩
 ·obtain ⟨o', e1⟩ := I.base.there b o e hx
  exact ⟨o', (hs.2 b (nL b o e)).trans e1⟩
 ·by_cases hj : j = i
  ·subst hj
   have hiσ : j < σ.length := by rw [I.len]; exact (List.getElem?_eq_some_iff.mp hi).1
   rw [List.getElem?_set_self hiσ] at e2
   cases e2
  ·rw [List.getElem?_set_ne (Ne.symm hj)] at e2
   obtain ⟨u', r', q⟩ := hl j y v' e1 e2 e3
   refine ⟨u', r', ?_⟩
   rcases q with ⟨k, e⟩ | ⟨k, c, e, z⟩
   ·refine .inl ⟨k, ?_⟩
    have : y ≠ n := fun e => hj (nodup_ix hN e1 (e ▸ hi))
    simp [this, e]
   ·exact .inr ⟨k, c, e, z.sameBut hs (cne y c e)⟩
 ·obtain ⟨w', z⟩ := I.cell y c e
  exact ⟨w', z.sameBut hs (cne y c e)⟩
 ·obtain ⟨e, n, ne, nf, d⟩ := I.pin p hp
  exact ⟨(hs.2 p.1 ne).trans e, n, ne, nf, d⟩
theorem ps_try {X : Cx} {i : Nat} {n x : Str} {S : Addr} {body suite : List Stmt} {b₀ : Stmt} {np hpos pos : Pos} {tb : (St → XK) → TS} {ts : TS} (hN : X.N.Nodup) (hi : X.N[i]? = some n) (hk : X.env.kindOf n = some .local)
  (hg : Gl X x) (hm : X.mg x = some (.ref S)) (hb : ∀ pins ET, PSs (X.tryIn pins (XT X pins ET)) body (tb ET)) (hh : ∀ e, PSs (X.suite e) (b₀ :: suite) ts)
  (hs : X.stack = X.env :: X.outer := by rfl) (hf : X.env.frame = some X.env.locals := by rfl) (hd : (x == ("__debug__" : Str)) = false := by decide) :
  PS X (.Try body [.ExceptHandler (some (.Name x np)) (some n) (b₀ :: suite) hpos] [] [] pos) (tTry X.K S i tb ts) := by
 intro pins s σ H D I h
 refine wpAny_Try_except (wpAny_mono (hb pins (ETof X.K S i ts D) [] s σ H D (I.tryIn _) h) (fun f s1 q => ?_) (fun y s1 q => ?_))
 ·have q := q.tryOut
  cases f with
  | next =>
   obtain ⟨σ', H', I', q'⟩ := q
   exact pss_nil pins s1 σ' H' D I' q'
  | brk => exact q
  | cont => exact q
  | ret u => exact q
 ·obtain ⟨σ1, e, C, xo, H1, rfl, I1, ex, hp, C', hC, hx', k⟩ := q
  cases hC
  obtain ⟨⟨oe, ws, T, oT, tl, g1, g2, g3, g4, g5, g6, g7, g8, g9⟩, ne, hHe, hHT, dc⟩ := ex
  have hHT := hHT oe ws T g1 g3 g4
  obtain ⟨a0, h0⟩ : ∃ a0, ws[0]? = some a0 := by
   have hsz : 1 < ws.size := (Array.getElem?_eq_some_iff.mp g4).1
   exact ⟨ws[0], by simp [show 0 < ws.size by omega]⟩
  have ff := I1.stack
  have hl := PySem.W.funFrames_hide (as := e :: T :: frs X.stack) ff (stack_in fun b hb => List.mem_cons_of_mem _ (List.mem_cons_of_mem _ hb))
  have fl : Heap.FlyingW (PySem.W.hideAll s1.heap (e :: T :: frs X.stack)) (X.env :: X.outer) e (.ref C) a0 s1.heap :=
   ⟨fun b o z => PySem.W.of_hideAll _ z, PySem.W.hideAll_none _ List.mem_cons_self, hs ▸ hl, ⟨oe, ws, T, oT, tl, g1, ⟨g2, h0⟩, g3, g4, PySem.W.hideAll_none _ (List.mem_cons_of_mem _ List.mem_cons_self), g6, g7, g8, g9⟩⟩
  have stay : ∀ h', Heap.StaysIn (PySem.W.hideAll s1.heap (e :: T :: frs X.stack)) h' → s1.heap.UpToSlots h' → Inv X pins σ1 H1 { s1 with heap := h' } := fun h' st sm => by
   refine I1.held (es := [e, T]) hs hf (fun b hb => ?_) (fun b o z nf nm => st b o (PySem.W.hideAll_get _ z ?_)) fun b o z hb => ?_
   ·simp only [List.mem_cons, List.not_mem_nil, or_false] at hb
    rcases hb with rfl | rfl
    ·exact ⟨hHe, ne, fun p hq => (hp p hq).1, oe, ws, g1, g3⟩
    ·exact ⟨hHT, g5, fun p hq => (hp p hq).2 oe ws _ g1 g3 g4, oT, tl, g7, g8⟩
   ·intro m
    rcases List.mem_cons.mp m with r | m
    ·exact nm (by simp [r])
    ·rcases List.mem_cons.mp m with r | r
     ·exact nm (by simp [r])
     ·exact nf r
   ·obtain ⟨_, o', z', hd'⟩ := ff.mem hb
    rw [z] at z'; cases z'
    exact sm b o z hd'
  refine wpAny_mono (DS.any (ds_noteFrame _ _) (wpAny_looks_onW (Q := fun _ s2 => ∃ h4, s2 = { s1 with heap := h4 } ∧ Heap.HeldW (PySem.W.hideAll s1.heap (e :: T :: frs X.stack)) (X.env :: X.outer) e (.ref C) a0 X.env.locals h4 ∧ s1.heap.UpToSlots h4) (I1.ok.frames.trans (congrArg some hs)) hf fl fun h4 held sm4 => ⟨h4, rfl, held, sm4⟩) ⟨oe, g1, rfl⟩) (fun _ s2 ⟨⟨h4, e4, held, sm4⟩, d4⟩ => ?_) fun _ _ z => z
  subst e4
  refine wpAny_mono (DS.any (ds_setFlight _ _) (wpAny_landsW (s := { s1 with heap := h4 }) (Q := fun _ s2 => ∃ h5, s2 = { s1 with heap := h5 } ∧ Heap.FlyingW (PySem.W.hideAll s1.heap (e :: T :: frs X.stack)) (X.env :: X.outer) e (.ref C) a0 h5 ∧ h4.UpToSlots h5) held fun h5 fl5 sm5 => ⟨h5, rfl, fl5, sm5⟩) d4) (fun _ s2 ⟨⟨h5, e5, fl5, sm5⟩, d5⟩ => ?_) fun _ _ z => z
  subst e5
  have I5 := stay h5 fl5.1 (sm4.trans sm5)
  refine wpAny_handleBy_cons (codeAny_handlers_test (ld_glob (X := X.suite e) I5.suite hg hm ?_ hd)) (by intro q; cases q)
  have LT : PySem.W.Looks (model X.prog X.w) h5 (typeOf (.ref e)) (.ref C) := ExcAt.looks fl5.there
  refine (PySem.W.exm_one (h := h5) I5.kIn LT hx').here ?_
  refine codeAny_handlers_suite_as ?_
  refine wpAny_mono (DS.any (ds_setFlight _ _) (lands_againW (s := { s1 with heap := h5 }) (Q := fun _ s2 => ∃ h6, s2 = { s1 with heap := h6 } ∧ Heap.FlyingW (PySem.W.hideAll s1.heap (e :: T :: frs X.stack)) (X.env :: X.outer) e (.ref C) a0 h6 ∧ h5.UpToSlots h6) fl5 fun h6 fl6 sm6 => ⟨h6, rfl, fl6, sm6⟩) d5) (fun _ s2 ⟨⟨h6, e6, fl6, sm6⟩, d6⟩ => ?_) fun _ _ z => z
  subst e6
  have I6 := stay h6 fl6.1 ((sm4.trans sm5).trans sm6)
  obtain ⟨oe6, ws6, z1, z2, z3, _⟩ := fl6.first
  have dc6 : ∀ dx, xo = some dx → oe6.dict = some dx := fun dx z => by
   obtain ⟨o, y1, y2⟩ := dc dx z
   rw [g1] at y1; cases y1
   obtain ⟨o, y3, y4⟩ := d6
   rw [show ({ s1 with heap := h6 } : Shared).heap = h6 from rfl, z1] at y3; cases y3
   rw [y4, y2]
  have I7 : Inv X pins σ1 (upd H1 e (ExcX e C xo)) { s1 with heap := h6 } := I6.track hHe ne (fun p hq => (hp p hq).1) ⟨oe6, ws6, z1, z3⟩ ⟨oe6, ws6, z1, z2, z3, dc6⟩ fun ha hb ⟨o, vs, p1, p2⟩ kk => ⟨o, vs, kk o p1, p2⟩
  refine store_ok (X := X.suite e) (v := .ref e) I7.suite hN hi (.inl hk) rfl (fun s8 I8 => ?_) (.inr hk)
  refine wpAny_mono (hh e pins s8 _ _ (Dh i D) I8 (k e hHe)) (fun f s9 q => ?_) fun _ _ z => False.elim z
  show wpAny _ _ _ _ _ _
  cases f with
  | next =>
   obtain ⟨σ', H', I', q'⟩ := q
   exact gone_ok (I'.unsuite I.ok) hN hi hk fun s' J => ⟨_, H', J, q'⟩
  | brk =>
   obtain ⟨σ', H', I', q'⟩ := q
   exact gone_ok (I'.unsuite I.ok) hN hi hk fun s' J => ⟨_, H', J, q'⟩
  | cont =>
   obtain ⟨σ', H', I', q'⟩ := q
   exact gone_ok (I'.unsuite I.ok) hN hi hk fun s' J => ⟨_, H', J, q'⟩
  | ret u =>
   obtain ⟨v, σ', H', I', r, q'⟩ := q
   exact gone_ok (I'.unsuite I.ok) hN hi hk fun s' J => ⟨v, _, H', J, r, q'⟩
end L2
set_option Elab.async false
set_option maxRecDepth 100000
namespace L2
open PySem PySem.Spec PyProof.Rows
abbrev Cx.quiet (X : Cx) : Cx := { X with calm := false }
section
variable {P : Program} {w : World} {K : PySem.W.Frag} {mg : Str → Option Value} {base : Heap}
end
section
variable {X : Cx} {k : Nat} {f C : Addr} {fd : FuncData} {ps : List Str} {sp : Sp} {dvs : List V} {ds : List Value} {x m : Str} {p pos apos : Pos} {e o : Expr} {es : List Expr} {ta : TE} {t : TA}
end
end L2
set_option Elab.async false
set_option maxRecDepth 100000
namespace L2
open PySem PySem.Spec PyProof.Rows
theorem exm_of {K : PySem.W.Frag} {A S : Addr} (bs : PySem.W.subIn K (.ref S) (.type "BaseException") = some true) (mo : PySem.W.mroIn K S (.type "object") = some true) (ty : PySem.W.typeIn K (.ref S) = some (.type "type"))
  (sb : PySem.W.subIn K (.ref A) (.ref S) = some true) : PySem.W.exmOne K (.ref A) (.ref S) = some true := by
 obtain ⟨cd, hc, _⟩ := Option.bind_eq_some_iff.mp mo
 simp only [PySem.W.exmOne, PySem.W.kitCls]
 simp [bs, hc, ty, sb]
theorem own_of {K : PySem.W.Frag} {h : Heap} {mg : Str → Option Value} {x : Str} {C : Addr} {bmB : List Value} {newId : String} (X : K.In h) (hm : mg x = some (.ref C)) (q : PySem.W.excIn K C bmB newId = true) : OwnCls x C bmB newId mg h := by
 refine ⟨hm, ?_⟩
 simp only [PySem.W.excIn] at q
 split at q
 case h_2 => cases q
 case h_1 dd cd sl ho =>
  split at q
  case h_2 => cases q
  case h_1 C' bm k0 k1 k2 k3 n k5 hmr hsl =>
   simp only [Bool.and_eq_true, beq_iff_eq, Bool.not_eq_true'] at q
   obtain ⟨⟨⟨⟨⟨e1, e2⟩, hdel⟩, ht⟩, hok⟩, hni⟩ := q
   subst e1 e2
   have hh := X _ _ ho
   obtain ⟨nm, bs, mro, ns, qn, hd, sn, sub, ab, col, del⟩ := cd
   simp only at hmr hdel hok hni
   subst hmr hdel
   obtain ⟨l⟩ := sl
   simp only at hsl
   subst hsl
   exact ⟨bm, ns, nm, qn, bs, hd, sn, sub, ab, col, dd, k0, k1, k2, k3, k5, _, hh, .of_isNs (PySem.W.isNs_of_in X hok), PySem.W.nsMap_none_of_in X hok hni, PySem.W.tail_of_in X ht⟩
theorem ps_raiseK {X : Cx} {E : XK} {x : Str} {C : Addr} {B newId initId : String} {bm : List Value} {np cpos pos : Pos} {e : Expr} {es : List Expr} {t : TA} (hm : X.mg x = some (.ref C)) (q : PySem.W.excIn X.K C bm newId = true) (FB : ExcBaseFacts B newId initId bm) (hc : X.calm = true) (hg : Gl X x)
  (hx : ∀ (pins : List (Addr × Obj)) (σ : St) (H : Hp) (s : Shared) (h' : Heap) (t' : Nat) (e : Addr) (vs : List Value), Inv X pins σ H s → Heap.MadeExcOf s.heap h' e (.ref C) vs → E (.ref C) none H → X.xe (.ref e) { s with heap := h', toks := t' })
  (ha : PA X (e :: es) t) (hd : (x == ("__debug__" : Str)) = false := by decide) (he : starEach (e :: es) X.env = (false, eval e X.env) :: starEach es X.env := by rfl) (hpl : (backTo cpos (starEach es X.env)).any (·.1) = false := by rfl) :
  PS X (.Raise (some (.Call (.Name x np) (e :: es) [] cpos)) none pos) (tRaise C E t) := fun pins s σ H D I h =>
 ps_raise (own_of I.ok.mod.kin hm q) FB hc hg hx ha hd he hpl pins s σ H D I h
theorem rd_raise {C : Addr} {E : XK} {t : TA} {D : Ends} {σ : St} {H : Hp} (h : t σ H fun vs H1 => vs.length ≤ sizeLine ∧ E (.ref C) none H1) : tRaise C E t D σ H := h
section
variable {P : Program} {w : World} {K : PySem.W.Frag} {mg : Str → Option Value} {base : Heap}
theorem FnOk.down {k : Nat} {f : Addr} {fd : FuncData} {ps : List Str} {sp sp' : Sp} (F : FnOk P w K mg base (CX1 P w) k f fd ps sp) (h : ∀ vs H Q E, sp' vs H Q E → sp vs H Q (fun _ _ _ => False)) : FnOk P w K mg base CX0 k f fd ps sp' :=
 ⟨fun vs H Q E q => F.len vs H Q _ (h _ _ _ _ q), fun A outer s H args us vs Q E hr e0 hb hv hs => codeAny_mono (F.run A outer s H args us vs Q _ hr e0 hb hv (h _ _ _ _ hs)) fun r s' hq => by
  cases r with
  | error e => obtain ⟨_, _, _, _, _, _, _, _, _, _, z⟩ := hq; exact z.elim
  | ok fl => cases fl <;> exact hq⟩
end
theorem rd_try {K : PySem.W.Frag} {S : Addr} {i : Nat} {tb : (St → XK) → TS} {ts : TS} {D : Ends} {σ : St} {H : Hp} (h : tb (ETof K S i ts D) D σ H) : tTry K S i tb ts D σ H := h
end L2
set_option Elab.async false
set_option maxRecDepth 100000
namespace L2
open PySem PySem.Spec PyProof.Rows
theorem rd_cat {H : Hp} {Q : VK} {a b : Addr} {xs zs : List V} (ha : H a = some (.lst xs)) (hb : H b = some (.lst zs)) (z : xs.length + zs.length ≤ sizeLine) (q : ∀ p, H p = none → Q (.ref p) (upd H p (.lst (xs ++ zs)))) : rCat (.ref a) (.ref b) H Q :=
 ⟨a, b, xs, zs, rfl, rfl, ha, hb, z, q⟩
def SameBut (l : Addr) (H H' : Hp) : Prop := ∀ b o, H b = some o → b ≠ l → H' b = some o
theorem Same.but {H H' : Hp} (s : Same H H') (l : Addr) : SameBut l H H' := fun b o e _ => s b o e
section
variable {K : PySem.W.Frag} {σ : St} {H : Hp} {Q : VK} {te : TE} {cap : List (Option Nat)} {l : Addr}
theorem compW_rangeR {n : Nat} (R : Nat → V → Hp → Prop) (hz : n ≤ 1000) (hl : H l = none) (mono : ∀ i v H1 H2, SameBut l H1 H2 → R i v H1 → R i v H2)
  (step : ∀ i o H' (Q' : VK), i < n → Same H H' → (∃ ys, H' l = some (.lst ys)) → (∀ v H5, Same H' H5 → R i v H5 → Q' v H5) → te (((capS (none :: cap) σ).set 0 o).set 0 (some (.int ((0 : Int) + (i : Nat))))) H' Q')
  (fin : ∀ ys H', Same H H' → H' l = some (.lst ys) → ys.length = n → (∀ (i : Nat) v, ys[i]? = some v → R i v H') → Q (.ref l) H') : CompW (Itr 0 n) (gName 0) tTrue te (none :: cap) l σ H Q := by
 refine ⟨n, fun i ys σ' H' => ys.length = i ∧ (∀ (j : Nat) v, ys[j]? = some v → R j v H') ∧ (∃ o, σ' = (capS (none :: cap) σ).set 0 o) ∧ Same H H' ∧ H' l = some (.lst ys), ⟨rfl, fun j v e => by simp at e, ⟨none, rfl⟩, Same.new hl, upd_same⟩, ?_, ?_⟩
 ·rintro i ys σ' H' hi ⟨ly, hR, ⟨o, rfl⟩, s, e⟩
  refine ⟨hi, fun x H2 y => ?_⟩
  obtain ⟨e2, rfl⟩ := y
  subst e2
  refine rd_name (rd_true (iteT ?_))
  refine step i o H2 _ hi s ⟨ys, e⟩ fun v H5 s5 r => ⟨s5 _ _ e, small1000 (by omega), ?_⟩
  have sb : SameBut l H5 (upd H5 l (.lst (ys ++ [v]))) := fun b u eb hb => by rw [upd_ne hb]; exact eb
  refine ⟨by rw [List.length_append, ly]; rfl, fun j u ej => ?_, ⟨_, List.set_set ..⟩, (s.trans s5).later hl, upd_same⟩
  by_cases hj : j < ys.length
  ·rw [List.getElem?_append_left hj] at ej
   exact mono j u _ _ sb (mono j u _ _ (s5.but l) (hR j u ej))
  ·rw [List.getElem?_append_right (by omega)] at ej
   have : j = i := by
    have hh := (List.getElem?_eq_some_iff.mp ej).1
    rw [List.length_singleton] at hh
    omega
   subst this
   rw [ly, Nat.sub_self] at ej
   cases ej
   exact mono j _ _ _ sb r
 ·rintro ys σ' H' ⟨ly, hR, _, s, e⟩
  exact ⟨Nat.le_refl _, fin ys H' s e ly hR⟩
end
def tJoin (t : TS) : TS := fun D σ H => ∃ J : St → Hp → Prop, t { D with nx := J } σ H ∧ ∀ σ' H', J σ' H' → D.nx σ' H'
theorem ps_join {X : Cx} {st : Stmt} {t : TS} (h : PS X st t) : PS X st (tJoin t) := by
 intro pins s σ H D I ⟨J, h1, h2⟩
 refine wpAny_mono (h pins s σ H _ I h1) (fun f s' q => ?_) fun _ _ z => z
 cases f with
 | next => obtain ⟨σ', H', J', q⟩ := q; exact ⟨σ', H', J', h2 σ' H' q⟩
 | brk => exact q
 | cont => exact q
 | ret u => exact q
theorem rd_join {t : TS} {D : Ends} {σ : St} {H : Hp} (J : St → Hp → Prop) (h1 : t { D with nx := J } σ H) (h2 : ∀ σ' H', J σ' H' → D.nx σ' H') : tJoin t D σ H := ⟨J, h1, h2⟩
end L2
set_option Elab.async false
set_option maxRecDepth 100000
namespace L2
open PySem PySem.Spec PyProof.Rows
section
variable {prog : Program} {w : World} {A : Around} {E : Value → Shared → Prop} {s : Shared}
theorem tupNext {I u : Addr} {k : Nat} {its : Array Value} {x : Value} {Q : Value → Shared → Prop} (hI : s.heap.IsTupleIter I u k) (hu : s.heap.IsTuple u its) (hx : its[k]? = some x)
  (hQ : ∀ g, g.IsTupleIter I u (k + 1) → Heap.SameBut I s.heap g → Q x { s with heap := g }) : wpAny (model prog w) A (Builtin.SmallTypes.nextOf (.ref I)) Q E s := by
 obtain ⟨oI, eI, cI, dI⟩ := id hI
 obtain ⟨ou, eu, _, nu, du⟩ := hu
 unfold Builtin.SmallTypes.nextOf
 refine wpAny_bind (wpAny_callSpecial?_slot (name := Str.ofString "__next__") hI.typeIs F.slot_tuple_iterator_next (wpAny_call_entry F.slot_tuple_iterator_next hI.typeIs F.entry_tuple_iterator_next ?_ (F.args_tuple_iterator_next_1 _)))
 show wpAny _ _ (field (.ref I) 0 >>= _) _ _ s
 refine wpAny_bind (wpAny_field eI dI (x := .ref u) rfl ?_)
 show wpAny _ _ (if (Value.ref u == Value.none) = true then _ else _) _ _ s
 rw [if_neg (show ¬ ((Value.ref u == Value.none) = true) from Bool.false_ne_true)]
 show wpAny _ _ (field (.ref I) 1 >>= _) _ _ s
 refine wpAny_bind (wpAny_field eI dI (x := .int k 0) rfl ?_)
 show wpAny _ _ (seqItems? (.ref u) >>= _) _ _ s
 refine wpAny_bind (wpAny_seqItems eu du ?_)
 rw [Int.toNat_natCast]; simp only [hx]
 refine wpAny_bind (wpAny_setField eI dI (by simp) (wpAny_pure ⟨x, rfl, wpAny_pure (hQ _ ?_ (Heap.SameBut.update ..))⟩))
 exact ⟨_, Heap.get?_update_self _ eI (Obj.isFreed_of_fields (Obj.data_mapFields dI _)), (Obj.cls_mapFields ..).trans cI, by rw [Obj.data_mapFields dI]; simp [rawInt]⟩
theorem tupStop {I u : Addr} {k : Nat} {its : Array Value} {Q : Value → Shared → Prop} (hd0 : A.handled = none) (hI : s.heap.IsTupleIter I u k) (hu : s.heap.IsTuple u its) (hx : its[k]? = none)
  (hE : ∀ g e, Heap.ExtBut I s.heap g → (∃ o, g.get? e = some o ∧ o.cls = .type "StopIteration") → E (.ref e) { s with heap := g }) : wpAny (model prog w) A (Builtin.SmallTypes.nextOf (.ref I)) Q E s := by
 obtain ⟨oI, eI, cI, dI⟩ := id hI
 obtain ⟨ou, eu, _, nu, du⟩ := hu
 unfold Builtin.SmallTypes.nextOf
 refine wpAny_bind (wpAny_callSpecial?_slot (name := Str.ofString "__next__") hI.typeIs F.slot_tuple_iterator_next (wpAny_call_entry F.slot_tuple_iterator_next hI.typeIs F.entry_tuple_iterator_next ?_ (F.args_tuple_iterator_next_1 _)))
 show wpAny _ _ (field (.ref I) 0 >>= _) _ _ s
 refine wpAny_bind (wpAny_field eI dI (x := .ref u) rfl ?_)
 show wpAny _ _ (if (Value.ref u == Value.none) = true then _ else _) _ _ s
 rw [if_neg (show ¬ ((Value.ref u == Value.none) = true) from Bool.false_ne_true)]
 show wpAny _ _ (field (.ref I) 1 >>= _) _ _ s
 refine wpAny_bind (wpAny_field eI dI (x := .int k 0) rfl ?_)
 show wpAny _ _ (seqItems? (.ref u) >>= _) _ _ s
 refine wpAny_bind (wpAny_seqItems eu du ?_)
 rw [Int.toNat_natCast]; simp only [hx]
 refine wpAny_bind (wpAny_rule (wpAny_bind (wpAny_setField eI dI (by simp) ?_)))
 show wpAny _ _ (newExc (.type "StopIteration") [] >>= _) _ _ _; refine wpAny_bind ?_
 simp only [newExc, newTuple]; refine wpAny_bind (wpAny_newObj_type ?_ (by size_fits))
 refine wpAny_bind (m := firstArgMember _ _) (wpAny_of_eq (a := Value.none) (by first | rfl | (simp only [firstArgMember]; rfl)) ?_); refine wpAny_newObj_type ?_ (by size_fits)
 simp only [raiseNew]; refine wpAny_bind (wpAny_handled ?_); rw [show A.in1.handled = none from hd0]
 refine wpAny_bind (wpAny_pure (wpAny_throw ?_)); exact hE _ _ (((Heap.SameBut.update ..).extBut.push _).push _) ⟨_, Heap.get?_push_size _ rfl, rfl⟩
theorem zipT_item {Z TI TO i j u v : Addr} {k l : Nat} {xs ys : Array Value} {x y a b : Value} {Q : Option Value → Shared → Prop} (D : ZipApart Z TI TO i j u v)
  (eZ : IsZip s.heap Z TI TO .none) (eI : IsPair s.heap TI (.ref i) (.ref j)) (eO : IsPair s.heap TO a b) (ei : s.heap.IsTupleIter i u k) (ej : s.heap.IsTupleIter j v l) (eu : s.heap.IsTuple u xs) (ev : s.heap.IsTuple v ys) (hx : xs[k]? = some x) (hy : ys[l]? = some y)
  (hQ : ∀ g, IsZip g Z TI TO (rawInt s.heap.objs.size) → IsPair g TO x y → g.IsTupleIter i u (k + 1) → g.IsTupleIter j v (l + 1) → IsPair g s.heap.objs.size x y → g.objs.size = s.heap.objs.size + 1 →
   (∀ c o, c ≠ Z → c ≠ TO → c ≠ i → c ≠ j → s.heap.get? c = some o → g.get? c = some o) → Q (some (.ref s.heap.objs.size)) { s with heap := g }) : wpAny (model prog w) A (pyNext (.ref Z)) Q E s := by
 have hT : s.TypeIs (.ref Z) "zip" := ⟨_, eZ, rfl⟩
 unfold pyNext
 refine wpAny_bind (wpAny_attempt (wpAny_callSpecial?_slot (name := Str.ofString "__next__") hT F.slot_zip_next (wpAny_call_entry F.slot_zip_next hT F.entry_zip_next ?_ (F.args_zip_next_1 _))))
 show wpAny _ _ (field (.ref Z) 2 >>= _) _ _ _
 refine wpAny_bind (wpAny_field eZ rfl (x := .bool false) rfl ?_)
 show wpAny _ _ (field (.ref Z) 3 >>= _) _ _ _
 refine wpAny_bind (wpAny_field eZ rfl (x := .ref TI) rfl ?_); refine wpAny_bind (wpAny_seqItems eI rfl ?_)
 show wpAny _ _ (Builtin.SmallTypes.ownedTupleIsFree (.ref Z) >>= _) _ _ _
 refine wpAny_bind ?_; unfold Builtin.SmallTypes.ownedTupleIsFree
 refine wpAny_bind (wpAny_field eZ rfl (x := .none) rfl (wpAny_pure ?_)); simp only [if_true]
 refine wpAny_bind (wpAny_rule ?_); refine wpAny_bind (wpAny_field eZ rfl (x := .ref TO) rfl ?_)
 refine wpAny_bind (wpAny_setField_rec eZ (by simp) fun g1 z1 t1 => ?_)
 replace z1 : IsZip g1 Z TI TO .ellipsis := z1
 refine wpAny_bind ?_; simp only [List.zipIdx_cons, List.zipIdx_nil, List.forIn_cons, List.forIn_nil]; refine wpAny_bind (wpAny_bind (wpAny_onRaise ?_))
 show wpAny _ _ (Builtin.SmallTypes.nextOf (.ref i) >>= _) _ _ _
 refine wpAny_bind (tupNext (ei.extBut t1.extBut D.i1z) (eu.extBut t1.extBut D.l1z) hx fun g2 i2 t2 => wpAny_pure ?_)
 have o2 : IsPair g2 TO a b := t2.extBut _ _ D.TOi1 (t1.extBut _ _ D.TOz eO)
 refine wpAny_bind (wpAny_seqItems o2 rfl ?_); refine wpAny_bind (wpAny_updateSeq_pair o2 fun g3 o3 t3 => ?_)
 replace o3 : IsPair g3 TO x b := o3
 refine wpAny_bind (wpAny_letGo (wpAny_pure ?_)); refine wpAny_bind (wpAny_bind (wpAny_onRaise ?_))
 show wpAny _ _ (Builtin.SmallTypes.nextOf (.ref j) >>= _) _ _ _
 refine wpAny_bind (tupNext (((ej.extBut t1.extBut D.i2z).extBut t2.extBut D.i12.symm).extBut t3.extBut D.TOi2.symm) (((ev.extBut t1.extBut D.l2z).extBut t2.extBut D.l2i1).extBut t3.extBut D.l2TO) hy fun g4 j4 t4 => wpAny_pure ?_)
 have o4 : IsPair g4 TO x b := t4.extBut _ _ D.TOi2 o3
 refine wpAny_bind (wpAny_seqItems o4 rfl ?_); refine wpAny_bind (wpAny_updateSeq_pair o4 fun g5 o5 t5 => ?_)
 replace o5 : IsPair g5 TO x y := o5
 refine wpAny_bind (wpAny_letGo (wpAny_pure (wpAny_pure ?_))); refine wpAny_bind (wpAny_seqItems o5 rfl ?_); refine wpAny_bind (wpAny_newTuple ?_)
 have sz : g5.objs.size = s.heap.objs.size := by rw [t5.1, t4.1, t3.1, t2.1, t1.1]
 have z5 : IsZip g5 Z TI TO .ellipsis := t5.extBut _ _ D.TOz.symm (t4.extBut _ _ D.i2z.symm (t3.extBut _ _ D.TOz.symm (t2.extBut _ _ D.i1z.symm z1)))
 have k5 : ∀ c o, c ≠ Z → c ≠ TO → c ≠ i → c ≠ j → s.heap.get? c = some o → g5.get? c = some o := fun c o c1 c2 c3 c4 q => t5.extBut _ _ c2 (t4.extBut _ _ c4 (t3.extBut _ _ c2 (t2.extBut _ _ c3 (t1.extBut _ _ c1 q))))
 have i5 : g5.IsTupleIter i u (k + 1) := ((i2.extBut t3.extBut D.TOi1.symm).extBut t4.extBut D.i12).extBut t5.extBut D.TOi1.symm
 have j5 : g5.IsTupleIter j v (l + 1) := j4.extBut t5.extBut D.TOi2.symm
 have lz : Z < g5.objs.size := Heap.lt_size z5
 show wpAny _ _ (Builtin.SmallTypes.ownedTupleHandOut (.ref Z) (.ref g5.objs.size) >>= _) _ _ _
 refine wpAny_bind ?_; unfold Builtin.SmallTypes.ownedTupleHandOut
 have z6 : IsZip (g5.push { cls := .type "tuple", data := .seq #[x, y] }) Z TI TO .ellipsis := Heap.get?_push_of_some _ z5
 refine wpAny_bind (wpAny_setField_rec z6 (by simp) fun g7 z7 t7 => ?_)
 replace z7 : IsZip g7 Z TI TO (rawInt g5.objs.size) := z7
 refine wpAny_setField_rec z7 (by simp) fun g8 z8 t8 => ?_
 replace z8 : IsZip g8 Z TI TO (rawInt g5.objs.size) := z8
 have up : ∀ c o, c ≠ Z → g5.get? c = some o → g8.get? c = some o := fun c o c1 q => t8.extBut _ _ c1 (t7.extBut _ _ c1 (Heap.get?_push_of_some _ q))
 have n8 : IsPair g8 g5.objs.size x y := t8.extBut _ _ (Nat.ne_of_gt lz) (t7.extBut _ _ (Nat.ne_of_gt lz) (Heap.get?_push_size _ rfl))
 have s8 : g8.objs.size = g5.objs.size + 1 := by rw [t8.1, t7.1, Heap.size_push]
 rw [sz] at z8 n8 s8
 refine wpAny_pure ⟨_, rfl, wpAny_pure ?_⟩
 rw [sz]
 obtain ⟨oi, qi⟩ := i5
 obtain ⟨oj, qj⟩ := j5
 exact hQ g8 z8 (up _ _ D.TOz o5) ⟨oi, up _ _ D.i1z qi.1, qi.2⟩ ⟨oj, up _ _ D.i2z qj.1, qj.2⟩ n8 s8 fun c o c1 c2 c3 c4 q => up c o c1 (k5 c o c1 c2 c3 c4 q)
theorem zipT_end {Z TI TO i j u v : Addr} {k : Nat} {xs : Array Value} {Q : Option Value → Shared → Prop} (hd0 : A.handled = none) (D : ZipApart Z TI TO i j u v)
    (eZ : IsZip s.heap Z TI TO .none) (eI : IsPair s.heap TI (.ref i) (.ref j)) (ei : s.heap.IsTupleIter i u k) (eu : s.heap.IsTuple u xs) (hx : xs[k]? = none)
    (hQ : ∀ g, (∀ c o, c ≠ Z → c ≠ TO → c ≠ i → c ≠ j → s.heap.get? c = some o → g.get? c = some o) → Q none { s with heap := g }) : wpAny (model prog w) A (pyNext (.ref Z)) Q E s := by
  have hT : s.TypeIs (.ref Z) "zip" := ⟨_, eZ, rfl⟩
  have body : ∀ (E' : Value → Shared → Prop) (Q' : Fin → Shared → Prop), (∀ g e, (∀ c o, c ≠ Z → c ≠ TO → c ≠ i → c ≠ j → s.heap.get? c = some o → g.get? c = some o) → (∃ o, g.get? e = some o ∧ o.cls = .type "StopIteration") → E' (.ref e) { s with heap := g }) →
      wpAny (model prog w) A.in1 (Builtin.«zip.__next__» ⟨[.ref Z], []⟩) Q' E' s := fun E' Q' hE => by
    show wpAny _ _ (field (.ref Z) 2 >>= _) _ _ _
    refine wpAny_bind (wpAny_field eZ rfl (x := .bool false) rfl ?_)
    show wpAny _ _ (field (.ref Z) 3 >>= _) _ _ _
    refine wpAny_bind (wpAny_field eZ rfl (x := .ref TI) rfl ?_); refine wpAny_bind (wpAny_seqItems eI rfl ?_)
    show wpAny _ _ (Builtin.SmallTypes.ownedTupleIsFree (.ref Z) >>= _) _ _ _
    refine wpAny_bind ?_; unfold Builtin.SmallTypes.ownedTupleIsFree
    refine wpAny_bind (wpAny_field eZ rfl (x := .none) rfl (wpAny_pure ?_)); simp only [if_true]
    refine wpAny_bind (wpAny_rule ?_); refine wpAny_bind (wpAny_field eZ rfl (x := .ref TO) rfl ?_)
    refine wpAny_bind (wpAny_setField_rec eZ (by simp) fun g1 z1 t1 => ?_)
    replace z1 : IsZip g1 Z TI TO .ellipsis := z1
    refine wpAny_bind ?_; simp only [List.zipIdx_cons, List.zipIdx_nil, List.forIn_cons, List.forIn_nil]; refine wpAny_bind (wpAny_bind (wpAny_onRaise ?_))
    show wpAny _ _ (Builtin.SmallTypes.nextOf (.ref i) >>= _) _ _ _
    refine wpAny_bind (tupStop hd0 (ei.extBut t1.extBut D.i1z) (eu.extBut t1.extBut D.l1z) hx fun g2 e t2 he => ?_)
    obtain ⟨oe, q1, q2⟩ := he
    have z2 : IsZip g2 Z TI TO .ellipsis := t2 _ _ D.i1z.symm z1
    have ne : e ≠ Z := fun q => by subst q; rw [z2] at q1; cases q1; simp at q2
    refine wpAny_setField_rec z2 (by simp) fun g3 _ t3 => hE g3 e (fun c o c1 _ c3 _ q => t3.extBut _ _ c1 (t2 _ _ c3 (t1.extBut _ _ c1 q))) ⟨oe, t3.extBut _ _ ne q1, q2⟩
  unfold pyNext
  refine wpAny_bind (wpAny_attempt (wpAny_callSpecial?_slot (name := Str.ofString "__next__") hT F.slot_zip_next (wpAny_call_entry F.slot_zip_next hT F.entry_zip_next (body _ _ fun g e hk he => ?_) (F.args_zip_next_1 _))))
  obtain ⟨o, q1, q2⟩ := he
  exact wpAny_bind (wpAny_isInstance (T := "StopIteration") (b := true) ⟨o, q1, q2⟩ isSubtype_stop (wpAny_pure (hQ _ hk)))
end
end L2
set_option Elab.async false
set_option maxRecDepth 100000
namespace L2
open PySem PySem.Spec PyProof.Rows
theorem istup {h : Heap} {a : Addr} {its : Array Value} (p : IsTup h a its) : h.IsTuple a its := p
def Itzt (K : PySem.W.Frag) (a b : Addr) : It :=
  ⟨fun i H => ∃ xs ys x y, SqT K H a xs ∧ SqT K H b ys ∧ xs[i]? = some x ∧ ys[i]? = some y,
   fun i H v H' => ∃ T, v = .ref T ∧ H T = none ∧ ∀ xs ys, SqT K H a xs → SqT K H b ys → ∃ x y, xs[i]? = some x ∧ ys[i]? = some y ∧ H' = upd H T (.tup [x, y]),
   fun i H => ∃ xs ys, SqT K H a xs ∧ SqT K H b ys ∧ xs.length ≤ i⟩
theorem turn_zipT {P : Program} {w : World} {K : PySem.W.Frag} {elts : List Expr} {kt : Nat} {pt : Pos} {a b n : Addr} (ha : a < n) (hb : b < n) :
    Turn P w K (.Tuple elts kt pt) (Itzt K a b) [n + 4, n + 2, n + 3, n, n + 1] (n + 4) (fun i h => IsZip h (n + 4) (n + 2) (n + 3) .none ∧ IsPair h (n + 2) (.ref n) (.ref (n + 1)) ∧ (∃ x y, IsPair h (n + 3) x y) ∧ h.IsTupleIter n a i ∧ h.IsTupleIter (n + 1) b i) where
  mem := by simp
  obj := fun i h st c hc => by
    obtain ⟨z1, z2, ⟨x, y, z3⟩, ⟨o4, e4, c4, d4⟩, ⟨o5, e5, c5, d5⟩⟩ := st
    simp only [List.mem_cons, List.not_mem_nil, or_false] at hc
    rcases hc with rfl | rfl | rfl | rfl | rfl
    · exact ⟨_, z1, fun v z => by cases z⟩
    · exact ⟨_, z2, fun v z => by cases z⟩
    · exact ⟨_, z3, fun v z => by cases z⟩
    · exact ⟨_, e4, fun v z => by rw [d4] at z; cases z⟩
    · exact ⟨_, e5, fun v z => by rw [d5] at z; cases z⟩
  keep := fun i h h' st k => by
    obtain ⟨z1, z2, ⟨x, y, z3⟩, z4, z5⟩ := st
    exact ⟨k _ (by simp) _ z1, k _ (by simp) _ z2, ⟨x, y, k _ (by simp) _ z3⟩, z4.at fun o e => k _ (by simp) o e, z5.at fun o e => k _ (by simp) o e⟩
  item := by
    intro X hP hw hK hc i pins s σ H E I hf st hg
    subst hP hw hK
    obtain ⟨xs, ys, x, y, hqa, hqb, hx, hy⟩ := hg
    obtain ⟨its, rv, p, hz⟩ := I.tuple hqa
    obtain ⟨jts, rw', p', hz'⟩ := I.tuple hqb
    obtain ⟨u, hu, ru⟩ := rv.get hx
    obtain ⟨u', hu', ru'⟩ := rw'.get hy
    obtain ⟨z1, z2, ⟨x0, y0, z3⟩, z4, z5⟩ := st
    have D : ZipApart (n + 4) (n + 2) (n + 3) n (n + 1) a b := PyProof.Rows.zipApart_new ha hb
    have ltz : n + 4 < s.heap.objs.size := Heap.lt_size z1
    refine zipT_item D z1 z2 z3 z4 z5 (istup p) (istup p') (x := u) (y := u') (by simpa using hu) (by simpa using hu') fun h' a1 a2 a3 a4 a5 a6 hk => ?_
    refine ⟨_, rfl, wpAny_letOwnedTupleGo_zip (s := { s with heap := h' }) a1 fun h2 b1 hs => ?_⟩
    have neT : ∀ {c : Addr}, c ≤ n + 4 → c ≠ s.heap.objs.size := fun h => Nat.ne_of_lt (Nat.lt_of_le_of_lt h ltz)
    have kk : ∀ c o, c ∉ [n + 4, n + 3, n, n + 1] → s.heap.get? c = some o → h2.get? c = some o := fun c o hc e => by
      simp only [List.mem_cons, List.not_mem_nil, or_false, not_or] at hc
      exact (hs.2 c hc.1).trans (hk c o hc.1 hc.2.1 hc.2.2.1 hc.2.2.2 e)
    have q2 : h2.get? (n + 2) = _ := kk _ _ (by simp only [List.mem_cons, List.not_mem_nil, or_false, not_or]; exact ⟨D.TIz, D.TITO, D.TIi1, D.TIi2⟩) z2
    have q3 : h2.get? (n + 3) = _ := (hs.2 _ D.TOz).trans a2
    obtain ⟨o4, e4, c4⟩ := a3
    obtain ⟨o5, e5, c5⟩ := a4
    have q4 : h2.get? n = _ := (hs.2 _ D.i1z).trans e4
    have q5 : h2.get? (n + 1) = _ := (hs.2 _ D.i2z).trans e5
    have qT : h2.get? s.heap.objs.size = _ := (hs.2 _ (Ne.symm (neT (Nat.le_refl _)))).trans a5
    have sub : ∀ c ∈ [n + 4, n + 3, n, n + 1], c ∈ [n + 4, n + 2, n + 3, n, n + 1] := fun c hc => by
      simp only [List.mem_cons, List.not_mem_nil, or_false] at hc ⊢
      rcases hc with e | e | e | e
      · exact .inl e
      · exact .inr (.inr (.inl e))
      · exact .inr (.inr (.inr (.inl e)))
      · exact .inr (.inr (.inr (.inr e)))
    have I1 : Inv X pins σ (upd H s.heap.objs.size (.tup [x, y])) { s with heap := h2, toks := s.toks } := I.turnedL (ch := [n + 4, n + 3, n, n + 1]) kk (fun c hc => hf c (sub c hc)) (fun c hc => by
        simp only [List.mem_cons, List.not_mem_nil, or_false] at hc
        rcases hc with rfl | rfl | rfl | rfl
        · exact ⟨_, b1⟩
        · exact ⟨_, q3⟩
        · exact ⟨_, q4⟩
        · exact ⟨_, q5⟩) (Nat.le_refl _) ⟨by show 2 ≤ sizeLine; decide, [u, u'], .cons ru (.cons ru' .nil), _, qT, rfl, _, rfl⟩
    refine ⟨.ref s.heap.objs.size, _, I1, rfl, ⟨_, rfl, I.hok.fresh (Nat.le_refl _), fun vs ws hv hw => ?_⟩, ⟨b1, q2, ⟨_, _, q3⟩, ⟨_, q4, c4⟩, ⟨_, q5, c5⟩⟩, fun c hc => ?_⟩
    · rw [I.tuple_inj hv hqa, I.tuple_inj hw hqb]
      exact ⟨x, y, hx, hy, rfl⟩
    · have hle : c ≤ n + 4 := by
        simp only [List.mem_cons, List.not_mem_nil, or_false] at hc
        rcases hc with rfl | rfl | rfl | rfl | rfl
        · exact Nat.le_refl _
        · exact Nat.le_add_right (n + 2) 2
        · exact Nat.le_add_right (n + 3) 1
        · exact Nat.le_add_right _ 4
        · exact Nat.le_add_right (n + 1) 3
      rw [upd_ne (neT hle)]
      exact (hf c hc).1
  done := by
    intro X hP hw hK hc i pins s σ H E I hf st hg
    subst hP hw hK
    obtain ⟨xs, ys, hqa, hqb, hl⟩ := hg
    obtain ⟨its, rv, p, hz⟩ := I.tuple hqa
    obtain ⟨jts, rw', p', hz'⟩ := I.tuple hqb
    obtain ⟨z1, z2, ⟨x0, y0, z3⟩, z4, z5⟩ := st
    have D : ZipApart (n + 4) (n + 2) (n + 3) n (n + 1) a b := PyProof.Rows.zipApart_new ha hb
    have l1 := rv.length
    have l2 := rw'.length
    refine zipT_end (I.ok.hd hc) D z1 z2 z4 (istup p) ?_ fun h' hk => ⟨rfl, ?_⟩
    · simp; omega
    · have fp : ∀ c ∈ [n + 4, n + 3, n, n + 1], FpOk X pins H c := fun c hc => hf c (by
        simp only [List.mem_cons, List.not_mem_nil, or_false] at hc ⊢
        rcases hc with e | e | e | e
        · exact .inl e
        · exact .inr (.inr (.inl e))
        · exact .inr (.inr (.inr (.inl e)))
        · exact .inr (.inr (.inr (.inr e))))
      have kk : ∀ c o, c ∉ [n + 4, n + 3, n, n + 1] → s.heap.get? c = some o → h'.get? c = some o := fun c o hc e => by
        simp only [List.mem_cons, List.not_mem_nil, or_false, not_or] at hc
        exact hk c o hc.1 hc.2.1 hc.2.2.1 hc.2.2.2 e
      have nit : ∀ c u, H c = some u → c ∉ [n + 4, n + 3, n, n + 1] := fun c u e z => by rw [(fp c z).1] at e; cases e
      refine I.step (g' := s.gens) (d' := s.drawn) (t' := s.toks) (ch := [n + 4, n + 3, n, n + 1]) (fun c hc => ⟨(fp c hc).2.2.2.1, (fp c hc).2.1, (fp c hc).2.2.2.2.1, (fp c hc).2.2.2.2.2⟩) (fun c o _ _ hc e _ => kk c o hc e) (fun c o _ _ hc e _ => ⟨o.slots, kk c o hc e⟩) (fun _ _ _ _ n => n)
        (fun c o hc e => ⟨o, kk c o hc e⟩) (fun _ _ e => e) (fun _ _ _ e => e) (fun _ ps e => ⟨#[], by rw [e]; simp⟩) (fun m hm => ?_) (fun c u e => ?_) I.bare
      · obtain ⟨ob, es, ep, ho, r⟩ := hm
        exact ⟨ob, es, ep, kk _ ob (fun z => (fp _ z).2.1 rfl) ho, r⟩
      · refine (I.hok c u e).stay (fun d v hd q => kk d v ?_ q) (fun _ e' => e') fun _ _ e' => e'
        rcases hd with z | z
        · rw [z]; exact nit c u e
        · exact nit d _ z
  self := fun _ _ _ _ _ st h => wpAny_pyIter_zip st.1 h
section
variable {prog : Program} {w : World} {A : Around} {E : Value → Shared → Prop} {s : Shared}
abbrev zT1 (h : Heap) (u : Addr) : Heap := h.push { cls := .type "tuple_iterator", data := .fields #[.ref u, .int 0 0] }
abbrev zT2 (h : Heap) (u v : Addr) : Heap := (zT1 h u).push { cls := .type "tuple_iterator", data := .fields #[.ref v, .int 0 0] }
abbrev zT3 (h : Heap) (u v : Addr) : Heap := (zT2 h u v).push { cls := .type "tuple", data := .seq #[.ref h.objs.size, .ref (zT1 h u).objs.size] }
abbrev zT4 (h : Heap) (u v : Addr) : Heap := (zT3 h u v).push { cls := .type "tuple", data := .seq #[.none, .none] }
abbrev zT5 (h : Heap) (u v : Addr) : Heap := (zT4 h u v).push { cls := .type "zip", data := .fields #[.none, .bool false, .bool false, .ref (zT2 h u v).objs.size, .ref (zT3 h u v).objs.size] }
theorem zipT_new (u v : Addr) (xs ys : Array Value) : Meets (Builtin.«zip.__new__» ⟨[.type "zip", .ref u, .ref v], []⟩) (fun _ R s => s.heap.IsTuple u xs ∧ s.heap.IsTuple v ys ∧ R (.ok (.ret (.ref (zT4 s.heap u v).objs.size))) { s with heap := zT5 s.heap u v }) :=
 .of_wp fun prog w A R s h => by
  obtain ⟨hp, g, d, tk, os⟩ := s; obtain ⟨t1, t2, q⟩ := h
  have sz := sub_zip
  have L1 : Heap.IsTuple (Shared.heap ⟨hp, g, d, tk, os⟩) u xs := t1
  have L2 : Heap.IsTuple (Shared.heap ⟨hp.push { cls := .type "tuple_iterator", data := .fields #[.ref u, .int 0 0] }, g, d, tk, os⟩) v ys := Heap.IsTuple.push t2 _
  wp_walk using wpAny_pyIter_tuple L1, wpAny_pyIter_tuple L2
  exact ⟨_, rfl, q⟩
theorem zipT_call {u v : Addr} {xs ys : Array Value} {Q : Value → Shared → Prop} (t1 : s.heap.IsTuple u xs) (t2 : s.heap.IsTuple v ys)
  (q : ∀ g, IsZip g (s.heap.objs.size + 4) (s.heap.objs.size + 2) (s.heap.objs.size + 3) .none → IsPair g (s.heap.objs.size + 2) (.ref s.heap.objs.size) (.ref (s.heap.objs.size + 1)) → IsPair g (s.heap.objs.size + 3) .none .none →
   g.IsTupleIter s.heap.objs.size u 0 → g.IsTupleIter (s.heap.objs.size + 1) v 0 → (∀ c o, s.heap.get? c = some o → g.get? c = some o) → Q (.ref (s.heap.objs.size + 4)) { s with heap := g }) :
  wpAny (model prog w) A (call (.type "zip") [.ref u, .ref v]) Q E s := by
 refine callType_new F.called_zip (by decide) (F.typeCall_zip_2 _ _) (F.newCall_zip_2 _ _) (fun obj => F.args_object_init_3 obj _ _) F.entry_zip_new (zipT_new u v xs ys) ⟨t1, t2, ?_⟩
 have y1 : (zT1 s.heap u).objs.size = s.heap.objs.size + 1 := Heap.size_push ..
 have y2 : (zT2 s.heap u v).objs.size = s.heap.objs.size + 2 := by rw [Heap.size_push, y1]
 have y3 : (zT3 s.heap u v).objs.size = s.heap.objs.size + 3 := by rw [Heap.size_push, y2]
 have y4 : (zT4 s.heap u v).objs.size = s.heap.objs.size + 4 := by rw [Heap.size_push, y3]
 have k5 : (zT5 s.heap u v).get? (zT4 s.heap u v).objs.size = some _ := Heap.get?_push_size _ rfl
 have k4 : (zT5 s.heap u v).get? (zT3 s.heap u v).objs.size = some _ := Heap.get?_push_of_some _ (Heap.get?_push_size _ rfl)
 have k3 : (zT5 s.heap u v).get? (zT2 s.heap u v).objs.size = some _ := Heap.get?_push_of_some _ (Heap.get?_push_of_some _ (Heap.get?_push_size _ rfl))
 have k2 : (zT5 s.heap u v).get? (zT1 s.heap u).objs.size = some _ := Heap.get?_push_of_some _ (Heap.get?_push_of_some _ (Heap.get?_push_of_some _ (Heap.get?_push_size _ rfl)))
 have k1 : (zT5 s.heap u v).get? s.heap.objs.size = some _ := Heap.get?_push_of_some _ (Heap.get?_push_of_some _ (Heap.get?_push_of_some _ (Heap.get?_push_of_some _ (Heap.get?_push_size _ rfl))))
 show _ ∧ _
 rw [y2, y3, y4] at k5
 rw [y1, y2] at k3
 rw [y3] at k4
 rw [y1] at k2
 refine ⟨by rw [y4]; exact ⟨_, k5, rfl⟩, ?_⟩
 rw [y4]
 exact q _ k5 k3 k4 ⟨_, k1, rfl, rfl⟩ ⟨_, k2, rfl, rfl⟩ fun c o z => Heap.get?_push_of_some _ (Heap.get?_push_of_some _ (Heap.get?_push_of_some _ (Heap.get?_push_of_some _ (Heap.get?_push_of_some _ z))))
end
section
variable {X : Cx} {elts : List Expr} {kt : Nat} {pt : Pos}
def iZipS (K : PySem.W.Frag) (ta : TA) : TI := fun σ H R => ta σ H fun vs H1 => ∃ a b, vs = [.ref a, .ref b] ∧ (((∃ xs, SqL K H1 a xs) ∧ (∃ ys, SqL K H1 b ys) ∧ R (Itz K a b) H1) ∨ ((∃ xs, SqT K H1 a xs) ∧ (∃ ys, SqT K H1 b ys) ∧ R (Itzt K a b) H1))
theorem pi_zipS {a b : Expr} {ta : TA} {p pos : Pos} (hg : Gl X "zip") (hm : X.mg "zip" = none) (ha : PA X [a, b] ta) (hs : starEach [a, b] X.env = [(false, eval a X.env), (false, eval b X.env)] := by rfl) (hs2 : starEach [b] X.env = [(false, eval b X.env)] := by rfl) :
  PI X (.Tuple elts kt pt) (.Call (.Name "zip" p) [a, b] [] pos) (iZipS X.K ta) := by
 intro pins s σ H R I h
 refine Call_ (ld_blt I hg hm (by rfl : bootBuiltins "zip" = some (.type "zip")) (PyProof.Rows.callWith_type1 (thn (ha pos pins s σ H _ I h) fun us s1 ⟨vs, H1, I1, r1, q1⟩ => ?_) (by rw [hs, hs2]) (by rw [hs2]; rfl)))
 obtain ⟨a, b, e, q⟩ := q1
 subst e
 obtain ⟨u, v, rfl, ru, rv⟩ := r1.two
 cases (show u = Value.ref a from ru)
 cases (show v = Value.ref b from rv)
 rcases q with ⟨⟨xs, ha⟩, ⟨ys, hb⟩, q⟩ | ⟨⟨xs, ha⟩, ⟨ys, hb⟩, q⟩
 ·obtain ⟨its, _, p1, _⟩ := I1.list ha
  obtain ⟨jts, _, p2, _⟩ := I1.list hb
  have l1 : a < s1.heap.objs.size := let ⟨o, ho, _⟩ := p1.isList; Heap.lt_size ho
  have l2 : b < s1.heap.objs.size := let ⟨o, ho, _⟩ := p2.isList; Heap.lt_size ho
  refine call_zip_2 p1.isList p2.isList fun h' hz hTI hTO h1 h2 hsz hk => wpAny_pyIter_zip (s := { s1 with heap := h' }) hz ?_
  refine ⟨s1.heap.objs.size + 4, _, _, _, H1, rfl, I1.kept (t' := s1.toks) hk, turn_zip l1 l2, ⟨hz, hTI, ⟨_, _, hTO⟩, h1, h2⟩, fun c hc => ?_, q⟩
  have hle : s1.heap.objs.size ≤ c := by
   simp only [List.mem_cons, List.not_mem_nil, or_false] at hc
   rcases hc with rfl | rfl | rfl | rfl | rfl
   ·exact Nat.le_add_right _ _
   ·exact Nat.le_add_right _ _
   ·exact Nat.le_add_right _ _
   ·exact Nat.le_refl _
   ·exact Nat.le_add_right _ _
  exact I1.fpOk hle (I1.hok.fresh hle)
 ·obtain ⟨its, _, p1, _⟩ := I1.tuple ha
  obtain ⟨jts, _, p2, _⟩ := I1.tuple hb
  have l1 : a < s1.heap.objs.size := let ⟨o, ho, _⟩ := istup p1; Heap.lt_size ho
  have l2 : b < s1.heap.objs.size := let ⟨o, ho, _⟩ := istup p2; Heap.lt_size ho
  refine zipT_call (istup p1) (istup p2) fun h' hz hTI hTO h1 h2 hk => wpAny_pyIter_zip (s := { s1 with heap := h' }) hz ?_
  refine ⟨s1.heap.objs.size + 4, _, _, _, H1, rfl, I1.kept (t' := s1.toks) hk, turn_zipT l1 l2, ⟨hz, hTI, ⟨_, _, hTO⟩, h1, h2⟩, fun c hc => ?_, q⟩
  have hle : s1.heap.objs.size ≤ c := by
   simp only [List.mem_cons, List.not_mem_nil, or_false] at hc
   rcases hc with rfl | rfl | rfl | rfl | rfl
   ·exact Nat.le_add_right _ _
   ·exact Nat.le_add_right _ _
   ·exact Nat.le_add_right _ _
   ·exact Nat.le_refl _
   ·exact Nat.le_add_right _ _
  exact I1.fpOk hle (I1.hok.fresh hle)
end
theorem rd_izipS {K : PySem.W.Frag} {σ : St} {H : Hp} {ta : TA} {R : It → Hp → Prop} (h : ta σ H fun vs H1 => ∃ a b, vs = [.ref a, .ref b] ∧ (((∃ xs, SqL K H1 a xs) ∧ (∃ ys, SqL K H1 b ys) ∧ R (Itz K a b) H1) ∨ ((∃ xs, SqT K H1 a xs) ∧ (∃ ys, SqT K H1 b ys) ∧ R (Itzt K a b) H1))) : iZipS K ta σ H R := h
theorem compW_zipT {K : PySem.W.Frag} {σ : St} {H : Hp} {Q : VK} {te : TE} {l a b : Addr} {xs ys : List V} (F : Nat → V) (hx : H a = some (.tup xs)) (hy : H b = some (.tup ys)) (he : xs.length = ys.length) (hz : xs.length ≤ 1000) (hl : H l = none)
  (step : ∀ (i : Nat) x y H' (Q' : VK), xs[i]? = some x → ys[i]? = some y → Same H H' → (∀ H5, Same H' H5 → Q' (F i) H5) → te [some x, some y] H' Q')
  (fin : ∀ H', Same H H' → H' l = some (.lst ((List.range xs.length).map F)) → Q (.ref l) H') : CompW (Itzt K a b) (gTup K 2 (gCons (gName 0) (gCons (gName 1) gNil))) tTrue te [none, none] l σ H Q := by
 refine ⟨xs.length, fun i zs σ' H' => zs = (List.range i).map F ∧ (∃ o o', σ' = [o, o']) ∧ Same H H' ∧ H' l = some (.lst zs), ⟨rfl, ⟨none, none, rfl⟩, Same.new hl, upd_same⟩, ?_, ?_⟩
 ·rintro i zs σ' H' hi ⟨rfl, ⟨o, o', rfl⟩, s, e⟩
  refine ⟨⟨xs, ys, xs[i], ys[i]'(by omega), SqT.of (s _ _ hx), SqT.of (s _ _ hy), by simp [hi], by simp⟩, fun v H2 z => ?_⟩
  obtain ⟨T, rfl, hT, z⟩ := z
  obtain ⟨x, y, ex, ey, rfl⟩ := z xs ys (SqT.of (s _ _ hx)) (SqT.of (s _ _ hy))
  have sT := Same.new (o := HO.tup [x, y]) hT
  refine rd_gtup upd_same rfl (rd_gcons (rd_name (rd_gcons (rd_name (rd_gnil (rd_true (iteT ?_)))))))
  refine step i x y _ _ ex ey (s.trans sT) fun H5 s5 => ⟨s5 _ _ (sT _ _ e), ?_, ?_⟩
  ·rw [List.length_map, List.length_range]
   exact small1000 (by omega)
  ·refine ⟨?_, ⟨_, _, rfl⟩, ((s.trans sT).trans s5).later hl, upd_same⟩
   rw [List.range_succ, List.map_append]
   rfl
 ·rintro zs σ' H' ⟨rfl, _, s, e⟩
  exact ⟨⟨xs, ys, SqT.of (s _ _ hx), SqT.of (s _ _ hy), Nat.le_refl _⟩, fin H' s e⟩
theorem cutV_takeG {xs : List V} {k : Nat} : cutV xs none (some (k : Int)) = xs.take k := by
 unfold cutV
 rw [HT.sIx_none, HT.sIx_nat, List.drop_zero, Nat.sub_zero]
 rcases Nat.le_total k xs.length with h | h
 ·rw [Nat.min_eq_left h]
 ·rw [Nat.min_eq_right h, List.take_of_length_le (Nat.le_refl _), List.take_of_length_le h]
theorem cutV_dropG {xs : List V} {k : Nat} : cutV xs (some (k : Int)) none = xs.drop k := by
 unfold cutV
 rw [HT.sIx_none, HT.sIx_nat]
 rcases Nat.le_total k xs.length with h | h
 ·rw [Nat.min_eq_left h, List.take_of_length_le (by rw [List.length_drop]; omega)]
 ·rw [Nat.min_eq_right h, List.drop_eq_nil_of_le h, Nat.sub_self, List.take_zero]
end L2
set_option Elab.async false
set_option maxRecDepth 100000
namespace L2
open PySem PySem.Spec PyProof.Rows
end L2
set_option Elab.async false
set_option linter.all false
set_option maxRecDepth 100000
namespace L2
open PySem PySem.Spec PyProof.Rows
section
variable {K : PySem.W.Frag} {σ : St} {H : Hp} {Q : VK} {te : TE} {cap : List (Option Nat)} {l : Addr}
end
end L2
set_option Elab.async false
set_option linter.all false
set_option maxRecDepth 100000
namespace L2
open PySem PySem.Spec PyProof.Rows
section
variable {X : Cx} {elts : List Expr} {kt : Nat} {pt : Pos}
end
end L2
set_option Elab.async false
set_option maxHeartbeats 4000000
set_option linter.all false
open PySem PySem.Spec PyProof.Rows
namespace L2
structure ClsFn (K : PySem.W.Frag) (C : Addr) (m : Str) (f : Addr) : Prop where
 ga : PySem.W.specialIn K (.ref C) "__getattribute__" = some (some (.builtin "type.__getattribute__"))
 rd : PySem.W.readsIn K C (.type "type") = true
 at_ : PySem.W.findCls K (.ref C) (.type "type") m = some (.val (.ref f))
 kp : PySem.W.keepIn K (.ref f) = true
section
variable {X : Cx} {CX : CXT} {k : Nat} {f C : Addr} {fd : FuncData} {ps : List Str} {sp : Sp} {dvs : List V} {ds : List Value} {E : XK} {x m : Str} {p pos apos : Pos} {e o : Expr} {es : List Expr} {ta : TE} {t : TA}
theorem pe_callC {pl : Sem Bool} (hg : Gl X x) (hm : X.mg x = some (.ref C)) (c : ClsFn X.K C m f) (F : FnOk X.prog X.w X.K X.mg X.base CX k f fd ps sp) (hr : Room k X.A) (hb : Binds X.K fd ps ds) (hd : Vals dvs ds) (hx : Passes CX X E) (ha : PA X (e :: es) t)
  (hdb : (x == ("__debug__" : Str)) = false := by decide)
  (hst : starEach (e :: es) X.env = (false, eval e X.env) :: starEach es X.env := by rfl) (hpl : (backTo pos (starEach es X.env)).any (·.1) = false := by rfl)
  (ht : eval (.Call (.Attribute (.Name x p) m apos) (e :: es) [] pos) X.env = (do
   let ov ← eval (.Name x p) X.env
   standAt apos.atName
   let (f, first) ← holding [ov] (getMethod ov m pl)
   callWith pos f first (backTo pos (starEach (e :: es) X.env)) (backToKw pos (keywordEach [] X.env))) := by rfl) :
  PE X (.Call (.Attribute (.Name x p) m apos) (e :: es) [] pos) (tCall sp dvs E t) := by
 intro pins s σ H Q I h
 refine PySem.W.methodCall_KW (pl := pl) (thn ((pe_glob (v := .ref C) hg hm rfl hdb) pins s σ H (fun x H1 => x = .ref C ∧ H1 = H) I ⟨rfl, rfl⟩) fun u s1 ⟨x, H1, I1, rx, ex, eh⟩ => ?_) ht
 subst ex; subst eh
 obtain rfl : u = Value.ref C := rx
 refine PySem.W.method_cls I1.kIn c.ga (PySem.W.cls_value I1.kIn c.rd c.at_ rfl ?_)
 have I2 := I1.tok (s1.toks + 1)
 refine PySem.W.callWith_K (first := []) (h₀ := X.base) I.ok.mod.kin c.kp (thn (ha pos pins _ σ H1 _ I2 h) fun us s2 ⟨vs, H2, I3, r, q2⟩ => ⟨I3.kIn, ?_⟩) hst hpl
 exact run_fn (us := us) (vs := vs) F hr hb hd hx I3 r q2
end
end L2
set_option Elab.async false
set_option linter.all false
namespace L2
open PySem PySem.Spec PyProof.Rows
theorem cutC {X : Cx} {s : Stmt} {ss : List Stmt} {r : TS} {C : TS → Prop} (d : PS X s r) (k : ∀ r', r' = r → ∃ ts, PSs X ss ts ∧ C (tSeq r' ts)) : ∃ ts, PSs X (s :: ss) ts ∧ C ts :=
 let ⟨_, h1, h2⟩ := k r rfl
 ⟨_, pss_cons d h1, h2⟩
theorem cutE {X : Cx} {s : Stmt} {r : TS} {C : TS → Prop} (d : PS X s r) (k : ∀ r', r' = r → C r') : ∃ ts, PSs X [s] ts ∧ C ts := ⟨_, pss_one d, k r rfl⟩
theorem rd_cut {r r' : TS} {D : Ends} {σ : St} {H : Hp} (e : r' = r) (h : r D σ H) : r' D σ H := e ▸ h
theorem rd_seqA {t u : TS} {D : Ends} {σ : St} {H : Hp} (k : ∀ u', u' = u → t { D with nx := u' D } σ H) : tSeq t u D σ H := k u rfl
theorem len1 {us : List Value} (h : us.length = 1) : ∃ a0, us = [a0] := match us, h with | [a0], _ => ⟨a0, rfl⟩
theorem len2 {us : List Value} (h : us.length = 2) : ∃ a0 a1, us = [a0, a1] := match us, h with | [a0, a1], _ => ⟨a0, a1, rfl⟩
theorem len4 {us : List Value} (h : us.length = 4) : ∃ a0 a1 a2 a3, us = [a0, a1, a2, a3] := match us, h with | [a0, a1, a2, a3], _ => ⟨a0, a1, a2, a3, rfl⟩
theorem len5 {us : List Value} (h : us.length = 5) : ∃ a0 a1 a2 a3 a4, us = [a0, a1, a2, a3, a4] := match us, h with | [a0, a1, a2, a3, a4], _ => ⟨a0, a1, a2, a3, a4, rfl⟩
end L2
set_option Elab.async false
set_option linter.all false
set_option maxRecDepth 100000
set_option maxHeartbeats 4000000
namespace L2
open PySem PySem.Spec PyProof.Rows
section
variable {κ : Type} [DecidableEq κ]
end
section
variable {P : Program} {w : World} {H : Hp} {h : Heap} {a : Addr}
end
section
variable {X : Cx} {pins : List (Addr × Obj)} {σ : St} {H : Hp} {s : Shared} {a : Addr} {y v : V} {u r : Value} {o : Option V} {A : Around} {E : Value → Shared → Prop}
end
section
variable {X : Cx} {pins : List (Addr × Obj)} {σ : St} {H : Hp} {s : Shared} {a : Addr} {kvs : List (Key × V)} {k : Key} {u : Value} {A : Around} {E : Value → Shared → Prop}
end
section
variable {X : Cx} {o i e value : Expr} {pos pos' tpos : Pos} {td ty tv : TE}
end
section
variable {X : Cx} {pos : Pos}
end
section
variable {X : Cx} {pins : List (Addr × Obj)} {σ : St} {H : Hp} {s : Shared} {a : Addr} {y d : V} {u r : Value} {o : Option V} {A : Around} {E : Value → Shared → Prop}
end
section
variable {X : Cx} {o e f : Expr} {apos cpos : Pos} {td ty tx : TE}
end
section
variable {X : Cx} {pins : List (Addr × Obj)} {σ : St} {H : Hp} {s : Shared} {a : Addr} {kvs : List (Key × V)} {A : Around} {E : Value → Shared → Prop}
end
section
variable {X : Cx} {pins : List (Addr × Obj)} {σ : St} {H : Hp} {s : Shared} {a : Addr} {y : V} {u : Value} {A : Around} {E : Value → Shared → Prop}
end
end L2
set_option Elab.async false
set_option linter.all false
set_option maxRecDepth 100000
set_option maxHeartbeats 4000000
namespace L2
open PySem PySem.Spec PyProof.Rows
section
variable {X : Cx} {tg : Expr}
end
end L2
set_option Elab.async false
set_option linter.all false
set_option maxRecDepth 100000
namespace L2
open PySem PySem.Spec PyProof.Rows
section
variable {X : Cx} {pins : List (Addr × Obj)} {σ : St} {H : Hp} {s : Shared} {fp : List Addr} {scope : Scope} {N : List Str} {cap : List (Option Nat)}
end
section
variable {X : Cx} {elt tg iter : Expr} {ifs : List Expr} {scope : Scope} {pos : Pos} {N : List Str} {cap : List (Option Nat)} {wi : TI} {g : TG} {tt : TT} {te : TE}
end
end L2
set_option Elab.async false
set_option linter.all false
set_option maxRecDepth 100000
set_option maxHeartbeats 4000000
namespace L2
open PySem PySem.Spec PyProof.Rows
section
variable {prog : Program} {w : World} {A : Around} {E : Value → Shared → Prop} {s : Shared} {R : Result → Shared → Prop} {I : Addr} {fp wr : List Addr} {G : Array GenState → Array GenState → Prop} {n : Nat} {P : Nat → Value → Prop} {St : Nat → Shared → Prop}
end
section
variable {X : Cx}
end
end L2
set_option linter.all false
set_option Elab.async false
set_option maxHeartbeats 4000000
namespace Ts
open PySem PyProof.Rows
def Le (lt : Keyed → Keyed → Bool) (x y : Keyed) : Prop := lt y x = false
section
variable {M : Model} {A : Around} {E : Value → Shared → Prop} {s : Shared}
end
end Ts
set_option linter.all false
set_option Elab.async false
set_option maxHeartbeats 4000000
namespace Ts
open PySem PyProof.Rows
section
variable {M : Model} {A : Around} {E : Value → Shared → Prop} {s : Shared}
end
end Ts
set_option linter.all false
set_option Elab.async false
set_option maxHeartbeats 4000000
namespace Ts
open PySem PyProof.Rows
section
variable {M : Model} {A : Around} {E : Value → Shared → Prop} {s : Shared}
end
end Ts
set_option linter.all false
set_option Elab.async false
set_option maxHeartbeats 4000000
namespace Ts
open PySem PyProof.Rows
section
variable {M : Model} {A : Around} {E : Value → Shared → Prop} {s : Shared}
end
end Ts
set_option linter.all false
set_option Elab.async false
set_option maxHeartbeats 4000000
namespace Ts
open PySem PyProof.Rows
def seg (xs : Array Keyed) (i n : Nat) : List Keyed := (xs.toList.drop i).take n
section
variable {M : Model} {A : Around} {E : Value → Shared → Prop} {s : Shared}
end
end Ts
set_option linter.all false
set_option Elab.async false
set_option maxHeartbeats 4000000
namespace Ts
open PySem PyProof.Rows
section
variable {M : Model} {A : Around} {E : Value → Shared → Prop} {s : Shared}
end
end Ts
set_option linter.all false
set_option Elab.async false
set_option maxHeartbeats 4000000
namespace Ts
open PySem PyProof.Rows
section
variable {M : Model} {A : Around} {E : Value → Shared → Prop} {s : Shared}
end
end Ts
set_option linter.all false
set_option Elab.async false
set_option maxHeartbeats 4000000
namespace Ts
open PySem PyProof.Rows
def Runs (lt : Keyed → Keyed → Bool) (xs : Array Keyed) : Nat → List (Nat × Nat) → Nat → Prop
 | i, [], hi => i = hi
 | i, (s, n) :: ps, hi => s = i ∧ 1 ≤ n ∧ (seg xs s n).Pairwise (Le lt) ∧ Runs lt xs (i + n) ps hi
def kys (p : Array (Nat × Nat × Nat)) : List (Nat × Nat) := p.toList.map fun q => (q.1, q.2.1)
section
variable {M : Model} {A : Around} {E : Value → Shared → Prop} {s : Shared}
structure Inv (κ : SortKind) (lt : Keyed → Keyed → Bool) (a0 : Array Keyed) (st : SortSt) (lo : Nat) : Prop where
 kind : kindOf st = κ
 failed : failedOf st = none
 perm : (arrOf st).Perm a0
 runs : Runs lt (arrOf st) 0 (kys (pendingOf st)) lo
end
end Ts
set_option linter.all false
set_option Elab.async false
set_option maxHeartbeats 4000000
set_option maxRecDepth 100000
namespace Ts
open PySem PyProof.Rows PySem.W
section
variable {prog : Program} {w : World} {A : Around} {E : Value → Shared → Prop} {s : Shared}
end
section
variable {prog : Program} {w : World} {s : Shared}
end
end Ts
set_option Elab.async false
set_option linter.all false
set_option maxRecDepth 100000
set_option maxHeartbeats 4000000
namespace L2
open PySem PySem.Spec PyProof.Rows
end L2
set_option linter.all false
set_option Elab.async false
set_option maxHeartbeats 4000000
namespace Sm
abbrev Pnt := Int × Int
def fin : Pnt → Pnt → List Pnt → Pnt × Pnt
 | a, b, [] => (a, b)
 | _, b, c :: l => fin b c l
section
variable {nb : Pnt → List Pnt}
end
end Sm
set_option linter.all false
set_option Elab.async false
set_option maxHeartbeats 4000000
namespace Sm
section
variable {nb : Pnt → List Pnt}
end
end Sm
set_option Elab.async false
set_option linter.all false
set_option maxRecDepth 100000
set_option maxHeartbeats 4000000
namespace Ts
open PySem PyProof.Rows PySem.W
section
variable {prog : Program} {w : World} {A : Around} {E : Value → Shared → Prop} {s : Shared}
end
end Ts
namespace L2
open PySem PySem.Spec PyProof.Rows
section
variable {K : PySem.W.Frag} {σ : St} {H : Hp} {Q : VK} {te : TE} {tt : TT} {cap : List (Option Nat)} {l : Addr}
end
end L2
set_option Elab.async false
set_option linter.all false
set_option maxRecDepth 100000
set_option maxHeartbeats 4000000
namespace L2
open PySem PySem.Spec PyProof.Rows PySem.W
section
variable {X : Cx} {pins : List (Addr × Obj)} {σ : St} {H H' : Hp} {s : Shared} {h' : Heap}
end
section
variable {X : Cx}
end
end L2
set_option Elab.async false
set_option linter.all false
set_option maxRecDepth 100000
set_option maxHeartbeats 4000000
namespace L2
open PySem PySem.Spec PyProof.Rows PySem.W
section
variable {prog : Program} {w : World} {A : Around} {E : Value → Shared → Prop} {s : Shared} {d it : Addr} {es : Array DictEntry} {ep i n : Nat}
end
end L2
set_option Elab.async false
set_option linter.all false
set_option maxRecDepth 100000
set_option maxHeartbeats 4000000
namespace L2
open PySem PySem.Spec PyProof.Rows PySem.W
end L2
set_option linter.all false
set_option Elab.async false
set_option maxHeartbeats 4000000
namespace Fm
abbrev Strip := List L2.Key
abbrev Tie := Strip × Strip × Int
inductive Con (F : List Tie) : Strip → Strip → Prop
 | refl (a : Strip) : Con F a a
 | fwd {a b c : Strip} {w : Int} : Con F a b → (b, c, w) ∈ F → Con F a c
 | bwd {a b c : Strip} {w : Int} : Con F a b → (c, b, w) ∈ F → Con F a c
section
variable {F : List Tie} {v : Strip → Int} {G : Strip → Strip × Int} {D : List Strip}
end
end Fm
set_option Elab.async false
set_option linter.all false
set_option maxRecDepth 100000
set_option maxHeartbeats 4000000
namespace L2
open PySem PySem.Spec PyProof.Rows PySem.W
end L2
set_option Elab.async false
set_option linter.all false
set_option maxRecDepth 100000
set_option maxHeartbeats 4000000
namespace L2
open PySem PySem.Spec PyProof.Rows
end L2
set_option Elab.async false
set_option linter.all false
set_option maxRecDepth 100000
set_option maxHeartbeats 4000000
namespace L2
open PySem PySem.Spec PyProof.Rows PySem.W
section
variable {X : Cx} {pins : List (Addr × Obj)} {σ : St} {H : Hp} {s : Shared} {d : Addr} {kvs : List (Key × V)} {vs : List (Key × Value)} {ep : Nat}
end
end L2
namespace L2
open PySem PySem.Spec PyProof.Rows PySem.W
end L2
namespace L2
open PySem PySem.Spec PyProof.Rows PySem.W
section
variable {K : PySem.W.Frag} {H : Hp} {Q : VK}
theorem rd_catS {a b : Addr} {xs zs : List V} (ha : H a = some (.lst xs)) (hb : H b = some (.lst zs)) (z : xs.length + zs.length ≤ sizeLine) (q : ∀ p H1, Same H H1 → H p = none → H1 p = some (.lst (xs ++ zs)) → Q (.ref p) H1) : rCat (.ref a) (.ref b) H Q := rd_cat ha hb z fun p n => q p _ (Same.new n) n upd_same
end
end L2
set_option Elab.async false
set_option linter.all false
set_option maxRecDepth 100000
set_option maxHeartbeats 4000000
namespace L2
open PySem PySem.Spec PyProof.Rows PySem.W
section
variable {K : PySem.W.Frag} {σ : St} {H : Hp} {Q : VK} {te : TE} {tt : TT} {cap : List (Option Nat)} {l : Addr}
end
end L2
namespace L2
open PySem PySem.Spec PyProof.Rows PySem.W
end L2
set_option Elab.async false
set_option linter.all false
set_option maxRecDepth 100000
set_option maxHeartbeats 4000000
namespace L2
open PySem PySem.Spec PyProof.Rows PySem.W
end L2
set_option Elab.async false
set_option linter.all false
set_option maxRecDepth 100000
set_option maxHeartbeats 4000000
namespace PySem
end PySem
set_option Elab.async false
set_option linter.all false
set_option maxRecDepth 100000
set_option maxHeartbeats 4000000
namespace PyProof.Rows
open PySem PySem.Spec
section
variable {prog : Program} {w : World} {A : Around} {R : Result → Shared → Prop} {I : Addr} {fp wr : List Addr} {G : Array GenState → Array GenState → Prop} {n : Nat} {P : Nat → Value → Prop} {St : Nat → Shared → Prop} {K : Type} [DecidableEq K] {knd : PySem.KeyKind prog w K}
end
end PyProof.Rows
set_option Elab.async false
set_option linter.all false
set_option maxRecDepth 100000
set_option maxHeartbeats 4000000
namespace PySem
open PySem.Spec PyProof.Rows
section
variable {prog : Program} {w : World} {K : Type} [DecidableEq K] {knd : KeyKind prog w K} {A : Around} {E : Value → Shared → Prop} {s : Shared}
end
end PySem
set_option Elab.async false
set_option linter.all false
set_option maxRecDepth 100000
set_option maxHeartbeats 4000000
namespace L2
open PySem PySem.Spec PyProof.Rows PySem.W
section
variable {X : Cx} {pins : List (Addr × Obj)} {σ : St} {H : Hp} {s : Shared}
end
end L2
set_option Elab.async false
set_option linter.all false
set_option maxRecDepth 100000
set_option maxHeartbeats 4000000
namespace L2
open PySem PySem.Spec PyProof.Rows
end L2
set_option Elab.async false
set_option linter.all false
set_option maxRecDepth 100000
namespace L2
open PySem PySem.Spec PyProof.Rows
section
variable {K : PySem.W.Frag} {x qual : Str} {st : Stmt} {f : Addr} {fd : FuncData}
theorem Fun.b1 {p0 : Str} (F : Fun K x qual st f fd) (h : ∀ (kV doc pm : Value) (an : Option Addr) (cdv ct a0 : Value), bindArgs (PySem.W.fnOf x qual (defArgs st) (defBody st) (defScope st) .none kV doc pm an cdv ct) ⟨[a0], []⟩ = pure [(p0, a0)]) : Binds K fd [p0] [] :=
 F.binds fun kV doc pm an cdv ct us hl => by obtain ⟨a0, rfl⟩ := len1 hl; exact h kV doc pm an cdv ct a0
theorem Fun.b2 {p0 p1 : Str} (F : Fun K x qual st f fd) (h : ∀ (kV doc pm : Value) (an : Option Addr) (cdv ct a0 a1 : Value), bindArgs (PySem.W.fnOf x qual (defArgs st) (defBody st) (defScope st) .none kV doc pm an cdv ct) ⟨[a0, a1], []⟩ = pure [(p0, a0), (p1, a1)]) : Binds K fd [p0, p1] [] :=
 F.binds fun kV doc pm an cdv ct us hl => by obtain ⟨a0, a1, rfl⟩ := len2 hl; exact h kV doc pm an cdv ct a0 a1
theorem Fun.b4 {p0 p1 p2 p3 : Str} (F : Fun K x qual st f fd) (h : ∀ (kV doc pm : Value) (an : Option Addr) (cdv ct a0 a1 a2 a3 : Value), bindArgs (PySem.W.fnOf x qual (defArgs st) (defBody st) (defScope st) .none kV doc pm an cdv ct) ⟨[a0, a1, a2, a3], []⟩ = pure [(p0, a0), (p1, a1), (p2, a2), (p3, a3)]) : Binds K fd [p0, p1, p2, p3] [] :=
 F.binds fun kV doc pm an cdv ct us hl => by obtain ⟨a0, a1, a2, a3, rfl⟩ := len4 hl; exact h kV doc pm an cdv ct a0 a1 a2 a3
theorem Fun.b5 {p0 p1 p2 p3 p4 : Str} (F : Fun K x qual st f fd) (h : ∀ (kV doc pm : Value) (an : Option Addr) (cdv ct a0 a1 a2 a3 a4 : Value), bindArgs (PySem.W.fnOf x qual (defArgs st) (defBody st) (defScope st) .none kV doc pm an cdv ct) ⟨[a0, a1, a2, a3, a4], []⟩ = pure [(p0, a0), (p1, a1), (p2, a2), (p3, a3), (p4, a4)]) : Binds K fd [p0, p1, p2, p3, p4] [] :=
 F.binds fun kV doc pm an cdv ct us hl => by obtain ⟨a0, a1, a2, a3, a4, rfl⟩ := len5 hl; exact h kV doc pm an cdv ct a0 a1 a2 a3 a4
theorem Fun.bl {p : Str} (F : Fun K x qual st f fd) (h : ∀ (kV doc pm : Value) (an : Option Addr) (cdv ct a : Value), bindArgs (PySem.W.fnOf x qual (defArgs st) (defBody st) (defScope st) .none kV doc pm an cdv ct) ⟨[a], []⟩ = pure [(p, a)]) (s : Shared) (v : Value) : BindsTo s fd ⟨[v], []⟩ [(p, v)] := by
 obtain ⟨_, _, kV, doc, pm, an, cdv, ct, _, rfl, _, _⟩ := F.ex
 exact .of_eq (h kV doc pm an cdv ct v)
end
theorem FnScope.by {N P : List Str} {sc : Scope} (h1 : sc.kind = .function := by rfl) (h2 : sc.isCoroutine = false := by rfl) (h3 : sc.isGenerator = false := by rfl) (h4 : N.Nodup := by decide +kernel) (h5 : N.take P.length = P := by rfl) (h6 : ∀ x ∈ P, sc.names.lookup x = some .local ∨ sc.names.lookup x = some .cell := by decide +kernel) (h7 : ∀ y ∈ sc.names, y.2 ≠ .free := by decide +kernel) : FnScope N P sc := ⟨h1, h2, h3, h4, h5, h6, h7⟩
end L2
set_option Elab.async false
set_option linter.all false
set_option maxRecDepth 100000
set_option maxHeartbeats 4000000
namespace L2
open PySem PySem.Spec PyProof.Rows PySem.W Builtin Builtin.ObjectAttr Builtin.Getset_descriptor
section
variable {prog : Program} {w : World} {A : Around} {E : Value → Shared → Prop} {K : PySem.W.Frag} {h : Heap} {g : Array GenState} {d : Drawn} {t : Nat} {os : OsState} {C fI : Addr} {line : List Value} {B nid iid : String} {rest : List Value}
end
section
variable {prog : Program} {w : World} {A : Around} {E : Value → Shared → Prop} {K : PySem.W.Frag} {s : Shared} {C x : Addr} {name : Str} {v : Value}
end
section
variable {prog : Program} {w : World} {A : Around} {E : Value → Shared → Prop} {K : PySem.W.Frag} {s : Shared} {C x : Addr} {name : Str} {v : Value} {tk : Tok} {o : Obj} {vs : Array Value}
end
section
variable {X : Cx} {pins : List (Addr × Obj)} {σ : St} {H : Hp} {s : Shared} {e C dx : Addr} {fs : List (Str × V)} {f : Str} {y : V} {u : Value} {A : Around} {E : Value → Shared → Prop} {Q : Unit → Shared → Prop}
end
section
variable {X : Cx} {pins : List (Addr × Obj)} {σ : St} {H : Hp} {s : Shared} {e C : Addr} {xo : Option Addr} {u : Value} {A : Around} {E : Value → Shared → Prop} {Q : Value → Shared → Prop}
end
section
variable {X : Cx} {S : Addr} {x : Str} {p pos apos : Pos} {e o : Expr} {es : List Expr} {t : TA}
end
section
variable {prog : Program} {w : World} {A : Around} {E : Value → Shared → Prop} {s : Shared} {K : PySem.W.Frag} {x C : Addr} {name : Str} {v : Value}
end
def del (H : Hp) (e : Addr) : Hp := fun b => if b = e then none else H b
theorem del_ne {H : Hp} {e b : Addr} (h : b ≠ e) : del H e b = H b := by unfold del; rw [if_neg h]
theorem del_same {H : Hp} {e : Addr} : del H e e = none := by unfold del; rw [if_pos rfl]
theorem Inv.untrack {X : Cx} {pins : List (Addr × Obj)} {σ : St} {H : Hp} {s : Shared} {e : Addr} {φ : Heap → Prop} (I : Inv X pins σ H s) (he : H e = some (.ext φ)) : Inv X pins σ (del H e) s := by
 have nt : ∀ b u, H b = some u → (∀ ψ, u ≠ .ext ψ) → del H e b = some u := fun b u z n => by
  rw [del_ne (fun q => by subst q; rw [he] at z; cases z; exact n φ rfl)]; exact z
 refine ⟨I.ok, I.os, I.bare, ⟨I.base.keep, I.base.slot, fun b o z n hx => ?_, I.base.there, fun b xs z => ?_, fun b o u z => ?_, fun b ps z => ?_⟩, I.loc, I.cell, ?_, fun x c z => ?_, fun p hp => ?_, fun b u z => ?_, I.len⟩
 ·by_cases q : b = e
  ·rw [q, del_same]
  ·rw [del_ne q]; exact I.base.free b o z n hx
 ·exact nt b _ (I.base.tups b xs z) (by intro ψ q; cases q)
 ·exact nt b _ (I.base.frzs b o u z) (by intro ψ q; cases q)
 ·obtain ⟨m, q⟩ := I.base.tbls b ps z
  exact ⟨m, nt b _ q (by intro ψ q; cases q)⟩
 ·by_cases q : X.env.locals = e
  ·rw [q, del_same]
  ·rw [del_ne q]; exact I.free
 ·by_cases q : c = e
  ·rw [q, del_same]
  ·rw [del_ne q]; exact I.freeC x c z
 ·obtain ⟨a, n, r⟩ := I.pin p hp
  refine ⟨a, ?_, r⟩
  by_cases q : p.1 = e
  ·rw [q, del_same]
  ·rw [del_ne q]; exact n
 ·have hb : b ≠ e := fun q => by rw [q, del_same] at z; cases z
  rw [del_ne hb] at z
  exact (I.hok b u z).stay (fun _ _ _ w => w) (fun c w => nt c _ w (by intro ψ q; cases q)) fun c xs w => nt c _ w (by intro ψ q; cases q)
section
variable {M : Model} {A : Around} {E : Value → Shared → Prop} {env : Env} {K : PySem.W.Frag} {C : Addr}
end
theorem log_small : ∀ n : Fin 100, (((n.val : Nat) : Int)).natAbs.log2 < 1920 := by decide +kernel
inductive PEs (X : Cx) : List Expr → List TE → Prop
 | nil : PEs X [] []
 | cons {e : Expr} {es : List Expr} {t : TE} {ts : List TE} : PE X e t → PEs X es ts → PEs X (e :: es) (t :: ts)
end L2
set_option Elab.async false
set_option linter.all false
set_option maxRecDepth 100000
set_option maxHeartbeats 4000000
namespace L2
open PySem PySem.Spec PyProof.Rows PySem.W
end L2
set_option Elab.async false
set_option linter.all false
set_option maxRecDepth 100000
set_option maxHeartbeats 4000000
namespace L2
open PySem PySem.Spec PyProof.Rows
end L2
set_option Elab.async false
set_option linter.all false
set_option maxRecDepth 100000
set_option maxHeartbeats 4000000
namespace Fc
def it : Nat → Nat → Nat
 | 0, x => x
 | n + 1, x => it n (5 * x + 1)
def lp (M : Nat) : Nat → Nat × Nat → Nat × Nat
 | 0, q => q
 | r + 1, q => lp M r ((q.1 * 5 + 1 + q.2 / 32) % M, q.2 / 32)
end Fc
set_option Elab.async false
set_option linter.all false
set_option maxRecDepth 100000
set_option maxHeartbeats 4000000
namespace Fc
open PySem PySem.SetTable
def st (mask : Nat) (q : Nat × Nat) : Probe := { j := q.1, more := runEnd mask q.1 - q.1, i := q.1, perturb := q.2, dummy := none }
end Fc
set_option Elab.async false
set_option linter.all false
set_option maxRecDepth 100000
set_option maxHeartbeats 4000000
namespace Fc
open PySem PySem.SetTable PyProof.Rows
section
variable {prog : Program} {w : World} {A : Around} {E : Value → Shared → Prop} {s : Shared}
abbrev TK (prog : Program) (w : World) (h : Heap) (q : List Int) (b : Addr) : Prop := IsTupleKey (intKind prog w) h q b
end
end Fc
set_option Elab.async false
set_option linter.all false
set_option maxRecDepth 100000
set_option maxHeartbeats 4000000
namespace Fc
open PySem PySem.SetTable PyProof.Rows
section
variable {prog : Program} {w : World} {A : Around} {E : Value → Shared → Prop} {s : Shared}
def Els (prog : Program) (w : World) (h : Heap) (es : Array (Int × Value)) (ks : List (List Int)) : Prop := ∀ e ∈ es.toList, ∃ q ∈ ks, ∃ b, e.2 = .ref b ∧ TK prog w h q b
end
end Fc
set_option Elab.async false
set_option linter.all false
set_option maxRecDepth 100000
set_option maxHeartbeats 4000000
namespace Fc
open PySem PySem.SetTable PyProof.Rows
end Fc
set_option Elab.async false
set_option linter.all false
set_option maxRecDepth 100000
set_option maxHeartbeats 4000000
namespace Fc
open PySem PySem.SetTable PyProof.Rows
section
variable {prog : Program} {w : World} {A : Around} {E : Value → Shared → Prop} {s : Shared}
def TSet (prog : Program) (w : World) (h : Heap) (a : Addr) (ks : List (List Int)) : Prop := ∃ o es ep t k, h.get? a = some o ∧ o.ExactSet ∧ o.data = .set es ep t ∧ t.mask + 1 = 2 ^ k ∧ 3 ≤ k ∧ k ≤ 13 ∧ t.dummies = #[] ∧ t.place.size = es.size ∧ es.size = ks.length ∧ es.size * 5 < t.mask * 3 ∧ Els prog w h es ks
end
end Fc
set_option Elab.async false
set_option linter.all false
set_option maxRecDepth 100000
set_option maxHeartbeats 4000000
namespace Fc
open PySem PySem.SetTable PyProof.Rows
section
variable {prog : Program} {w : World} {A : Around} {R : Result → Shared → Prop} {E : Value → Shared → Prop}
variable {I S : Addr} {fp wr : List Addr} {G : Array GenState → Array GenState → Prop} {n : Nat} {P : Nat → Value → Prop} {St : Nat → Shared → Prop}
end
section
variable {prog : Program} {w : World} {A : Around} {E : Value → Shared → Prop} {s : Shared}
end
end Fc
set_option Elab.async false
set_option linter.all false
set_option maxRecDepth 100000
set_option maxHeartbeats 4000000
namespace L2
open PySem PySem.Spec PyProof.Rows PySem.W
end L2
set_option Elab.async false
set_option linter.all false
set_option maxRecDepth 100000
set_option maxHeartbeats 4000000
namespace L2
open PySem PySem.Spec PyProof.Rows PySem.W
end L2
set_option Elab.async false
set_option linter.all false
set_option maxRecDepth 100000
set_option maxHeartbeats 4000000
namespace L2
open PySem PySem.Spec PyProof.Rows PySem.W
def sgn (c : Nat) : Str := ⟨#[c]⟩
def Itx (x : Str) : It := ⟨fun i _ => i < x.cps.size, fun i H v H' => H' = H ∧ ∃ c, x.cps[i]? = some c ∧ v = .str (sgn c), fun i _ => x.cps.size ≤ i⟩
theorem turn_text {P : Program} {w : World} {K : PySem.W.Frag} {tg : Expr} {ty : String} (it : Addr) (x : Str) (t : Tok) (hty : ty = "str_ascii_iterator" ∨ ty = "str_iterator") : Turn P w K tg (Itx x) [it] it (fun i h => h.IsStrIter it ty x t i) where
  mem := by simp
  obj := fun i h st b hb => by
    have e : b = it := by simpa using hb
    subst e
    obtain ⟨o, e, c, d⟩ := st
    exact ⟨o, e, fun v z => by rw [d] at z; cases z⟩
  keep := fun i h h' st k => let ⟨o, ho, r⟩ := st; ⟨o, k it (by simp) o ho, r⟩
  item := by
    intro X hP hw hK hc i pins s σ H E I hf st hg
    subst hP hw hK
    have hg : i < x.cps.size := hg
    obtain ⟨f0, f1, f2, f3, f4, f5⟩ := hf it (by simp)
    have key : ∀ h' : Heap, h'.IsStrIter it ty x t (i + 1) → Heap.SameBut it s.heap h' →
        ∃ u, some (Value.str ⟨#[x.cps[i]]⟩ s.toks) = some u ∧ wpAny (model X.prog X.w) X.A (letOwnedTupleGo tg (.ref it) u) (fun _ s2 => ∃ x_1 H', Inv X pins σ H' s2 ∧ RelV x_1 u ∧ (Itx x).yld i H x_1 H' ∧ s2.heap.IsStrIter it ty x t (i + 1) ∧ ∀ b ∈ [it], H' b = none) E { s with heap := h', toks := s.toks + 1 } := fun h' st' sb => by
      have I1 : Inv X pins σ H { s with heap := h', toks := s.toks + 1 } := I.turned (fun b o hb e => (sb.2 b hb).trans e) f0 f1 f3 f4 f5
      obtain ⟨o, e, c, d⟩ := id st'
      exact ⟨_, rfl, go_of (s := { s with heap := h', toks := s.toks + 1 }) e c d (by rcases hty with z | z <;> rw [z] <;> decide) ⟨.str (sgn x.cps[i]), H, I1, ⟨_, rfl⟩, ⟨rfl, _, by simp [hg], rfl⟩, st', fun b hb => (hf b hb).1⟩⟩
    rcases hty with z | z
    · subst z
      exact wpAny_pyNext_ascii_item st (c := x.cps[i]) (by simp [hg]) key
    · subst z
      exact wpAny_pyNext_wide_item st (c := x.cps[i]) (by simp [hg]) key
  done := by
    intro X hP hw hK hc i pins s σ H E I hf st hg
    subst hP hw hK
    have hg : x.cps.size ≤ i := hg
    obtain ⟨f0, f1, f2, f3, f4, f5⟩ := hf it (by simp)
    have key : ∀ h' : Heap, Heap.ExtBut it s.heap h' → (none : Option Value) = none ∧ Inv X pins σ H { s with heap := h' } := fun h' eb => ⟨rfl, I.turned (t' := s.toks) (fun b o hb e => eb b o hb e) f0 f1 f3 f4 f5⟩
    rcases hty with z | z
    · subst z
      exact wpAny_pyNext_ascii_end (I.ok.hd hc) st (by simp; omega) key
    · subst z
      exact wpAny_pyNext_wide_end (I.ok.hd hc) st (by simp; omega) key
  self := fun A i s Q E st h => by
    rcases hty with z | z
    · subst z; exact wpAny_pyIter_striter_ascii st h
    · subst z; exact wpAny_pyIter_striter_wide st h
def iText (tl : TE) : TI := fun σ H R => tl σ H fun v H1 => ∃ x : Str, v = .str x ∧ R (Itx x) H1
theorem rd_itext {tl : TE} {σ : St} {H : Hp} {R : It → Hp → Prop} (h : tl σ H fun v H1 => ∃ x : Str, v = .str x ∧ R (Itx x) H1) : iText tl σ H R := h
theorem pi_text {X : Cx} {tg l : Expr} {tl : TE} (hl : PE X l tl) : PI X tg l (iText tl) := by
 intro pins s σ H R I h
 refine thn (hl pins s σ H _ I h) fun v s1 ⟨x, H1, I1, r1, q1⟩ => ?_
 obtain ⟨x, rfl, q⟩ := q1
 obtain ⟨t, rfl⟩ := r1
 have fin : ∀ (ty : String), (ty = "str_ascii_iterator" ∨ ty = "str_iterator") → PIE X pins σ tg R (.ref s1.heap.objs.size) { s1 with heap := s1.heap.push { cls := .type ty, data := .fields #[.str x t, .int 0 0] } } := fun ty hty => by
  refine ⟨s1.heap.objs.size, [s1.heap.objs.size], _, _, H1, rfl, I1.kept (t' := s1.toks) fun b o e => Heap.get?_push_of_some _ e, turn_text _ x t hty, ⟨_, Heap.get?_push_size _ rfl, rfl, rfl⟩, fun b hb => ?_, q⟩
  have e : b = s1.heap.objs.size := by simpa using hb
  subst e
  exact I1.fpOk (Nat.le_refl _) (I1.hok.fresh (Nat.le_refl _))
 cases ha : x.cps.all (· < 128)
 ·exact wpAny_pyIter_wide ha (fin _ (.inr rfl))
 ·exact wpAny_pyIter_ascii ha (fin _ (.inl rfl))
theorem compW_textL {σ : St} {H : Hp} {Q : VK} {te : TE} {cap : List (Option Nat)} {l : Addr} {x : Str} (ys : List V) (hy : ys.length = x.cps.size) (hz : x.cps.size ≤ 1000) (hl : H l = none)
  (step : ∀ (i : Nat) c y o H' (Q' : VK), x.cps[i]? = some c → ys[i]? = some y → Same H H' → (∀ H5, Same H' H5 → Q' y H5) → te (((capS (none :: cap) σ).set 0 o).set 0 (some (.str (sgn c)))) H' Q')
  (fin : ∀ H', Same H H' → H' l = some (.lst ys) → Q (.ref l) H') : CompW (Itx x) (gName 0) tTrue te (none :: cap) l σ H Q := by
 refine ⟨x.cps.size, fun i zs σ' H' => zs = ys.take i ∧ (∃ o, σ' = (capS (none :: cap) σ).set 0 o) ∧ Same H H' ∧ H' l = some (.lst zs), ⟨rfl, ⟨none, rfl⟩, Same.new hl, upd_same⟩, ?_, ?_⟩
 ·rintro i zs σ' H' hi ⟨rfl, ⟨o, rfl⟩, s, e⟩
  refine ⟨hi, fun v H2 y => ?_⟩
  obtain ⟨e2, c, hc, rfl⟩ := y
  subst e2
  have hyi : i < ys.length := by omega
  refine rd_name (rd_true (iteT ?_))
  refine step i c ys[i] o H2 _ hc (List.getElem?_eq_getElem hyi) s fun H5 s5 => ⟨s5 _ _ e, ?_, ?_⟩
  ·rw [List.length_take]
   exact small1000 (by omega)
  ·exact ⟨List.take_append_getElem hyi, ⟨_, List.set_set ..⟩, (s.trans s5).later hl, upd_same⟩
 ·rintro zs σ' H' ⟨rfl, _, s, e⟩
  rw [List.take_of_length_le (by omega)] at e
  exact ⟨Nat.le_refl _, fin H' s e⟩
theorem rel_strs : ∀ (l : List (Str × Tok)), Vals ((l.map (·.1)).map V.str) (strValues l)
 | [] => .nil
 | (x, t) :: l => Paired.cons (show RelV (.str x) (.str x t) from ⟨t, rfl⟩) (rel_strs l)
theorem strs_rel : ∀ {xs : List Str} {us : List Value}, Vals (xs.map V.str) us → ∃ l : List (Str × Tok), us = strValues l ∧ l.map (·.1) = xs
 | [], us, h => by cases h; exact ⟨[], rfl, rfl⟩
 | x :: xs, us, h => by
  cases h with
  | cons h1 h2 =>
   obtain ⟨t, rfl⟩ := (show ∃ t, _ = Value.str x t from h1)
   obtain ⟨l, rfl, rfl⟩ := strs_rel h2
   exact ⟨(x, t) :: l, rfl, rfl⟩
theorem split_few (x y : Str) : (Txt.split x y).length ≤ x.length + 2 := by
 unfold Txt.split
 split
 ·show 1 ≤ _; omega
 ·split
  ·show 1 ≤ _; omega
  ·rw [length_partsBetween]
   have := StrLaws.occ_length_le x y 0 x.length (x.length + 1)
   omega
def rSplit : V → List V → Hp → VK → Prop := fun x ys H Q => ∃ a b : Str, x = .str a ∧ ys = [.str b] ∧ (b.length == 0) = false ∧ a.length ≤ 5000 ∧ ∀ p, H p = none → Q (.ref p) (upd H p (.lst ((Txt.split a b).map V.str)))
theorem mt_split {X : Cx} : MtR X "str.split" rSplit := by
 intro pins s σ H x ys v us Q I rx rv h
 obtain ⟨x, y, rfl, rfl, hy, hz, q⟩ := h
 obtain ⟨t, rfl⟩ := rx
 obtain ⟨u, rfl, ru⟩ := rv.one
 obtain ⟨u, rfl⟩ := ru
 have hsz : x.length ≤ sizeLine := Nat.le_trans hz (by decide)
 have hsz2 : (Builtin.Str.partsBetween x (Builtin.Str.occurrences x y 0 x.length (x.length + 1)) y.length).length ≤ sizeLine := by
  rw [length_partsBetween]
  have := StrLaws.occ_length_le x y 0 x.length (x.length + 1)
  exact Nat.le_trans (show _ ≤ 5010 by omega) (by decide)
 have few := split_few x y
 have fin : ∀ (l : List (Str × Tok)) (k : Nat), l.map (·.1) = Txt.split x y → EP X pins σ Q (.ref s.heap.objs.size) { s with toks := k, heap := s.heap.push { cls := .type "list", data := .seq (strValues l).toArray } } := fun l k hl => by
  refine ⟨.ref _, _, I.lnew (t' := k) (ys := (Txt.split x y).map V.str) (its := strValues l) (by rw [← hl]; exact rel_strs l) (by rw [List.length_map]; exact Nat.le_trans (show _ ≤ 5010 by omega) (by decide)), rfl, q _ I.fresh⟩
 cases h1 : (decide (x.length < y.length) || decide (Builtin.Str.strKind x < Builtin.Str.strKind y))
 ·cases hf : (Builtin.Str.occurrences x y 0 x.length (x.length + 1)).isEmpty
  ·refine call_meets F.slot_str_split (typeIs_str _ _ _) F.entry_str_split (F.args_str_split_2 _ _) (meets_str_split_sep x y t u h1 hy hf hsz hsz2) ?_
   show wants (EP X pins σ Q) X.xe _ { s with toks := _, heap := s.heap.push { cls := .type "list", data := .seq (strsFrom s.toks (Builtin.Str.partsBetween x (Builtin.Str.occurrences x y 0 x.length (x.length + 1)) y.length)).toArray } }
   rw [strsFrom_eq]
   exact fin (numbered s.toks _) _ ((numbered_texts _ _).trans ((if_neg (ne_true_of_eq_false h1)).trans (if_neg (ne_true_of_eq_false hf))).symm)
  ·exact call_meets F.slot_str_split (typeIs_str _ _ _) F.entry_str_split (F.args_str_split_2 _ _) (meets_str_split_not_found x y t u h1 hy hf) (fin [(x, t)] s.toks ((if_neg (ne_true_of_eq_false h1)).trans (if_pos hf)).symm)
 ·exact call_meets F.slot_str_split (typeIs_str _ _ _) F.entry_str_split (F.args_str_split_2 _ _) (meets_str_split_cannot_occur x y t u h1) (fin [(x, t)] s.toks (if_pos h1).symm)
def rJoin : V → List V → Hp → VK → Prop := fun x ys H Q => ∃ (a : Str) (p : Addr) (ts : List Str), x = .str a ∧ ys = [.ref p] ∧ H p = some (.lst (ts.map V.str)) ∧ JoinOk a ts = true ∧ Q (.str (Txt.join a ts)) H
theorem mt_join {X : Cx} : MtR X "str.join" rJoin := by
 intro pins s σ H x ys v us Q I rx rv h
 obtain ⟨x, p, ts, rfl, rfl, hp, hok, q⟩ := h
 obtain ⟨t, rfl⟩ := rx
 obtain ⟨u, rfl, ru⟩ := rv.one
 cases ru
 obtain ⟨z, its, n, r, hl, e⟩ := I.lstM hp
 obtain ⟨l, rfl, ht⟩ := strs_rel r
 exact SC.join (l := l) ⟨_, e, rfl, n, rfl⟩ ht hok fun t' k => ⟨.str _, H, I.tok _, ⟨_, rfl⟩, q⟩
def rIntT : List V → Hp → VK → Prop := fun xs H Q => ∃ (x : Str) (n : Int), xs = [.str x] ∧ PySem.intText? x = some n ∧ x.length ≤ 640 ∧ Q (.int n) H
theorem cI_intT {X : Cx} : CallR X (.type "int") rIntT := by
 intro pins s σ H xs us Q I r h
 obtain ⟨x, n, rfl, hn, hl, q⟩ := h
 obtain ⟨u, rfl, rx⟩ := vals1 r
 obtain ⟨t, rfl⟩ := rx
 exact PySem.W.KIN.call_text hn hl ⟨.int n, H, I.tok _, ⟨_, rfl⟩, q⟩
theorem sl_part {v : Value} {o : Option Int} (h : IsPart v o) : ∃ p : Option (Int × Tok), v = partValue p ∧ p.map (·.1) = o := by
 cases h with
 | none => exact ⟨none, rfl, rfl⟩
 | int i t => exact ⟨some (i, t), rfl, rfl⟩
def rSlX : V → Option Int → Option Int → Hp → VK → Prop := fun x lo hi H Q => ∃ a : Str, x = .str a ∧ a.length ≤ sizeLine ∧ Q (.str (Txt.slice a lo hi)) H
theorem sl_text {X : Cx} : SlR X rSlX := by
 intro pins s σ H x v vl vu lo hi sl Q I rx hs pl pu h
 obtain ⟨a, rfl, hz, q⟩ := h
 obtain ⟨t, rfl⟩ := rx
 obtain ⟨l, rfl, rfl⟩ := sl_part pl
 obtain ⟨u, rfl, rfl⟩ := sl_part pu
 refine ⟨"str", _, F.slot_str_getitem.lookup, typeIs_str _ _ _, wpAny_getItem_str_slice (l := l) (u := u) (st := none) hs rfl ?_⟩
 exact post_val_or_str ⟨Nat.le_trans (Txt.slice_le a _ _) hz, fun t' k => ⟨.str _, H, I.tok _, ⟨_, rfl⟩, q⟩⟩
end L2
set_option Elab.async false
set_option linter.all false
set_option maxRecDepth 100000
set_option maxHeartbeats 4000000
namespace L2
open PySem PySem.Spec PyProof.Rows PySem.W
end L2
set_option Elab.async false
set_option linter.all false
set_option maxRecDepth 100000
set_option maxHeartbeats 4000000
namespace L2
open PySem PySem.Spec PyProof.Rows PySem.W
def rLenX : List V → Hp → VK → Prop := fun xs H Q => ∃ z : Str, xs = [.str z] ∧ z.length ≤ sizeLine ∧ Q (.int z.length) H
theorem cI_lenX {X : Cx} : CallR X (.builtin "len") rLenX := call_len_str
theorem rd_lenX {H : Hp} {Q : VK} {z : Str} (h : z.length ≤ sizeLine) (q : Q (.int z.length) H) : rLenX [.str z] H Q := ⟨z, rfl, h, q⟩
end L2
set_option Elab.async false
set_option linter.all false
set_option maxRecDepth 100000
set_option maxHeartbeats 4000000
namespace L2
open PySem PySem.Spec PyProof.Rows
open Builtin Builtin.Str
theorem strX {a b : Str} (h : a.cps.toList = b.cps.toList) : a = b := by
 cases a with | mk x => cases b with | mk y => congr 1; exact Array.toList_inj.mp h
theorem catX (a b : Str) : (a ++ b).cps.toList = a.cps.toList ++ b.cps.toList := Array.toList_append
theorem join_sgn : ∀ cs : List Nat, (Txt.join "" (cs.map sgn)).cps.toList = cs := by
 intro cs
 show (glued _ _).cps.toList = _
 rw [PySem.StrLaws.glued_eq_join]
 induction cs with
 | nil => rfl
 | cons c r ih =>
  cases r with
  | nil => rfl
  | cons d r =>
   show ((sgn c ++ "") ++ Str.join "" ((d :: r).map sgn)).cps.toList = _
   rw [catX, catX, ih]; rfl
theorem joinOk_sgn {cs : List Nat} (h : cs.length ≤ 1000) : JoinOk "" (cs.map sgn) = true := by
 unfold JoinOk
 rw [List.foldl_toArray]
 have : ∀ (cs : List Nat) (a : Nat), (cs.map sgn).foldl (fun x1 x2 => x1 + x2.length + ("" : Str).length) a = a + cs.length := by
  intro cs
  induction cs with
  | nil => intro a; rfl
  | cons c r ih =>
   intro a
   rw [List.map_cons, List.foldl_cons, ih]
   show a + 1 + 0 + r.length = a + (r.length + 1)
   omega
 rw [this, Nat.zero_add]
 unfold tooLong
 have : (1000 : Nat) ≤ sizeLine := by decide
 simp only [Bool.not_eq_true', decide_eq_false_iff_not]
 omega
end L2
set_option Elab.async false
set_option linter.all false
set_option maxRecDepth 100000
set_option maxHeartbeats 4000000
namespace L2
open PySem PySem.Spec PyProof.Rows
section
variable {prog : Program} {w : World} {A : Around} {E : Value → Shared → Prop}
end
end L2
set_option Elab.async false
set_option linter.all false
set_option maxRecDepth 100000
set_option maxHeartbeats 4000000
namespace L2
open PySem PySem.Spec PyProof.Rows
def rNinT : R2 := fun x y H Q => ∃ (ds : List PyData) (d : PyData), Rep H (.tuple ds) y ∧ Rep H d x ∧ PyData.canLayAll0 ds = true ∧ d.canLay0 = true ∧ d.depth ≤ 60 ∧ Q (.bl (!ds.any fun y => PyData.eqv y d)) H
theorem op_ninT {X : Cx} (hu : X.A.units + 64 < cLine) : OpR X (compareOp .NotIn) rNinT := by
 intro pins s σ H x y v u Q I rx ry h
 obtain ⟨ds, d, h1, h2, s1, s2, s3, q⟩ := h
 obtain ⟨as, r1⟩ := h1.reads I ry
 obtain ⟨bs, r2⟩ := h2.reads I rx
 exact SeqAt.notIn_tuple_reads r1 r2 s1 s2 (by have := Nat.min_le_right (PyData.depthAll ds) d.depth; omega) ⟨.bl _, H, I, rfl, q⟩
theorem rd_ninT2 {H : Hp} {Q : VK} {x a b : Str} {p : Addr} (hp : H p = some (.tup [.str a, .str b])) (oa : PyData.strOk a = true) (ob : PyData.strOk b = true) (ox : PyData.strOk x = true) (q : Q (.bl (!(decide (a = x) || decide (b = x)))) H) : rNinT (.str x) (.ref p) H Q := by
  refine ⟨[.str a, .str b], .str x, ?_, rfl, by simp [PyData.canLayAll0, PyData.canLay0, oa, ob], ox, by unfold PyData.depth; omega, ?_⟩
  · simp only [Rep, RepL]
    exact ⟨p, _, rfl, hp, _, _, rfl, rfl, _, _, rfl, rfl, rfl⟩
  · have e : ([PyData.str a, .str b].any fun y => PyData.eqv y (.str x)) = (decide (a = x) || decide (b = x)) := by
      show ((a == x) || ((b == x) || false)) = _
      rw [Bool.or_false]; rfl
    rw [e]; exact q
theorem in_sign {x : Str} {c : Nat} : (!(Builtin.Str.occurrences x (sgn c) 0 x.length 1).isEmpty) = decide (c ∈ x.cps.toList) := StrLaws.found_one x c
end L2
set_option Elab.async false
set_option linter.all false
set_option maxRecDepth 100000
set_option maxHeartbeats 4000000
namespace L2
open PySem PySem.Spec PyProof.Rows
end L2
set_option Elab.async false
set_option linter.all false
set_option maxRecDepth 100000
set_option maxHeartbeats 4000000
namespace L2
open PySem PySem.Spec PyProof.Rows
def rEqE (neg : Bool) : R2 := fun x y H Q => ∃ (a b : Addr) (xs : List V), x = .ref a ∧ y = .ref b ∧ H a = some (.lst xs) ∧ H b = some (.lst []) ∧ Q (.bl (if neg then !xs.isEmpty else xs.isEmpty)) H
theorem vals_nil {us : List Value} (h : Vals [] us) : us = [] := by cases h; rfl
theorem op_eqE {X : Cx} (hu : X.A.units + 64 < cLine) : OpR X (compareOp .Eq) (rEqE false) := by
 intro pins s σ H x y v u Q I rx ry h
 obtain ⟨a, b, xs, rfl, rfl, ha, hb, q⟩ := h
 cases (show v = Value.ref a from rx)
 cases (show u = Value.ref b from ry)
 obtain ⟨z1, us, n1, r1, o1⟩ := (show ObjOk X.prog X.w H s.heap a (.lst xs) from I.hok a _ ha)
 obtain ⟨z2, ws, n2, r2, o2⟩ := (show ObjOk X.prog X.w H s.heap b (.lst []) from I.hok b _ hb)
 cases vals_nil r2
 have i1 : s.heap.IsList a us.toArray := ⟨_, o1, rfl, n1, rfl⟩
 have i2 : s.heap.IsList b ([] : List Value).toArray := ⟨_, o2, rfl, n2, rfl⟩
 cases r1 with
 | nil => exact SeqAt.eq_listAt (e := fun _ => true) i1 i2 rfl (by omega) (fun j h1 _ => absurd h1 (by simp)) ⟨.bl true, H, I, rfl, q⟩
 | cons r rs => exact SeqAt.eq_list_lengthsAt i1 i2 (by simp) (by omega) ⟨.bl false, H, I, rfl, q⟩
end L2
set_option Elab.async false
set_option linter.all false
set_option maxRecDepth 100000
set_option maxHeartbeats 4000000
namespace L2
open PySem PySem.Spec PyProof.Rows PySem.W
theorem entry_unchain : entryFor table "proto.unchain" = some Builtin.«proto.unchain» := entryFor_of_tree (by kernel_rfl)
def XcO (C : Addr) (h : Heap) : Prop := ∃ nm q N bs bm hdct sn sub ab col dd k0 k1 k2 k3 k5 nid, h.get? C = some (excClassObj nm q C N bs bm hdct sn sub ab col dd k0 k1 k2 k3 k5 nid) ∧ bm.contains (.type "BaseException") = true
section
variable {prog : Program} {w : World} {A : Around} {E : Value → Shared → Prop} {s : Shared}
theorem raiseNew_in {α : Type} {e2 e1 : Addr} {o2 o1 : Obj} {v2 v1 : Array Value} {Q : α → Shared → Prop} (hh : A.handled = some (.ref e1)) (ne : e1 ≠ e2) (h1 : s.heap.get? e1 = some o1) (d1 : o1.data = .fields v1) (c1 : v1[2]? = some .none)
  (h2 : s.heap.get? e2 = some o2) (d2 : o2.data = .fields v2) (z2 : 2 < v2.size) (h : E (.ref e2) { s with heap := s.heap.update e2 (Obj.mapFields (·.setIfInBounds 2 (.ref e1))) }) : wpAny (model prog w) A (raiseNew (.ref e2) : Sem α) Q E s := by
 unfold raiseNew
 refine wpAny_bind (wpAny_handled ?_)
 rw [hh]
 dsimp only
 have hb : ((Value.ref e1) != Value.ref e2) = true := by
  rw [bne_iff_ne]; intro z; injection z with z; exact ne z
 rw [if_pos hb]
 refine wpAny_bind (wpAny_holding (wpAny_runValue (codeAny_builtin entry_unchain ?_)))
 unfold Builtin.«proto.unchain»
 refine wpAny_bind (wpAny_field h1 d1 c1 ?_)
 rw [if_pos (by rfl)]
 refine wpAny_pure ?_
 show wpAny _ _ (setField (.ref e2) 2 (Value.ref e1) >>= fun _ => throw (Value.ref e2)) _ _ _
 exact wpAny_bind (wpAny_setField h2 d2 z2 (wpAny_throw h))
theorem isExc_not {e : Addr} {o : Obj} {vs : Array Value} {Q : Bool → Shared → Prop} (he : s.heap.get? e = some o) (hd : o.data = .fields vs) (h : Q false s) : wpAny (model prog w) A (isType (.ref e)) Q E s := by
 obtain ⟨oc, od, odt, osl⟩ := o
 dsimp only at hd
 subst hd
 obtain ⟨hp, g, d, tk, os⟩ := s
 unfold isType
 repeat (first | with_reducible refine wpAny_loadPart_at he ?_ | wp_step)
 exact h
theorem excFrom {e C : Addr} {o : Obj} {vs : Array Value} {m : String} {Q : Value → Shared → Prop} (he : s.heap.get? e = some o) (hc : o.cls = .ref C) (hd : o.data = .fields vs) (hC : XcO C s.heap) (h : Q (.ref e) s) : wpAny (model prog w) A (excFromValue (.ref e) m) Q E s := by
 obtain ⟨nm, q, N, bs, bm, hdct, sn, sub, ab, col, dd, k0, k1, k2, k3, k5, nid, cl, hb⟩ := hC
 have hb : (Value.ref C :: bm).contains (.type "BaseException") = true := by rw [List.contains_cons, hb, Bool.or_true]
 unfold excFromValue isExcClass
 refine wpAny_bind (wpAny_bind (isExc_not he hd ?_))
 rw [if_neg (by decide)]
 refine wpAny_pure ?_
 rw [if_neg (by decide)]
 obtain ⟨oc, od, odt, osl⟩ := o
 dsimp only at hc hd
 subst hc hd
 obtain ⟨hp, g, d, tk, os⟩ := s
 unfold isInstance
 repeat (first | with_reducible refine wpAny_loadPart_at he ?_ | (with_reducible refine wpAny_isSubtype_exc cl ?_; rw [hb]) | wp_step)
 exact h
theorem raised_self {e C : Addr} {o : Obj} {Q : Value → Shared → Prop} (he : s.heap.get? e = some o) (hc : o.cls = .ref C) (hC : XcO C s.heap) (h : Q (.ref e) s) : wpAny (model prog w) A (raisedInstance (.ref e)) Q E s := by
 obtain ⟨nm, q, N, bs, bm, hdct, sn, sub, ab, col, dd, k0, k1, k2, k3, k5, nid, cl, hb⟩ := hC
 obtain ⟨oc, od, odt, osl⟩ := o
 dsimp only at hc
 subst hc
 obtain ⟨hp, g, d, tk, os⟩ := s
 unfold raisedInstance
 repeat (first | with_reducible refine wpAny_loadPart_at he ?_ | with_reducible refine wpAny_loadPart_at cl ?_ | wp_step)
 exact h
theorem XcO.stay {C : Addr} {h h' : Heap} (x : XcO C h) (k : ∀ o, h.get? C = some o → h'.get? C = some o) : XcO C h' := by
 obtain ⟨nm, q, N, bs, bm, hdct, sn, sub, ab, col, dd, k0, k1, k2, k3, k5, nid, cl, hb⟩ := x
 exact ⟨nm, q, N, bs, bm, hdct, sn, sub, ab, col, dd, k0, k1, k2, k3, k5, nid, k _ cl, hb⟩
theorem XcO.nofld {C : Addr} {h : Heap} (x : XcO C h) : ∃ o cd, h.get? C = some o ∧ o.data = .cls cd := by
 obtain ⟨nm, q, N, bs, bm, hdct, sn, sub, ab, col, dd, k0, k1, k2, k3, k5, nid, cl, hb⟩ := x
 exact ⟨_, _, cl, rfl⟩
theorem raise_from {env : Env} {x c : Sem Value} {e1 C1 C2 : Addr} {Q : Flow → Shared → Prop} (hh : A.handled = some (.ref e1))
  (h : wpAny (model prog w) A x (fun v s1 => ∃ e2, v = .ref e2 ∧ wpAny (model prog w) A c (fun u s2 => u = .ref e1 ∧ e1 ≠ e2 ∧ XcO C2 s2.heap ∧ XcO C1 s2.heap ∧ (∃ o1 v1, s2.heap.get? e1 = some o1 ∧ o1.cls = .ref C1 ∧ o1.data = .fields v1 ∧ v1[2]? = some .none) ∧
   ∃ t2, s2.heap.get? e2 = some { cls := .ref C2, data := .fields #[.ref t2, .none, .none, .none, .bool false, .none] } ∧
   ∀ h', (∀ b, b ≠ e2 → h'.get? b = s2.heap.get? b) → h'.get? e2 = some { cls := .ref C2, data := .fields #[.ref t2, .none, .ref e1, .ref e1, .bool true, .none] } → E (.ref e2) { s2 with heap := h' }) E s1) E s) :
  wpAny (model prog w) A (raiseStmt env (some x) (some c)) Q E s := by
 unfold raiseStmt
 refine wpAny_bind (wpAny_mono h (fun v s1 h1 => ?_) fun _ _ y => y)
 obtain ⟨e2, rfl, h1⟩ := h1
 refine wpAny_bind (wpAny_holding (wpAny_mono h1 (fun u s2 h2 => ?_) fun _ _ y => y))
 obtain ⟨rfl, ne, X2, X1, ⟨o1, v1, g1, gc, gd, g2⟩, t2, ge, hE⟩ := h2
 refine wpAny_bind (wpAny_pure ?_)
 refine wpAny_bind (wpAny_holding (excFrom ge rfl rfl X2 ?_))
 dsimp only
 rw [if_neg (show ¬ ((Value.ref e1 == Value.none) = true) by simp)]
 refine wpAny_bind (wpAny_holding (excFrom g1 gc gd X1 ?_))
 have ga : ∀ (hp : Heap) (vs : Array Value) (i : Nat) (y : Value), hp.get? e2 = some { cls := .ref C2, data := .fields vs } → (hp.update e2 (Obj.mapFields (·.setIfInBounds i y))).get? e2 = some { cls := .ref C2, data := .fields (vs.setIfInBounds i y) } := fun hp vs i y z => Heap.get?_update_self _ z rfl
 have ot : ∀ (hp : Heap) (i : Nat) (y : Value) (b : Addr), b ≠ e2 → (hp.update e2 (Obj.mapFields (·.setIfInBounds i y))).get? b = hp.get? b := fun hp i y b z => Heap.get?_update_other _ _ (Ne.symm z)
 refine wpAny_bind (wpAny_setField ge rfl (by show 3 < 6; decide) ?_)
 have g3 := ga _ _ 3 (.ref e1) ge
 refine wpAny_bind (wpAny_setField g3 rfl (by show 4 < 6; decide) ?_)
 have g4 := ga _ _ 4 (.bool true) g3
 have nC : C2 ≠ e2 := fun z => by
  obtain ⟨o, cd, q1, q2⟩ := X2.nofld
  rw [z, ge] at q1; cases q1; cases q2
 refine wpAny_bind (isExc_not g4 rfl ?_)
 rw [if_neg (by decide)]
 refine wpAny_bind (raised_self g4 rfl (X2.stay fun o z => by show (Heap.update (Heap.update _ _ _) _ _).get? C2 = _; rw [ot _ _ _ _ nC, ot _ _ _ _ nC]; exact z) ?_)
 unfold setFlight
 refine wpAny_bind (wpAny_bind (wpAny_field g4 rfl (x := .none) rfl ?_))
 rw [if_neg (by decide)]
 refine wpAny_pure ?_
 have g5 := ga _ _ 2 (.ref e1) g4
 refine raiseNew_in hh ne (o1 := o1) (v1 := v1) (by show (Heap.update (Heap.update _ _ _) _ _).get? e1 = _; rw [ot _ _ _ _ ne, ot _ _ _ _ ne]; exact g1) gd g2 g4 rfl (by show 2 < 6; decide) ?_
 refine hE _ (fun b hb => ?_) g5
 show (Heap.update (Heap.update (Heap.update _ _ _) _ _) _ _).get? b = _
 rw [ot _ _ _ _ hb, ot _ _ _ _ hb, ot _ _ _ _ hb]
end
end L2
set_option Elab.async false
set_option linter.all false
set_option maxRecDepth 100000
set_option maxHeartbeats 4000000
namespace L2
open PySem PySem.Spec PyProof.Rows
def ctxOf (o : Obj) : Option Value := match o.data with | .fields vs => vs[2]? | _ => none
inductive DC {α : Type} : Sem α → Prop
 | pure (a : α) : DC (.pure a)
 | raise (e : Value) : DC (.raise e)
 | unsup (w : String) : DC (.unsupported w)
 | fin (e : Ending) : DC (.finish e)
 | rule {t : String} {k : Unit → Sem α} : DC (k ()) → DC (.rule t k)
 | here {p : Pos} {k : Unit → Sem α} : DC (k ()) → DC (.at p k)
 | load {a : Addr} {p : Option Value} {k : Obj → Sem α} : (∀ o, DC (k o)) → DC (.load a p k)
 | upd {a : Addr} {p : Option Value} {f : Obj → Obj} {k : Unit → Sem α} : (∀ o, (f o).dict = o.dict ∧ (f o).isFreed = o.isFreed ∧ ctxOf (f o) = ctxOf o) → DC (k ()) → DC (.update a p f k)
 | alloc {o : Obj} {k : Addr → Sem α} : (∀ n, DC (k n)) → DC (.alloc o k)
 | point {l : List Value} {k : Unit → Sem α} : DC (k ()) → DC (.point l k)
 | fresh {k : Tok → Sem α} : (∀ n, DC (k n)) → DC (.fresh k)
 | ask {k : Setting → Sem α} : (∀ n, DC (k n)) → DC (.ask k)
 | stack {k : List (Code × Pos) → Sem α} : (∀ n, DC (k n)) → DC (.stack k)
theorem DC.andThen {α β : Type} {m : Sem α} {f : α → Sem β} (h : DC m) (g : ∀ a, DC (f a)) : DC (m >>= f) := by
 show DC (Sem.bind m f)
 induction h with
 | pure a => rw [Sem.bind]; exact g a
 | raise e => rw [Sem.bind]; exact .raise e
 | unsup w => rw [Sem.bind]; exact .unsup w
 | fin e => rw [Sem.bind]; exact .fin e
 | rule _ ih => rw [Sem.bind]; exact .rule ih
 | here _ ih => rw [Sem.bind]; exact .here ih
 | load _ ih => rw [Sem.bind]; exact .load ih
 | upd z _ ih => rw [Sem.bind]; exact .upd z ih
 | alloc _ ih => rw [Sem.bind]; exact .alloc ih
 | point _ ih => rw [Sem.bind]; exact .point ih
 | fresh _ ih => rw [Sem.bind]; exact .fresh ih
 | ask _ ih => rw [Sem.bind]; exact .ask ih
 | stack _ ih => rw [Sem.bind]; exact .stack ih
def HasB (e : Addr) (dx : Option Addr × Option Value) (h : Heap) : Prop := ∃ o, h.get? e = some o ∧ (o.dict, ctxOf o) = dx
theorem HasB.upd {e a : Addr} {dx : Option Addr × Option Value} {h : Heap} {f : Obj → Obj} (x : HasB e dx h) (z : ∀ o, (f o).dict = o.dict ∧ (f o).isFreed = o.isFreed ∧ ctxOf (f o) = ctxOf o) : HasB e dx (h.update a f) := by
 obtain ⟨o, h1, h2⟩ := x
 by_cases q : a = e
 ·subst q
  have fr : o.isFreed = false := (Heap.get?_some_iff.mp h1).2
  exact ⟨_, Heap.get?_update_self f h1 (by rw [(z o).2.1]; exact fr), by rw [(z o).1, (z o).2.2]; exact h2⟩
 ·exact ⟨o, by rw [Heap.get?_update_other h f q]; exact h1, h2⟩
theorem DC.run {α : Type} {M : Model} {Γ : PySem.Ctx} {m : Sem α} {Q : α → Pos → Shared → Prop} {E : Value → Pos → Shared → Prop} {p : Pos} {s : Shared} {e : Addr} {dx : Option Addr × Option Value} (h : DC m) (w : Sem.wp M Γ m Q E p s) (x : HasB e dx s.heap) :
  Sem.wp M Γ m (fun a p s' => Q a p s' ∧ HasB e dx s'.heap) (fun v p s' => E v p s' ∧ HasB e dx s'.heap) p s := by
 induction h generalizing p s with
 | pure a => rw [Sem.wp] at w ⊢; exact ⟨w, x⟩
 | raise v => rw [Sem.wp] at w ⊢; exact ⟨w, x⟩
 | unsup q => rw [Sem.wp] at w; exact w.elim
 | fin q => rw [Sem.wp] at w; exact w.elim
 | rule _ ih => rw [Sem.wp] at w ⊢; exact ih w x
 | here _ ih => rw [Sem.wp] at w ⊢; exact ih w x
 | load _ ih => rw [Sem.wp] at w ⊢; obtain ⟨o, h1, h2⟩ := w; exact ⟨o, h1, ih o h2 x⟩
 | upd z _ ih => rw [Sem.wp] at w ⊢; exact ⟨w.1, ih w.2 (x.upd z)⟩
 | alloc _ ih => rw [Sem.wp] at w ⊢; exact ih _ w (let ⟨o, h1, h2⟩ := x; ⟨o, Heap.get?_push_of_some _ h1, h2⟩)
 | point _ ih => rw [Sem.wp] at w ⊢; exact ih w x
 | fresh _ ih => rw [Sem.wp] at w ⊢; exact ih _ w x
 | ask _ ih => rw [Sem.wp] at w ⊢; exact ih _ w x
 | stack _ ih => rw [Sem.wp] at w ⊢; exact ih _ w x
theorem DC.any {α : Type} {M : Model} {A : Around} {m : Sem α} {Q : α → Shared → Prop} {E : Value → Shared → Prop} {s : Shared} {e : Addr} {dx : Option Addr × Option Value} (h : DC m) (w : wpAny M A m Q E s) (x : HasB e dx s.heap) :
  wpAny M A m (fun a s' => Q a s' ∧ HasB e dx s'.heap) E s := fun Γ p hΓ =>
 Sem.wp_mono M Γ m (fun _ _ _ z => z) (fun _ _ _ z => z.1) p s (h.run (w Γ p hΓ) x)
theorem dc_ite {α : Type} {c : Prop} [Decidable c] {a b : Sem α} (h1 : DC a) (h2 : DC b) : DC (if c then a else b) := by split <;> assumption
theorem dc_field (v : Value) (i : Nat) : DC (field v i) := by
 unfold field fieldsOf
 refine DC.andThen ?_ fun vs => ?_
 ·cases v with
  | ref a =>
   refine DC.andThen (.load fun o => .pure o) fun o => ?_
   cases o.data <;> first | exact .pure _ | exact .unsup _
  | _ => exact .unsup _
 ·cases vs[i]? <;> first | exact .pure _ | exact .unsup _
theorem dc_mapFields {i : Nat} (hi : i ≠ 2) (x : Value) (o : Obj) : (Obj.mapFields (·.setIfInBounds i x) o).dict = o.dict ∧ (Obj.mapFields (·.setIfInBounds i x) o).isFreed = o.isFreed ∧ ctxOf (Obj.mapFields (·.setIfInBounds i x) o) = ctxOf o := by
 obtain ⟨c, d, dt, sl⟩ := o
 cases dt <;> first | exact ⟨rfl, rfl, rfl⟩ | exact ⟨rfl, rfl, Array.getElem?_setIfInBounds_ne hi⟩
theorem dc_setField (v : Value) (i : Nat) (x : Value) (hi : i ≠ 2 := by decide) : DC (setField v i x) := by
 unfold setField
 cases v with
 | ref a =>
  unfold updateField
  refine DC.andThen (.load fun o => .pure o) fun o => ?_
  cases o.data with
  | fields vs => exact dc_ite (.upd (dc_mapFields hi x) (.pure ())) (.unsup _)
  | _ => exact .unsup _
 | _ => exact .unsup _
theorem dc_setFlight (e : Value) (f : Option Addr) : DC (setFlight e f) := by
 unfold setFlight
 exact DC.andThen (dc_field _ _) fun tb => dc_ite (dc_setField _ _ _) (.pure _)
theorem dc_back (env : Env) (b : Bool) (l : List Env) : DC (keptBack env b l) := by
 cases l with
 | nil =>
  unfold keptBack underTheClaimsCaller
  refine dc_ite (.pure _) (DC.andThen (DC.andThen (.stack fun n => .pure n) fun _ => .pure _) fun q => .pure _)
 | cons c r => unfold keptBack; exact .pure _
theorem dc_import (env : Env) (l : List Env) : DC (behindIsImport env l) := by
 unfold behindIsImport
 exact dc_ite (.pure _) (dc_ite (.pure _) (DC.andThen (dc_field _ _) fun _ => .pure _))
theorem dc_ready : ∀ l : List Env, DC (readyFrames l)
 | [] => by unfold readyFrames; exact .pure _
 | env :: r => by
  unfold readyFrames
  cases env.frame with
  | none => exact .unsup _
  | some f =>
   refine DC.andThen (.load fun o => .pure o) fun o => dc_ite (.pure _) ?_
   refine DC.andThen (dc_import _ _) fun b => DC.andThen (dc_back _ _ _) fun v => DC.andThen (.upd (fun o => ⟨rfl, by obtain ⟨c, d, dt, sl⟩ := o; cases dt <;> rfl, rfl⟩) (.pure ())) fun _ => dc_ready r
theorem dc_frameOf (env : Env) : DC (PySem.frameOf env) := by
 unfold PySem.frameOf PySem.frameEnvs
 refine DC.andThen (DC.andThen (.stack fun n => .pure n) fun _ => .pure _) fun l => DC.andThen ?_ fun o => ?_
 ·generalize l.dropWhile _ = l'
  cases l' with
  | nil => unfold frameObject; exact .pure _
  | cons c r => unfold frameObject; exact DC.andThen (dc_ready _) fun _ => .pure _
 ·cases o with
  | none => exact .unsup _
  | some f => exact .pure _
theorem dc_place (f : Addr) (b : Bool) : DC (entryPlaceOf f b) := by
 unfold entryPlaceOf
 refine DC.andThen (.stack fun n => .pure n) fun l => ?_
 cases l.find? _ with
 | none => exact .pure _
 | some q => exact .pure _
theorem dc_newEntry (a b c d e : Value) (l : List Value) : DC (EntryCells.newEntry a b c d e l) := by
 unfold EntryCells.newEntry newFields newObj newObjAsIs
 generalize ([a, b, c, d, e] ++ if l.isEmpty then List.replicate 6 Value.none else l) = vs
 dsimp only
 split
 ·exact DC.andThen (.unsup _) fun _ => DC.andThen (.alloc fun n => .pure n) fun _ => .pure _
 ·exact DC.andThen (.alloc fun n => .pure n) fun _ => .pure _
theorem dc_noteFrame (e : Value) (env : Env) : DC (noteFrame e env) := by
  unfold noteFrame
  cases env.frame with
  | none => exact .unsup _
  | some f =>
    refine DC.andThen (dc_field _ _) fun hd => ?_
    have tail : DC (do
        let a ← PySem.frameOf env
        let pl ← entryPlaceOf f (hd != .none)
        let b ← EntryCells.newEntry hd a .none (rawInt f) .none pl
        setField e 1 b) := DC.andThen (dc_frameOf _) fun _ => DC.andThen (dc_place _ _) fun _ => DC.andThen (dc_newEntry _ _ _ _ _ _) fun _ => dc_setField _ _ _
    refine dc_ite ?_ tail
    refine DC.andThen (dc_field _ _) fun x => dc_ite (.pure _) (DC.andThen (dc_setField _ _ _) fun _ => tail)
theorem dc_leaving (env : Env) (e : Value) : DC (leaving env e) := by
 unfold leaving
 exact DC.andThen (dc_noteFrame _ _) fun _ => dc_setFlight _ _
def HasC (e : Addr) (c : Option Value) (h : Heap) : Prop := ∃ o, h.get? e = some o ∧ ctxOf o = c
def CX2 (P : Program) (w : World) : CXT := fun outer H s E x s' => ∃ (e C : Addr) (xo : Option Addr) (H' : Hp), x = .ref e ∧ s'.os = s.os ∧ AllBare s'.gens ∧ Un (frs outer) [] H H' s.heap s'.heap ∧ HOk P w H' s'.heap ∧ Exc s.heap s'.heap H' e C xo ∧ HasC e (some .none) s'.heap ∧ E (.ref C) xo H'
section
variable {P : Program} {w : World} {K : PySem.W.Frag} {mg : Str → Option Value} {base : Heap} {N : List Str} {qual : Str} {scope : Scope} {f : Addr} {cd : Value} {A : Around} {outer : List Env} {s₀ : Shared} {H₀ : Hp} {E : XK} {pins : List (Addr × Obj)} {σ : St} {H : Hp} {s : Shared}
theorem xe_made2 {e C : Addr} {xo : Option Addr} {oe : Obj} {vs : Array Value} (I1 : Inv (cxOf (CX2 P w) P w K mg base N qual scope f cd A outer s₀ H₀ E) pins σ H s) (he : s.heap.get? e = some oe) (hcl : oe.cls = .ref C) (hda : oe.data = .fields vs) (h1 : vs[1]? = some .none)
  (hs0 : s₀.heap.get? e = none) (hHe : H e = none) (dc : ∀ dx, xo = some dx → oe.dict = some dx) (hc2 : vs[2]? = some .none) (q : E (.ref C) xo H) : (cxOf (CX2 P w) P w K mg base N qual scope f cd A outer s₀ H₀ E).xe (.ref e) s := by
 have ff := I1.stack
 have hl := PySem.W.funFrames_hide (as := e :: frs (cxOf (CX2 P w) P w K mg base N qual scope f cd A outer s₀ H₀ E).stack) ff (stack_in fun b hb => List.mem_cons_of_mem _ hb)
 have fin := wpAny_leaving_first (M := model P w) (E := fun v s' => CX2 P w outer H₀ s₀ E v s') (base := PySem.W.hideAll s.heap (e :: frs (cxOf (CX2 P w) P w K mg base N qual scope f cd A outer s₀ H₀ E).stack)) (L := s₀.heap.objs.size) (e := e) (s := s) (Q := fun _ s' => ∃ h2, s' = { s with heap := h2 } ∧ Heap.Left (PySem.W.hideAll s.heap (e :: frs (cxOf (CX2 P w) P w K mg base N qual scope f cd A outer s₀ H₀ E).stack)) (envOfC qual scope s₀.heap.objs.size f cd :: outer) e oe.cls s.heap h2) I1.ok.frames hl rfl he (fun b o z => PySem.W.of_hideAll _ z) (PySem.W.hideAll_none _ List.mem_cons_self) hda h1 fun h2 lf => ⟨h2, rfl, lf⟩
 refine wpAny_mono (DC.any (dc_leaving _ _) fin ⟨oe, he, rfl⟩) (fun _ s' ⟨⟨h2, e2, lf⟩, hd2⟩ => ?_) fun _ _ z => z
 subst e2
 obtain ⟨st, ff2, tr, up⟩ := lf
 have lf := I1.left (h' := h2) (es := [e]) rfl (fun b hb => by rw [List.mem_singleton.mp hb]; exact ⟨hHe, hs0⟩) (fun b o z nf ne => st b o (PySem.W.hideAll_get _ z (by intro m; rcases List.mem_cons.mp m with r | r; exact ne (by simp [r]); exact nf r)))
  (fun b o z hb => by
   obtain ⟨_, o', z', hd⟩ := ff.mem hb
   rw [z] at z'; cases z'
   exact up b o z hd)
 obtain ⟨oe', ws, T, oT, ts, g1, g2, g3, g4, g5, g6, g7, g8, g9⟩ := tr
 have nT : T ∉ frs (cxOf (CX2 P w) P w K mg base N qual scope f cd A outer s₀ H₀ E).stack := fun z => by
  obtain ⟨_, o, zo, hd⟩ := ff2.mem z
  rw [g7] at zo; cases zo
  exact hd ts g8
 have key : ∀ o, s.heap.get? T = some o → False := fun o z => by
  rw [PySem.W.hideAll_get _ z (by intro m; rcases List.mem_cons.mp m with r | r; exact g6 r; exact nT r)] at g5
  cases g5
 have hT0 : s₀.heap.get? T = none := by
  cases z : s₀.heap.get? T with
  | none => rfl
  | some o => obtain ⟨o', z'⟩ := I1.base.there T o z (by intro q; cases q); exact (key o' z').elim
 have hHT : H T = none := by
  cases z : H T with
  | none => rfl
  | some o => obtain ⟨o', z'⟩ := (I1.hok T o z).get; exact (key o' z').elim
 refine ⟨e, C, xo, H, rfl, I1.os, I1.bare, lf.1, lf.2, ⟨⟨oe', ws, T, oT, ts, g1, g2.trans hcl, g3, g4, hT0, g6, g7, g8, g9⟩, hs0, hHe, fun oe2 vs' T' z1 z2 z3 => ?_, fun dx z => by obtain ⟨o9, y1, y2⟩ := hd2; exact ⟨o9, y1, (congrArg Prod.fst y2).trans (dc dx z)⟩⟩, by obtain ⟨o9, y1, y2⟩ := hd2; exact ⟨o9, y1, (congrArg Prod.snd y2).trans (by unfold ctxOf; rw [hda]; exact hc2)⟩, q⟩
 rw [g1] at z1; cases z1
 rw [g3] at z2; cases z2
 rw [g4] at z3; cases z3
 exact hHT
theorem xe_new2 {h' : Heap} {t' : Nat} {e C : Addr} {vs : List Value} (I : Inv (cxOf (CX2 P w) P w K mg base N qual scope f cd A outer s₀ H₀ E) pins σ H s) (hx : Heap.MadeExcOf s.heap h' e (.ref C) vs) (q : E (.ref C) none H) :
  (cxOf (CX2 P w) P w K mg base N qual scope f cd A outer s₀ H₀ E).xe (.ref e) { s with heap := h', toks := t' } := by
 have I1 := I.kept (t' := t') hx.keeps
 obtain ⟨t, he, ht, _⟩ := hx.there
 have hs0 : s₀.heap.get? e = none := by
  cases z : s₀.heap.get? e with
  | none => rfl
  | some o => obtain ⟨o', z'⟩ := I.base.there e o z (by intro q; cases q); rw [hx.new] at z'; cases z'
 exact xe_made2 I1 he rfl rfl rfl hs0 (I.hok.none_of hx.new) (fun _ z => by cases z) rfl q
theorem pass2 : Passes (CX2 P w) (cxOf (CX2 P w) P w K mg base N qual scope f cd A outer s₀ H₀ E) E := by
  intro pins σ H s x s' I h
  obtain ⟨e, C, xo, H', rfl, os, bare, un, hok, ex, hcx, q⟩ := h
  have J := I.call' (s' := s') (ch := []) os un hok bare (fun b hb => by cases hb)
  obtain ⟨⟨oe, ws, T, oT, ts, g1, g2, g3, g4, g5, g6, g7, g8, g9⟩, ne, hHe, hHT, dc⟩ := ex
  have hHT := hHT oe ws T g1 g3 g4
  have s0 : ∀ {b : Addr}, s.heap.get? b = none → s₀.heap.get? b = none := fun {b} hb => by
    cases z : s₀.heap.get? b with
    | none => rfl
    | some o => obtain ⟨o', z'⟩ := I.base.there b o z (by intro q; cases q); rw [hb] at z'; cases z'
  have ff := J.stack
  have hl := PySem.W.funFrames_hide (as := e :: T :: frs (cxOf (CX2 P w) P w K mg base N qual scope f cd A outer s₀ H₀ E).stack) ff (stack_in fun b hb => List.mem_cons_of_mem _ (List.mem_cons_of_mem _ hb))
  have fin := wpAny_leaving_next (M := model P w) (E := fun v s' => CX2 P w outer H₀ s₀ E v s') (base := PySem.W.hideAll s'.heap (e :: T :: frs (cxOf (CX2 P w) P w K mg base N qual scope f cd A outer s₀ H₀ E).stack)) (L := s₀.heap.objs.size) (e := e) (s := s') (Q := fun _ s2 => ∃ h2, s2 = { s' with heap := h2 } ∧ Heap.Left (PySem.W.hideAll s'.heap (e :: T :: frs (cxOf (CX2 P w) P w K mg base N qual scope f cd A outer s₀ H₀ E).stack)) (envOfC qual scope s₀.heap.objs.size f cd :: outer) e (.ref C) s'.heap h2) J.ok.frames hl rfl
    ⟨oe, ws, T, oT, ts, g1, g2, g3, g4, PySem.W.hideAll_none _ (List.mem_cons_of_mem _ List.mem_cons_self), g6, g7, g8, g9⟩ (fun b o z => PySem.W.of_hideAll _ z) (PySem.W.hideAll_none _ List.mem_cons_self) fun h2 lf => ⟨h2, rfl, lf⟩
  refine wpAny_mono (DC.any (dc_leaving _ _) fin ⟨oe, g1, rfl⟩) (fun _ s2 ⟨⟨h2, e2, lf⟩, hd2⟩ => ?_) fun _ _ z => z
  subst e2
  obtain ⟨st, ff2, tr, up⟩ := lf
  have lf := J.left (h' := h2) (es := [e, T]) rfl (fun b hb => by
      simp only [List.mem_cons, List.not_mem_nil, or_false] at hb
      rcases hb with rfl | rfl
      · exact ⟨hHe, s0 ne⟩
      · exact ⟨hHT, s0 g5⟩) (fun b o z nf ne => st b o (PySem.W.hideAll_get _ z (by
        intro m
        rcases List.mem_cons.mp m with r | m
        · exact ne (by simp [r])
        · rcases List.mem_cons.mp m with r | r
          · exact ne (by simp [r])
          · exact nf r)))
      (fun b o z hb => by
        obtain ⟨_, o', z', hd⟩ := ff.mem hb
        rw [z] at z'; cases z'
        exact up b o z hd)
  obtain ⟨oe2, ws2, T2, oT2, ts2, k1, k2, k3, k4, k5, k6, k7, k8, k9⟩ := tr
  have nT : T2 ∉ frs (cxOf (CX2 P w) P w K mg base N qual scope f cd A outer s₀ H₀ E).stack := fun z => by
    obtain ⟨_, o, zo, hd⟩ := ff2.mem z
    rw [k7] at zo; cases zo
    exact hd ts2 k8
  have hT0 : s₀.heap.get? T2 = none ∧ H' T2 = none := by
    by_cases r : T2 = T
    · subst r; exact ⟨s0 g5, hHT⟩
    · have key : ∀ o, s'.heap.get? T2 = some o → False := fun o z => by
        rw [PySem.W.hideAll_get _ z (by
          intro m
          rcases List.mem_cons.mp m with q | m
          · exact k6 q
          · rcases List.mem_cons.mp m with q | q
            · exact r q
            · exact nT q)] at k5
        cases k5
      constructor
      · cases z : s₀.heap.get? T2 with
        | none => rfl
        | some o => obtain ⟨o', z'⟩ := J.base.there T2 o z (by intro q; cases q); exact (key o' z').elim
      · cases z : H' T2 with
        | none => rfl
        | some o => obtain ⟨o', z'⟩ := (J.hok T2 o z).get; exact (key o' z').elim
  refine ⟨e, C, xo, H', rfl, J.os, J.bare, lf.1, lf.2, ⟨⟨oe2, ws2, T2, oT2, ts2, k1, k2, k3, k4, hT0.1, k6, k7, k8, k9⟩, s0 ne, hHe, fun oe' vs' T' z1 z2 z3 => ?_, fun dx z => by
      obtain ⟨o, y1, y2⟩ := dc dx z
      rw [g1] at y1; cases y1
      obtain ⟨o9, y3, y4⟩ := hd2
      exact ⟨o9, y3, (congrArg Prod.fst y4).trans y2⟩⟩, by
      obtain ⟨o, y1, y2⟩ := hcx
      rw [g1] at y1; cases y1
      obtain ⟨o9, y3, y4⟩ := hd2
      exact ⟨o9, y3, (congrArg Prod.snd y4).trans y2⟩, q⟩
  rw [k1] at z1; cases z1
  rw [k3] at z2; cases z2
  rw [k4] at z3; cases z3
  exact hT0.2
end
def XT2 (X : Cx) (pins : List (Addr × Obj)) (ET : St → XK) : Value → Shared → Prop := fun x s' => ∃ (σ : St) (e C : Addr) (xo : Option Addr) (H' : Hp), x = .ref e ∧ Inv X pins σ H' s' ∧ Exc X.s₀.heap s'.heap H' e C xo ∧
 (∀ p ∈ X.pn ++ pins, p.1 ≠ e ∧ ∀ oe vs T, s'.heap.get? e = some oe → oe.data = .fields vs → vs[1]? = some (.ref T) → p.1 ≠ T) ∧ HasC e (some .none) s'.heap ∧ ET σ (.ref C) xo H'
theorem passT2 {X : Cx} {pins : List (Addr × Obj)} {ET : St → XK} (hx : X.ex = [] := by rfl) : PassesS (CX2 X.prog X.w) (X.tryIn pins (XT2 X pins ET)) ET := by
 intro pins' σ H s x s' I h
 obtain ⟨e, C, xo, H', rfl, os, bare, un, hok, ex, hcx, q⟩ := h
 have J := I.call' (s' := s') (ch := []) os un hok bare (fun b hb => by cases hb)
 obtain ⟨⟨oe, ws, T, oT, ts, g1, g2, g3, g4, g5, g6, g7, g8, g9⟩, ne, hHe, hHT, dc⟩ := ex
 have s0 : ∀ {b : Addr}, s.heap.get? b = none → X.s₀.heap.get? b = none := fun {b} hb => by
  cases z : X.s₀.heap.get? b with
  | none => rfl
  | some o => obtain ⟨o', z'⟩ := I.base.there b o z (by show b ∉ X.ex; rw [hx]; simp); rw [hb] at z'; cases z'
 refine ⟨σ, e, C, xo, H', rfl, J.tryOut, ⟨⟨oe, ws, T, oT, ts, g1, g2, g3, g4, s0 g5, g6, g7, g8, g9⟩, s0 ne, hHe, hHT, dc⟩, fun p hp => ?_, hcx, q⟩
 have hp' := (I.pin p (List.mem_append_left _ hp)).1
 refine ⟨fun z => (by rw [z, ne] at hp'; cases hp'), fun oe' vs' T' z1 z2 z3 z => ?_⟩
 rw [g1] at z1; cases z1
 rw [g3] at z2; cases z2
 rw [g4] at z3; cases z3
 rw [z, g5] at hp'
 cases hp'
section
variable {P : Program} {w : World} {K : PySem.W.Frag} {mg : Str → Option Value} {base : Heap}
theorem Fun.ok2 {x qual : Str} {st : Stmt} {f : Addr} {fd : FuncData} {N ps : List Str} {k : Nat} {sp : Sp} (F : Fun K x qual st f fd) (S : FnScope N ps (defScope st)) (len : ∀ vs H Q E, sp vs H Q E → vs.length = ps.length)
  (hbody : ∀ (cdv : Value) (A : Around) (outer : List Env) (s : Shared) (H : Hp) (vs : List V) (Q : VK) (E : XK), Room k (A.deeper (envOfC qual (defScope st) s.heap.objs.size f cdv)) → sp vs H Q E →
   ∃ t, PSs (cxOf (CX2 P w) P w K mg base N qual (defScope st) f cdv A outer s H E) (defBody st) t ∧ t { nx := fun _ H' => Q .non H', rt := Q } (start N vs) H) : FnOk P w K mg base (CX2 P w) (k + 1) f fd ps sp := by
 obtain ⟨oc, od, kV, doc, pm, an, cdv, ct, osl, rfl, lk, hcd⟩ := F.ex
 exact fn_of lk hcd S len fun A outer s H vs Q E hr hsp => hbody cdv A outer s H vs Q E hr hsp
theorem FnOk.up2 {k : Nat} {f : Addr} {fd : FuncData} {ps : List Str} {sp : Sp} (F : FnOk P w K mg base CX0 k f fd ps sp) : FnOk P w K mg base (CX2 P w) k f fd ps sp :=
 ⟨F.len, fun A outer s H args us vs Q E hr e0 hb hv hs => codeAny_mono (F.run A outer s H args us vs Q E hr e0 hb hv hs) fun r s' h => by
  cases r with
  | error e => exact False.elim h
  | ok fl => cases fl <;> exact h⟩
theorem FnOk.one {k : Nat} {f : Addr} {fd : FuncData} {ps : List Str} {sp : Sp} (F : FnOk P w K mg base (CX2 P w) k f fd ps sp) : FnOk P w K mg base (CX1 P w) k f fd ps sp :=
 ⟨F.len, fun A outer s H args us vs Q E hr e0 hb hv hs => codeAny_mono (F.run A outer s H args us vs Q E hr e0 hb hv hs) fun r s' h => by
  cases r with
  | error e => obtain ⟨e, C, xo, H', h1, h2, h3, h4, h5, h6, _, h7⟩ := h; exact ⟨e, C, xo, H', h1, h2, h3, h4, h5, h6, h7⟩
  | ok fl => cases fl <;> exact h⟩
end
end L2
set_option Elab.async false
set_option linter.all false
set_option maxRecDepth 100000
set_option maxHeartbeats 4000000
namespace L2
open PySem PySem.Spec PyProof.Rows
theorem del_upd {H : Hp} {e : Addr} {o : HO} (h : H e = none) : del (upd H e o) e = H := by
 funext b
 unfold del upd
 by_cases q : b = e
 ·rw [if_pos q, q, h]
 ·rw [if_neg q, if_neg q]
section
variable {P : Program} {w : World} {K : PySem.W.Frag} {mg : Str → Option Value} {base : Heap} {N : List Str} {qual : Str} {scope : Scope} {f : Addr} {cd : Value} {A : Around} {outer : List Env} {s₀ : Shared} {H₀ : Hp} {E : XK} {pins : List (Addr × Obj)} {σ : St} {H : Hp} {s : Shared}
theorem xe_held {e T C : Addr} {oe oT : Obj} {ws ts : Array Value} (I : Inv (cxOf (CX1 P w) P w K mg base N qual scope f cd A outer s₀ H₀ E) pins σ H s) (he : s.heap.get? e = some oe) (hcl : oe.cls = .ref C) (hda : oe.data = .fields ws) (h1 : ws[1]? = some (.ref T)) (hTe : T ≠ e)
    (hT : s.heap.get? T = some oT) (hdT : oT.data = .fields ts) (h3 : ts[3]? = some (rawInt s₀.heap.objs.size)) (hs0 : s₀.heap.get? e = none) (hT0 : s₀.heap.get? T = none) (hHe : H e = none) (hHT : H T = none) (q : E (.ref C) none H) :
    (cxOf (CX1 P w) P w K mg base N qual scope f cd A outer s₀ H₀ E).xe (.ref e) s := by
  have ff := I.stack
  have hl := PySem.W.funFrames_hide (as := e :: T :: frs (cxOf (CX1 P w) P w K mg base N qual scope f cd A outer s₀ H₀ E).stack) ff (stack_in fun b hb => List.mem_cons_of_mem _ (List.mem_cons_of_mem _ hb))
  obtain ⟨a0, h0⟩ : ∃ a0, ws[0]? = some a0 := by
    have hsz : 1 < ws.size := (Array.getElem?_eq_some_iff.mp h1).1
    exact ⟨ws[0], by simp [show 0 < ws.size by omega]⟩
  have held : Heap.HeldW (PySem.W.hideAll s.heap (e :: T :: frs (cxOf (CX1 P w) P w K mg base N qual scope f cd A outer s₀ H₀ E).stack)) (envOfC qual scope s₀.heap.objs.size f cd :: outer) e (.ref C) a0 s₀.heap.objs.size s.heap :=
    ⟨fun b o z => PySem.W.of_hideAll _ z, PySem.W.hideAll_none _ List.mem_cons_self, hl, ⟨oe, ws, T, oT, ts, he, ⟨hcl, h0⟩, hda, h1, PySem.W.hideAll_none _ (List.mem_cons_of_mem _ List.mem_cons_self), hTe, hT, hdT, h3⟩⟩
  show wpAny (model P w) _ (leaving (envOfC qual scope s₀.heap.objs.size f cd) (.ref e)) (fun _ s'' => CX1 P w outer H₀ s₀ E (.ref e) s'') (fun e' s'' => CX1 P w outer H₀ s₀ E e' s'') s
  unfold leaving
  refine wpAny_bind (wpAny_noteFrame_againW (L := s₀.heap.objs.size) rfl held.2.2.2 ?_)
  refine wpAny_landsW held fun h2 fl up => ?_
  obtain ⟨st, _, ff2, tr⟩ := fl
  have lf := I.left (h' := h2) (es := [e, T]) rfl (fun b hb => by
      simp only [List.mem_cons, List.not_mem_nil, or_false] at hb
      rcases hb with rfl | rfl
      · exact ⟨hHe, hs0⟩
      · exact ⟨hHT, hT0⟩) (fun b o z nf ne => st b o (PySem.W.hideAll_get _ z (by
        intro m
        rcases List.mem_cons.mp m with r | m
        · exact ne (by simp [r])
        · rcases List.mem_cons.mp m with r | r
          · exact ne (by simp [r])
          · exact nf r)))
      (fun b o z hb => by
        obtain ⟨_, o', z', hd⟩ := ff.mem hb
        rw [z] at z'; cases z'
        exact up b o z hd)
  obtain ⟨oe2, ws2, T2, oT2, ts2, k1, k2, k3, k4, k5, k6, k7, k8, k9⟩ := tr
  have nT : T2 ∉ frs (cxOf (CX1 P w) P w K mg base N qual scope f cd A outer s₀ H₀ E).stack := fun z => by
    obtain ⟨_, o, zo, hd⟩ := ff2.mem z
    rw [k7] at zo; cases zo
    exact hd ts2 k8
  have hT2 : s₀.heap.get? T2 = none ∧ H T2 = none := by
    by_cases r : T2 = T
    · subst r; exact ⟨hT0, hHT⟩
    · have key : ∀ o, s.heap.get? T2 = some o → False := fun o z => by
        rw [PySem.W.hideAll_get _ z (by
          intro m
          rcases List.mem_cons.mp m with q | m
          · exact k6 q
          · rcases List.mem_cons.mp m with q | q
            · exact r q
            · exact nT q)] at k5
        cases k5
      constructor
      · cases z : s₀.heap.get? T2 with
        | none => rfl
        | some o => obtain ⟨o', z'⟩ := I.base.there T2 o z (by intro q; cases q); exact (key o' z').elim
      · cases z : H T2 with
        | none => rfl
        | some o => obtain ⟨o', z'⟩ := (I.hok T2 o z).get; exact (key o' z').elim
  refine ⟨e, C, none, H, rfl, I.os, I.bare, lf.1, lf.2, ⟨⟨oe2, ws2, T2, oT2, ts2, k1, k2.1, k3, k4, hT2.1, k6, k7, k8, k9⟩, hs0, hHe, fun oe' vs' T' z1 z2 z3 => ?_, fun dx z => by cases z⟩, q⟩
  rw [k1] at z1; cases z1
  rw [k3] at z2; cases z2
  rw [k4] at z3; cases z3
  exact hT2.2
end
section
variable {M : Model} {A : Around} {E : Value → Shared → Prop} {s : Shared}
theorem setFl {e T L : Addr} {oe oT : Obj} {ws ts : Array Value} {Q : Unit → Shared → Prop} (he : s.heap.get? e = some oe) (hda : oe.data = .fields ws) (h1 : ws[1]? = some (.ref T)) (hT : s.heap.get? T = some oT) (hdT : oT.data = .fields ts) (hz : 3 < ts.size)
  (h : Q () { s with heap := s.heap.update T (Obj.mapFields (·.setIfInBounds 3 (rawInt L))) }) : wpAny M A (setFlight (.ref e) (some L)) Q E s := by
 unfold setFlight
 refine wpAny_bind (wpAny_field he hda h1 ?_)
 rw [if_pos (show (Value.ref T != Value.none) = true from by simp)]
 exact wpAny_setField hT hdT hz h
end
def C2At (e C : Addr) (h : Heap) : Prop := ∃ o vs, h.get? e = some o ∧ o.cls = .ref C ∧ o.data = .fields vs ∧ vs[2]? = some .none
def tTryR (K : PySem.W.Frag) (S C2 : Addr) (bm : List Value) (nid : String) (E : XK) (tb : (St → XK) → TS) : TS := fun D σ H => tb (fun _ cls xo H1 => ∃ C, cls = .ref C ∧ PySem.W.exmOne K (.ref C) (.ref S) = some true ∧ PySem.W.excIn K C bm nid = true ∧ E (.ref C2) none H1) D σ H
theorem rd_tryR {K : PySem.W.Frag} {S C2 : Addr} {bm : List Value} {nid : String} {E : XK} {tb : (St → XK) → TS} {D : Ends} {σ : St} {H : Hp} (h : tb (fun _ cls xo H1 => ∃ C, cls = .ref C ∧ PySem.W.exmOne K (.ref C) (.ref S) = some true ∧ PySem.W.excIn K C bm nid = true ∧ E (.ref C2) none H1) D σ H) : tTryR K S C2 bm nid E tb D σ H := h
theorem xco_of {K : PySem.W.Frag} {h base : Heap} {mg : Str → Option Value} {x : Str} {C : Addr} {bm : List Value} {B nid iid : String} (FB : ExcBaseFacts B nid iid bm) (X : K.In base) (q : PySem.W.excIn K C bm nid = true) (bk : ∀ b o, base.get? b = some o → h.get? b = some o) : XcO C h := by
 obtain ⟨tl, N, nm, q, bs, hdct, sn, sub, ab, col, dd, k0, k1, k2, k3, k5, mN, hC, hN, hni, T⟩ := (own_of (mg := fun _ => some (.ref C)) (x := "x") X rfl q).obj
 exact ⟨nm, q, N, bs, tl, hdct, sn, sub, ab, col, dd, k0, k1, k2, k3, k5, nid, bk _ _ hC, T.hasType FB.hasBase⟩
theorem suite_raised {X : Cx} {A' : Around} {pins : List (Addr × Obj)} {σ : St} {H : Hp} {s : Shared} {i : Nat} {n : Str} {hpos : Pos} {E : XK} {e C : Addr} {oe : Obj} {ws : Array Value} (hA : A'.frames = some X.stack) (hN : X.N.Nodup) (hi : X.N[i]? = some n) (hk : X.env.kindOf n = some .local) (hex : X.ex = []) (hs : X.stack = X.env :: X.outer) (hf : X.env.frame = some X.env.locals)
  (hx : ∀ (pins : List (Addr × Obj)) (σ : St) (H : Hp) (s : Shared) (e T : Addr) (oe oT : Obj) (ws ts : Array Value), Inv X pins σ H s → s.heap.get? e = some oe → oe.cls = .ref C → oe.data = .fields ws → ws[1]? = some (.ref T) → T ≠ e → s.heap.get? T = some oT → oT.data = .fields ts → ts[3]? = some (rawInt X.env.locals) → X.s₀.heap.get? e = none → X.s₀.heap.get? T = none → H e = none → H T = none → E (.ref C) none H → X.xe (.ref e) s)
  (I : Inv X pins σ H s) (he : s.heap.get? e = some oe) (hcl : oe.cls = .ref C) (hda : oe.data = .fields ws) (h1 : ws[1]? = some .none) (hs0 : X.s₀.heap.get? e = none) (hHe : H e = none) (hpe : ∀ p ∈ X.pn ++ pins, p.1 ≠ e) (k : E (.ref C) none H) :
  wpAny (model X.prog X.w) A' (noteFrame (.ref e) X.env) (fun _ s3 => wpAny (model X.prog X.w) A' (do bindName X.env n .none; unbindBehindTheSuite X.env n hpos)
   (fun _ s4 => wpAny (model X.prog X.w) A' (passOn "try.except-as" (.ref e) X.env : Sem Flow) (fun _ _ => False) (notedBy (model X.prog X.w) A' X.env (cameBackBy (model X.prog X.w) X.A X.env X.xe)) s4)
   (fun y s4 => wpAny (model X.prog X.w) A' (setFlight (.ref e) none) (fun _ s5 => (notedBy (model X.prog X.w) A' X.env (cameBackBy (model X.prog X.w) X.A X.env X.xe)) y s5) (notedBy (model X.prog X.w) A' X.env (cameBackBy (model X.prog X.w) X.A X.env X.xe)) s4) s3) (notedBy (model X.prog X.w) A' X.env (cameBackBy (model X.prog X.w) X.A X.env X.xe)) s := by
 have ff := I.stack
 have hl := PySem.W.funFrames_hide (as := e :: frs X.stack) ff (stack_in fun b hb => List.mem_cons_of_mem _ hb)
 obtain ⟨a0, h0⟩ : ∃ a0, ws[0]? = some a0 := by
  have hsz : 1 < ws.size := (Array.getElem?_eq_some_iff.mp h1).1
  exact ⟨ws[0], by simp [show 0 < ws.size by omega]⟩
 unfold noteFrame
 simp only [hf]
 refine wpAny_bind (wpAny_field he hda h1 ?_)
 rw [if_neg (by decide)]
 refine wpAny_entryW (base := PySem.W.hideAll s.heap (e :: frs X.stack)) (outer := X.outer) (a0 := a0) (hA.trans (congrArg some hs)) (hs ▸ hl) hf he (fun b o z => PySem.W.of_hideAll _ z) (PySem.W.hideAll_none _ List.mem_cons_self) hda (Array.getElem?_eq_some_iff.mp h1).1 h0 fun h2 nt => ?_
 obtain ⟨st, ff2, tr, up⟩ := nt
 have I2 : Inv X pins σ H { s with heap := h2 } := by
  refine I.held (es := [e]) hs hf (fun b hb => ?_) (fun b o z nf nm => st b o (PySem.W.hideAll_get _ z ?_)) fun b o z hb => ?_
  ·rw [List.mem_singleton.mp hb]; exact ⟨hHe, hs0, hpe, oe, ws, he, hda⟩
  ·intro m
   rcases List.mem_cons.mp m with r | r
   ·exact nm (by simp [r])
   ·exact nf r
  ·obtain ⟨_, o', z', hd'⟩ := ff.mem hb
   rw [z] at z'; cases z'
   exact up b o z hd'
 obtain ⟨oe2, ws2, T, oT, ts, k1, k2, k3, k4, k5, k6, k7, k8, k9⟩ := tr
 have nT : T ∉ frs X.stack := fun z => by
  rw [hs] at z
  obtain ⟨_, o, zo, hd⟩ := ff2.mem z
  rw [k7] at zo; cases zo
  exact hd ts k8
 have key : ∀ o, s.heap.get? T = some o → False := fun o z => by
  rw [PySem.W.hideAll_get _ z (by intro m; rcases List.mem_cons.mp m with r | r; exact k6 r; exact nT r)] at k5
  cases k5
 have hT0 : X.s₀.heap.get? T = none := by
  cases z : X.s₀.heap.get? T with
  | none => rfl
  | some o => obtain ⟨o', z'⟩ := I.base.there T o z (by rw [hex]; intro q; cases q); exact (key o' z').elim
 have hHT : H T = none := by
  cases z : H T with
  | none => rfl
  | some o => obtain ⟨o', z'⟩ := (I.hok T o z).get; exact (key o' z').elim
 have hpT : ∀ p ∈ X.pn ++ pins, p.1 ≠ T := fun p hq z => key p.2 (z ▸ (I.pin p hq).1)
 have I3 : Inv X pins σ (upd (upd H e (.ext fun h => h.get? e = some oe2)) T (.ext fun h => h.get? T = some oT)) { s with heap := h2 } := by
  refine (I2.track hHe hs0 hpe ⟨oe2, ws2, k1, k3⟩ k1 fun _ _ z kk => kk _ z).track (by rw [upd_ne k6]; exact hHT) hT0 hpT ⟨oT, ts, k7, k8⟩ k7 fun _ _ z kk => kk _ z
 refine gone_ok I3 hN hi hk fun s4 I4 => ?_
 have z1 : s4.heap.get? e = some oe2 := (show ObjOk X.prog X.w _ s4.heap e (.ext fun h => h.get? e = some oe2) from I4.hok e _ (by rw [upd_ne (Ne.symm k6), upd_same])).1
 have z2 : s4.heap.get? T = some oT := (show ObjOk X.prog X.w _ s4.heap T (.ext fun h => h.get? T = some oT) from I4.hok T _ upd_same).1
 have I5 : Inv X pins (σ.set i none) H s4 := by
  have J := I4.untrack upd_same
  rw [del_upd (by rw [upd_ne k6]; exact hHT)] at J
  have J := J.untrack upd_same
  rw [del_upd hHe] at J
  exact J
 have z3 : 3 < ts.size := (Array.getElem?_eq_some_iff.mp k9).1
 unfold PySem.passOn
 refine wpAny_bind (wpAny_field z1 k3 k4 ?_)
 rw [if_neg (show ¬ ((Value.ref T == Value.none) = true) by simp), hf]
 refine wpAny_bind (setFl (L := X.env.locals) z1 k3 k4 z2 k8 z3 (wpAny_throw ?_))
 have gT : ∀ (hp : Heap) (o : Obj) (vs : Array Value), hp.get? T = some o → o.data = .fields vs → 3 < vs.size → ∃ o' vs', (hp.update T (Obj.mapFields (·.setIfInBounds 3 (rawInt X.env.locals)))).get? T = some o' ∧ o'.data = .fields vs' ∧ vs'[3]? = some (rawInt X.env.locals) ∧ 3 < vs'.size := fun hp o vs y1 y2 y3 =>
  ⟨_, _, Heap.get?_update_self _ y1 (Obj.isFreed_of_fields (Obj.data_mapFields y2 _)), Obj.data_mapFields y2 _, by simp [y3], by simpa using y3⟩
 have ot : ∀ (hp : Heap) (b : Addr), b ≠ T → (hp.update T (Obj.mapFields (·.setIfInBounds 3 (rawInt X.env.locals)))).get? b = hp.get? b := fun hp b z => Heap.get?_update_other _ _ (Ne.symm z)
 obtain ⟨oT3, ts3, y1, y2, y3, y4⟩ := gT _ _ _ z2 k8 z3
 have y0 := (ot s4.heap e (Ne.symm k6)).trans z1
 unfold notedBy
 refine wpAny_noteFrame_againW (base := PySem.W.hideAll s4.heap [T]) (a0 := a0) (cls := oe.cls) hf ⟨oe2, ws2, T, oT3, ts3, y0, k2, k3, k4, PySem.W.hideAll_none _ List.mem_cons_self, k6, y1, y2, y3⟩ ?_
 unfold cameBackBy
 refine wpAny_bind (wpAny_field y0 k3 k4 ?_)
 rw [if_neg (show ¬ ((Value.ref T == Value.none) = true) by simp), hf]
 refine setFl (L := X.env.locals) y0 k3 k4 y1 y2 y4 ?_
 obtain ⟨oT4, ts4, x1, x2, x3, x4⟩ := gT _ _ _ y1 y2 y4
 have x0 := (ot _ e (Ne.symm k6)).trans y0
 refine hx pins (σ.set i none) H _ e T oe2 oT4 ws2 ts4 ?_ x0 (k2.1.trans hcl) k3 k4 k6 x1 x2 x3 hs0 hT0 hHe hHT k
 show Inv X pins (σ.set i none) H { s4 with heap := (s4.heap.update T (Obj.mapFields (·.setIfInBounds 3 (rawInt X.env.locals)))).update T (Obj.mapFields (·.setIfInBounds 3 (rawInt X.env.locals))) }
 refine Inv.held (s := s4) (es := [T]) I5 hs hf (fun b hb => ?_) (fun b o z nf nm => ?_) fun b o z hb => ?_
 ·rw [List.mem_singleton.mp hb]; exact ⟨hHT, hT0, hpT, oT, ts, z2, k8⟩
 ·have nb : b ≠ T := fun q => nm (by simp [q])
  rw [ot _ _ nb, ot _ _ nb]; exact z
 ·have nb : b ≠ T := fun q => nT (q ▸ hb)
  exact ⟨o.slots, by rw [ot _ _ nb, ot _ _ nb]; exact z⟩
theorem ps_tryR {X : Cx} {i : Nat} {n x x2 : Str} {S C2 : Addr} {body : List Stmt} {a : Expr} {as : List Expr} {np np2 np3 hpos cpos rpos pos : Pos} {tb : (St → XK) → TS} {t : TA} {E : XK} {bm bm2 : List Value} {B nid iid B2 nid2 iid2 : String} (hN : X.N.Nodup) (hi : X.N[i]? = some n) (hk : X.env.kindOf n = some .local)
    (hg : Gl X x) (hm : X.mg x = some (.ref S)) (hb : ∀ pins ET, PSs (X.tryIn pins (XT2 X pins ET)) body (tb ET))
    (hg2 : Gl X x2) (hm2 : X.mg x2 = some (.ref C2)) (q2 : PySem.W.excIn X.K C2 bm2 nid2 = true) (FB2 : ExcBaseFacts B2 nid2 iid2 bm2) (FB : ExcBaseFacts B nid iid bm) (ha : ∀ e, PA (X.suite e) (a :: as) t) (ht : ∀ σ H (Q : List V → Hp → Prop), (∀ v, Q [v] H) → t σ H Q)
    (hx : ∀ (pins : List (Addr × Obj)) (σ : St) (H : Hp) (s : Shared) (e T : Addr) (oe oT : Obj) (ws ts : Array Value), Inv X pins σ H s → s.heap.get? e = some oe → oe.cls = .ref C2 → oe.data = .fields ws → ws[1]? = some (.ref T) → T ≠ e → s.heap.get? T = some oT → oT.data = .fields ts → ts[3]? = some (rawInt X.env.locals) → X.s₀.heap.get? e = none → X.s₀.heap.get? T = none → H e = none → H T = none → E (.ref C2) none H → X.xe (.ref e) s)
    (hex : X.ex = [] := by rfl) (hs : X.stack = X.env :: X.outer := by rfl) (hf : X.env.frame = some X.env.locals := by rfl) (hd : (x == ("__debug__" : Str)) = false := by decide) (hd2 : (x2 == ("__debug__" : Str)) = false := by decide)
    (hdn : (n == ("__debug__" : Str)) = false := by decide) (hcn : (n == ("__classdict__" : Str)) = false := by decide)
    (he : starEach (a :: as) X.env = (false, eval a X.env) :: starEach as X.env := by rfl) (hpl : (backTo cpos (starEach as X.env)).any (·.1) = false := by rfl) :
    PS X (.Try body [.ExceptHandler (some (.Name x np)) (some n) [.Raise (some (.Call (.Name x2 np2) (a :: as) [] cpos)) (some (.Name n np3)) rpos] hpos] [] [] pos) (tTryR X.K S C2 bm nid E tb) := by
  intro pins s σ H D I h
  refine wpAny_Try_except (wpAny_mono (hb pins _ [] s σ H D (I.tryIn _) h) (fun f s1 q => ?_) (fun y s1 q => ?_))
  · have q := q.tryOut
    cases f with
    | next =>
      obtain ⟨σ', H', I', q'⟩ := q
      exact pss_nil pins s1 σ' H' D I' q'
    | brk => exact q
    | cont => exact q
    | ret u => exact q
  · obtain ⟨σ1, e, C, xo, H1, rfl, I1, ex, hp, hcx, C', hC, hx', qC, k⟩ := q
    cases hC
    obtain ⟨⟨oe, ws, T, oT, tl, g1, g2, g3, g4, g5, g6, g7, g8, g9⟩, ne, hHe, hHT, dc⟩ := ex
    have hHT := hHT oe ws T g1 g3 g4
    obtain ⟨a0, h0⟩ : ∃ a0, ws[0]? = some a0 := by
      have hsz : 1 < ws.size := (Array.getElem?_eq_some_iff.mp g4).1
      exact ⟨ws[0], by simp [show 0 < ws.size by omega]⟩
    have ff := I1.stack
    have hl := PySem.W.funFrames_hide (as := e :: T :: frs X.stack) ff (stack_in fun b hb => List.mem_cons_of_mem _ (List.mem_cons_of_mem _ hb))
    have fl : Heap.FlyingW (PySem.W.hideAll s1.heap (e :: T :: frs X.stack)) (X.env :: X.outer) e (.ref C) a0 s1.heap :=
      ⟨fun b o z => PySem.W.of_hideAll _ z, PySem.W.hideAll_none _ List.mem_cons_self, hs ▸ hl, ⟨oe, ws, T, oT, tl, g1, ⟨g2, h0⟩, g3, g4, PySem.W.hideAll_none _ (List.mem_cons_of_mem _ List.mem_cons_self), g6, g7, g8, g9⟩⟩
    have stay : ∀ h', Heap.StaysIn (PySem.W.hideAll s1.heap (e :: T :: frs X.stack)) h' → s1.heap.UpToSlots h' → Inv X pins σ1 H1 { s1 with heap := h' } := fun h' st sm => by
      refine I1.held (es := [e, T]) hs hf (fun b hb => ?_) (fun b o z nf nm => st b o (PySem.W.hideAll_get _ z ?_)) fun b o z hb => ?_
      · simp only [List.mem_cons, List.not_mem_nil, or_false] at hb
        rcases hb with rfl | rfl
        · exact ⟨hHe, ne, fun p hq => (hp p hq).1, oe, ws, g1, g3⟩
        · exact ⟨hHT, g5, fun p hq => (hp p hq).2 oe ws _ g1 g3 g4, oT, tl, g7, g8⟩
      · intro m
        rcases List.mem_cons.mp m with r | m
        · exact nm (by simp [r])
        · rcases List.mem_cons.mp m with r | r
          · exact nm (by simp [r])
          · exact nf r
      · obtain ⟨_, o', z', hd'⟩ := ff.mem hb
        rw [z] at z'; cases z'
        exact sm b o z hd'
    refine wpAny_mono (DC.any (dc_noteFrame _ _) (wpAny_looks_onW (Q := fun _ s2 => ∃ h4, s2 = { s1 with heap := h4 } ∧ Heap.HeldW (PySem.W.hideAll s1.heap (e :: T :: frs X.stack)) (X.env :: X.outer) e (.ref C) a0 X.env.locals h4 ∧ s1.heap.UpToSlots h4) (I1.ok.frames.trans (congrArg some hs)) hf fl fun h4 held sm4 => ⟨h4, rfl, held, sm4⟩) ⟨oe, g1, rfl⟩) (fun _ s2 ⟨⟨h4, e4, held, sm4⟩, d4⟩ => ?_) fun _ _ z => z
    subst e4
    refine wpAny_mono (DC.any (dc_setFlight _ _) (wpAny_landsW (s := { s1 with heap := h4 }) (Q := fun _ s2 => ∃ h5, s2 = { s1 with heap := h5 } ∧ Heap.FlyingW (PySem.W.hideAll s1.heap (e :: T :: frs X.stack)) (X.env :: X.outer) e (.ref C) a0 h5 ∧ h4.UpToSlots h5) held fun h5 fl5 sm5 => ⟨h5, rfl, fl5, sm5⟩) d4) (fun _ s2 ⟨⟨h5, e5, fl5, sm5⟩, d5⟩ => ?_) fun _ _ z => z
    subst e5
    have I5 := stay h5 fl5.1 (sm4.trans sm5)
    refine wpAny_handleBy_cons (codeAny_handlers_test (ld_glob (X := X.suite e) I5.suite hg hm ?_ hd)) (by intro q; cases q)
    have LT : PySem.W.Looks (model X.prog X.w) h5 (typeOf (.ref e)) (.ref C) := ExcAt.looks fl5.there
    refine (PySem.W.exm_one (h := h5) I5.kIn LT hx').here ?_
    refine codeAny_handlers_suite_as ?_
    refine wpAny_mono (DC.any (dc_setFlight _ _) (lands_againW (s := { s1 with heap := h5 }) (Q := fun _ s2 => ∃ h6, s2 = { s1 with heap := h6 } ∧ Heap.FlyingW (PySem.W.hideAll s1.heap (e :: T :: frs X.stack)) (X.env :: X.outer) e (.ref C) a0 h6 ∧ h5.UpToSlots h6) fl5 fun h6 fl6 sm6 => ⟨h6, rfl, fl6, sm6⟩) d5) (fun _ s2 ⟨⟨h6, e6, fl6, sm6⟩, d6⟩ => ?_) fun _ _ z => z
    subst e6
    have I6 := stay h6 fl6.1 ((sm4.trans sm5).trans sm6)
    obtain ⟨oe6, ws6, z1, z2, z3, _⟩ := fl6.first
    have c6 : ws6[2]? = some .none := by
      obtain ⟨o, y1, y2⟩ := hcx
      rw [g1] at y1; cases y1
      obtain ⟨o, y3, y4⟩ := d6
      rw [show ({ s1 with heap := h6 } : Shared).heap = h6 from rfl, z1] at y3; cases y3
      have := (congrArg Prod.snd y4).trans y2
      unfold ctxOf at this
      rw [z3] at this
      exact this
    have I7 : Inv X pins σ1 (upd H1 e (.ext (C2At e C))) { s1 with heap := h6 } := I6.track hHe ne (fun p hq => (hp p hq).1) ⟨oe6, ws6, z1, z3⟩ ⟨oe6, ws6, z1, z2, z3, c6⟩ fun ha hb ⟨o, vs, p1, p2⟩ kk => ⟨o, vs, kk o p1, p2⟩
    refine store_ok (X := X.suite e) (v := .ref e) I7.suite hN hi (.inl hk) rfl (fun s8 I8 => ?_) (.inr hk)
    refine wpAny_execs_cons ?_
    rw [arm_exec_Raise]
    refine wpAny_bind (wpAny_standAt (raise_from (env := X.env) (e1 := e) (C1 := C) (C2 := C2) rfl ?_))
    obtain ⟨tl2, N2, nm2, qn2, bs2, hdct2, sn2, sub2, ab2, col2, dd2, k02, k12, k22, k32, k52, mN2, hC2, hN2, hni2, T2⟩ := (own_of I.ok.mod.kin hm2 q2).obj
    refine wpAny_bind (wpAny_mono (wpAny_Call_ofName (ld_glob (X := X.suite e) I8 hg2 hm2 ?_ hd2)) (fun v s3 h3 => wpAny_bind (wpAny_standAt (wpAny_pure h3))) fun _ _ z => z)
    have h1 := ha e cpos pins s8 _ _ (fun vs H2 => vs.length ≤ sizeLine ∧ H2 = upd H1 e (.ext (C2At e C))) I8 (ht _ _ _ fun v => ⟨by show 1 ≤ sizeLine; decide, rfl⟩)
    have he' : starEach (a :: as) (X.suite e).env = (false, eval a (X.suite e).env) :: starEach as (X.suite e).env := he
    rw [he'] at h1
    rw [he]
    unfold callWith
    refine wpAny_bind (wpAny_holding (wpAny_mono (show wpAny _ _ _ (fun (ar : Args) (s2 : Shared) => ar.kw = [] ∧ ar.pos.length ≤ sizeLine ∧ Inv (X.suite e) pins (σ1.set i (some (.ref e))) (upd H1 e (.ext (C2At e C))) s2) _ _ from Calls.evalArgs_plain (wpAny_mono h1 (fun us s2 ⟨vs, H2, I2, r2, hl2, hH2⟩ => ⟨rfl, by show us.length ≤ sizeLine; rw [← r2.length]; exact hl2, hH2 ▸ I2⟩) fun _ _ y => False.elim y)) (fun ar s2 h2 => wpAny_bind (wpAny_standAt ?_)) fun _ _ x => x))
    obtain ⟨apos, akw⟩ := ar
    obtain ⟨hkw, hlen, I2⟩ := h2
    obtain rfl : akw = [] := hkw
    have hCh := I2.bk _ _ hC2
    have hNh := hN2.keeps I2.bk
    have hTh := T2.keeps I2.bk
    have plainB : (backTo cpos ((false, eval a X.env) :: starEach as X.env)).any (·.1) = false := by show (false || (backTo cpos (starEach as X.env)).any (·.1)) = false; rw [hpl]; rfl
    obtain ⟨hp2, gn2, dr2, tk2, os2⟩ := s2
    simp only [plainB]
    refine wpAny_bind (wpAny_keeperOf_exc hCh ?_)
    refine wpAny_bind (wpAny_call_exc_subT (hrest := hlen) FB2 hTh hCh hNh hni2 fun h' e2 mk => wpAny_bind (wpAny_holding (wpAny_point (wpAny_pure ?_))))
    obtain ⟨t2, ge2, _, _⟩ := mk.there
    have hHe2 : upd H1 e (.ext (C2At e C)) e2 = none := I2.hok.none_of mk.new
    have n2e : e2 ≠ e := fun z => by rw [z, upd_same] at hHe2; cases hHe2
    have hH12 : H1 e2 = none := by rw [upd_ne n2e] at hHe2; exact hHe2
    have n0 : X.s₀.heap.get? e2 = none := by
      cases z : X.s₀.heap.get? e2 with
      | none => rfl
      | some o => obtain ⟨o', z'⟩ := I2.base.there e2 o z (by show e2 ∉ X.ex; rw [hex]; intro q; cases q); rw [mk.new] at z'; cases z'
    have hp2' : ∀ p ∈ X.pn ++ pins, p.1 ≠ e2 := fun p hq z => by
      have hp' := (I2.pin p hq).1
      rw [z, mk.new] at hp'
      cases hp'
    have I3 := (I2.kept (t' := tk2) mk.keeps).track (φ := fun h => h.get? e2 = some { cls := .ref C2, data := .fields #[.ref t2, .none, .none, .none, .bool false, .none] }) hHe2 n0 hp2' ⟨_, _, ge2, rfl⟩ ge2 fun _ _ z kk => kk _ z
    refine ⟨e2, rfl, wpAny_bind (wpAny_mono (pe_var (X := X.suite e) (pos := np3) hi (.inl hk) hdn hcn pins _ _ _ (fun v H' => v = .ref e ∧ H' = upd (upd H1 e (.ext (C2At e C))) e2 (.ext fun h => h.get? e2 = some { cls := .ref C2, data := .fields #[.ref t2, .none, .none, .none, .bool false, .none] })) I3 ⟨.ref e, ?_, rfl, rfl⟩) (fun u s4 ⟨v, H', I4, ru, ev, eH⟩ => wpAny_bind (wpAny_standAt (wpAny_pure ?_))) fun _ _ z => False.elim z)⟩
    · have : i < σ1.length := by rw [I1.len]; exact (List.getElem?_eq_some_iff.mp hi).1
      rw [List.getElem?_set_self this]
    subst ev eH
    have w1 : C2At e C s4.heap := (show ObjOk X.prog X.w _ s4.heap e (.ext (C2At e C)) from I4.hok e _ (by rw [upd_ne (Ne.symm n2e), upd_same])).1
    have w2 : s4.heap.get? e2 = some { cls := .ref C2, data := .fields #[.ref t2, .none, .none, .none, .bool false, .none] } := (show ObjOk X.prog X.w _ s4.heap e2 (.ext fun h => h.get? e2 = some { cls := .ref C2, data := .fields #[.ref t2, .none, .none, .none, .bool false, .none] }) from I4.hok e2 _ upd_same).1
    have kin : X.K.In X.base := I.ok.mod.kin
    refine ⟨ru, Ne.symm n2e, xco_of (mg := X.mg) (x := x) FB2 kin q2 I4.bk, xco_of (mg := X.mg) (x := x) FB kin qC I4.bk, w1, t2, w2, fun h' hsame ge => ?_⟩
    have I5 : Inv X pins (σ1.set i (some (.ref e))) H1 s4 := by
      have J := I4.untrack upd_same
      rw [del_upd hHe2] at J
      have J := J.untrack upd_same
      rw [del_upd hHe] at J
      exact J.unsuite I.ok
    have ff5 := I5.stack
    have I6' : Inv X pins (σ1.set i (some (.ref e))) H1 { s4 with heap := h' } := by
      refine I5.held (es := [e2]) hs hf (fun b hb => ?_) (fun b o z nf nm => ?_) fun b o z hb => ?_
      · rw [List.mem_singleton.mp hb]; exact ⟨hH12, n0, hp2', _, _, w2, rfl⟩
      · rw [hsame b fun q => nm (by simp [q])]; exact z
      · have nb : b ≠ e2 := fun q => by
          obtain ⟨_, o', z', hd'⟩ := ff5.mem hb
          rw [q, w2] at z'; cases z'
          exact hd' _ rfl
        exact ⟨o.slots, by rw [hsame b nb]; exact z⟩
    exact suite_raised (A' := (X.suite e).A) I8.ok.frames hN hi hk hex hs hf hx I6' ge rfl rfl rfl n0 hH12 hp2' k
end L2
set_option Elab.async false
set_option linter.all false
set_option maxRecDepth 100000
set_option maxHeartbeats 4000000
namespace L2
open PySem PySem.Spec PyProof.Rows PySem.W
open Builtin Builtin.Str
def tFmtV (ta : TE) : TE := fun σ H Q => ta σ H fun v H1 => (∃ n : Nat, v = .int (n : Int) ∧ n < 100 ∧ Q (.str (toString ((n : Nat) : Int) : String)) H1) ∨ ∃ x : Str, v = .str x ∧ x.length ≤ sizeLine ∧ Q (.str x) H1
theorem rd_fmtV {ta : TE} {σ : St} {H : Hp} {Q : VK} (h : ta σ H fun v H1 => (∃ n : Nat, v = .int (n : Int) ∧ n < 100 ∧ Q (.str (toString ((n : Nat) : Int) : String)) H1) ∨ ∃ x : Str, v = .str x ∧ x.length ≤ sizeLine ∧ Q (.str x) H1) : tFmtV ta σ H Q := h
theorem pe_fmtV {X : Cx} {e : Expr} {ta : TE} {pos : Pos} (h : PE X e ta) : PE X (.FormattedValue e (-1) none pos) (tFmtV ta) := by
 intro pins s σ H Q I q
 refine FormattedValue_plain (thn (h pins s σ H _ I q) fun u s1 ⟨v, H1, I1, r, k⟩ => ?_)
 rcases k with ⟨n, ev, hn, k⟩ | ⟨x, ev, hx, k⟩
 ·subst ev
  obtain ⟨t, rfl⟩ := r
  exact formatField_int_small (log_small ⟨n, hn⟩) ⟨.str (toString ((n : Nat) : Int) : String), H1, I1.tok _, ⟨_, rfl⟩, k⟩
 ·subst ev
  obtain ⟨t, rfl⟩ := r
  exact wpAny_formatField_str ⟨.str x, H1, I1, ⟨_, rfl⟩, k⟩ ⟨.str x, H1, I1.tok _, ⟨_, rfl⟩, k⟩ hx
def tFsV : List TE → Str → St → Hp → VK → Prop
 | [], out, _, H, Q => Q (.str out) H
 | t :: ts, out, σ, H, Q => t σ H fun v H1 => ∃ x : Str, v = .str x ∧ x.length ≤ 100 ∧ tFsV ts (out ++ x) σ H1 Q
def tFstrV (ts : List TE) : TE := fun σ H Q => tFsV ts Str.empty σ H Q
theorem rd_fstrV {ts : List TE} {σ : St} {H : Hp} {Q : VK} (h : tFsV ts Str.empty σ H Q) : tFstrV ts σ H Q := h
theorem joinV_ok {X : Cx} {pins : List (Addr × Obj)} {σ : St} {Q : VK} : ∀ {es : List Expr} {ts : List TE} {s : Shared} {H : Hp} {out : Str}, PEs X es ts → out.length + 100 * es.length ≤ sizeLine → Inv X pins σ H s →
  tFsV ts out σ H Q → wpAny (model X.prog X.w) X.A (joinParts out (evalEach es X.env)) (EP X pins σ Q) X.xe s
 | [], _, s, H, out, .nil, hz, I, h => joinParts_nil ⟨.str out, H, I.tok _, ⟨_, rfl⟩, h⟩ (by simpa using hz)
 | e :: es, t :: ts, s, H, out, .cons he hs, hz, I, h => by
  rw [List.length_cons] at hz
  show wpAny _ _ (joinParts out (eval e X.env :: evalEach es X.env)) _ _ _
  refine joinParts_cons (thn (he pins s σ H _ I h) fun u s1 ⟨v, H1, I1, r, x, ev, hx, q⟩ => ?_)
  subst ev
  obtain ⟨t, rfl⟩ := r
  have hl : (out ++ x).length = out.length + x.length := strLen_append _ _
  exact ⟨by rw [hl]; omega, joinV_ok hs (by rw [hl]; omega) I1 q⟩
theorem pe_fstrV {X : Cx} {e1 e2 : Expr} {es : List Expr} {ts : List TE} {pos : Pos} (h : PEs X (e1 :: e2 :: es) ts) (hz : es.length ≤ 20) : PE X (.JoinedStr (e1 :: e2 :: es) pos) (tFstrV ts) := fun pins s σ H Q I q =>
 JoinedStr_many (joinV_ok (out := Str.empty) h (by have : (Str.empty).length = 0 := rfl; rw [this, List.length_cons, List.length_cons, sizeLine_eq]; omega) I q)
theorem head_uniq {c : Nat} : ∀ {a b x y : List Nat}, c ∉ a → c ∉ b → a ++ c :: x = b ++ c :: y → a = b ∧ x = y
 | [], [], x, y, _, _, h => ⟨rfl, by simpa using h⟩
 | [], d :: b, x, y, _, hb, h => by
  injection h with h1 _
  exact absurd (h1 ▸ List.mem_cons_self) hb
 | d :: a, [], x, y, ha, _, h => by
  injection h with h1 _
  exact absurd (h1 ▸ List.mem_cons_self) ha
 | d :: a, e :: b, x, y, ha, hb, h => by
  injection h with h1 h2
  obtain ⟨r1, r2⟩ := head_uniq (fun z => ha (List.mem_cons_of_mem _ z)) (fun z => hb (List.mem_cons_of_mem _ z)) h2
  exact ⟨by rw [h1, r1], r2⟩
theorem join_cons2 (s a b : Str) (r : List Str) : (Str.join s (a :: b :: r)).cps.toList = a.cps.toList ++ s.cps.toList ++ (Str.join s (b :: r)).cps.toList := by
 show (a ++ s ++ Str.join s (b :: r)).cps.toList = _
 rw [catX, catX]
theorem join_uniq {c : Nat} : ∀ {p q : List Str}, p ≠ [] → q ≠ [] → (∀ a ∈ p, c ∉ a.cps.toList) → (∀ a ∈ q, c ∉ a.cps.toList) → Str.join ⟨#[c]⟩ p = Str.join ⟨#[c]⟩ q → p = q
 | [], _, h, _, _, _, _ => absurd rfl h
 | _ :: _, [], _, h, _, _, _ => absurd rfl h
 | [a], [b], _, _, _, _, h => by rw [show a = b from h]
 | [a], b :: d :: q, _, _, hp, hq, h => by
  have h : a.cps.toList = _ := (congrArg (fun x : Str => x.cps.toList) h).trans (join_cons2 _ _ _ _)
  exact absurd (by rw [h]; simp) (hp a List.mem_cons_self)
 | a :: d :: p, [b], _, _, hp, hq, h => by
  have h : b.cps.toList = _ := (congrArg (fun x : Str => x.cps.toList) h.symm).trans (join_cons2 _ _ _ _)
  exact absurd (by rw [h]; simp) (hq b List.mem_cons_self)
 | a :: d :: p, b :: e :: q, _, _, hp, hq, h => by
  have h := congrArg (fun x : Str => x.cps.toList) h
  rw [join_cons2, join_cons2, List.append_assoc, List.append_assoc] at h
  obtain ⟨r1, r2⟩ := head_uniq (c := c) (hp a List.mem_cons_self) (hq b List.mem_cons_self) h
  have ih := join_uniq (p := d :: p) (q := e :: q) (by simp) (by simp) (fun x hx => hp x (List.mem_cons_of_mem _ hx)) (fun x hx => hq x (List.mem_cons_of_mem _ hx)) (strX r2)
  rw [strX r1, ih]
theorem split_ne (x y : Str) : Txt.split x y ≠ [] := by
 unfold Txt.split
 split
 ·simp
 ·split
  ·simp
  ·obtain ⟨p, r, e⟩ := StrLaws.partsFrom_ne x y.length 0 (occurrences x y 0 x.length (x.length + 1))
   rw [StrLaws.partsBetween_eq, e]; simp
theorem split_join {c : Nat} {ps : List Str} (hne : ps ≠ []) (h : ∀ a ∈ ps, c ∉ a.cps.toList) : Txt.split (Str.join ⟨#[c]⟩ ps) ⟨#[c]⟩ = ps :=
 join_uniq (split_ne _ _) hne (StrLaws.split_free _ c) h (StrLaws.join_split _ _)
theorem join_mem {s : Str} : ∀ {ps : List Str} {p : Str}, p ∈ ps → ∀ c ∈ p.cps.toList, c ∈ (Str.join s ps).cps.toList
 | [a], p, h, c, hc => by rw [List.mem_singleton.mp h] at hc; exact hc
 | a :: b :: r, p, h, c, hc => by
  rw [join_cons2]
  rcases List.mem_cons.mp h with z | z
  ·rw [z] at hc; simp [hc]
  ·have := join_mem (s := s) z c hc
   simp [this]
theorem split_mem {x y p : Str} (h : p ∈ Txt.split x y) : ∀ c ∈ p.cps.toList, c ∈ x.cps.toList := fun c hc => by
 have := join_mem (s := y) h c hc
 rwa [StrLaws.join_split] at this
theorem join_len {s : Str} : ∀ {ps : List Str} {p : Str}, p ∈ ps → p.length ≤ (Str.join s ps).length
 | [a], p, h => by rw [List.mem_singleton.mp h]; exact Nat.le_refl _
 | a :: b :: r, p, h => by
  have e : (Str.join s (a :: b :: r)).length = a.length + s.length + (Str.join s (b :: r)).length := by
   show (a ++ s ++ Str.join s (b :: r)).length = _
   rw [strLen_append, strLen_append]
  rcases List.mem_cons.mp h with z | z
  ·rw [z]; omega
  ·have := join_len (s := s) z; omega
theorem split_len {x y p : Str} (h : p ∈ Txt.split x y) : p.length ≤ x.length := by
 have := join_len (s := y) h
 rwa [StrLaws.join_split] at this
theorem TxtJoin (s : Str) (ps : List Str) : Txt.join s ps = Str.join s ps := StrLaws.glued_eq_join s ps
end L2
set_option Elab.async false
set_option maxHeartbeats 4000000
set_option linter.all false
set_option maxRecDepth 100000
namespace My
open PySem PySem.Spec PyProof.Rows L2
def top (i : Nat) : Stmt := PySem.Challenge.pw_sashiko_k54_cloths_as_texts.main.body.getD i (.Pass ⟨0, 0, 0, 0⟩)
abbrev s_isnumber : Stmt := (top 10)
abbrev s_isbelow : Stmt := (top 11)
abbrev s_isbit : Stmt := (top 12)
abbrev s_allbits : Stmt := (top 13)
abbrev s_isside : Stmt := (top 14)
abbrev s_BoardInit : Stmt := (inClass (top 17) 0)
abbrev s_ClothInit : Stmt := (inClass (top 18) 0)
abbrev s_Clothshade : Stmt := (inClass (top 18) 1)
abbrev s_Clothcols : Stmt := (inClass (top 17) 3)
abbrev s_Clothrows : Stmt := (inClass (top 17) 4)
abbrev s_bitstext : Stmt := (top 20)
abbrev s_clothtext : Stmt := (top 21)
abbrev s_hassigns : Stmt := (top 22)
abbrev s_readbits : Stmt := (top 23)
abbrev s_readcloth : Stmt := (top 24)
abbrev s_Ltold : Stmt := (top 26)
abbrev s_Lbitsword : Stmt := (top 27)
abbrev s_Lclothwords : Stmt := (top 28)
abbrev s_Ldraws : Stmt := (top 29)
abbrev s_Lbits : Stmt := (top 30)
abbrev s_Lrow : Stmt := (top 31)
abbrev s_Lplan : Stmt := (top 32)
abbrev s_Lmade : Stmt := (top 33)
abbrev s_Lsame : Stmt := (top 34)
abbrev s_Ltext : Stmt := (top 35)
abbrev s_Lspoilt : Stmt := (top 36)
abbrev s_Lread : Stmt := (top 37)
abbrev s_Ldueread : Stmt := (top 38)
abbrev s_law : Stmt := (top 39)
theorem sc_isnumber : FnScope ["value"] ["value"] (defScope s_isnumber) := .by
theorem sc_isbelow : FnScope ["value", "bound"] ["value", "bound"] (defScope s_isbelow) := .by
theorem sc_isbit : FnScope ["value"] ["value"] (defScope s_isbit) := .by
theorem sc_allbits : FnScope ["values"] ["values"] (defScope s_allbits) := .by
theorem sc_isside : FnScope ["count"] ["count"] (defScope s_isside) := .by
theorem sc_BoardInit : FnScope ["self", "wide", "tall", "cols", "rows"] ["self", "wide", "tall", "cols", "rows"] (defScope s_BoardInit) := .by
theorem sc_ClothInit : FnScope ["self", "shade", "cols", "rows"] ["self", "shade", "cols", "rows"] (defScope s_ClothInit) := .by
theorem sc_Clothshade : FnScope ["self"] ["self"] (defScope s_Clothshade) := .by
theorem sc_Clothcols : FnScope ["self"] ["self"] (defScope s_Clothcols) := .by
theorem sc_Clothrows : FnScope ["self"] ["self"] (defScope s_Clothrows) := .by
theorem sc_bitstext : FnScope ["bits"] ["bits"] (defScope s_bitstext) := .by
theorem sc_clothtext : FnScope ["cloth", "shade", "cols", "rows"] ["cloth"] (defScope s_clothtext) := .by
theorem sc_hassigns : FnScope ["word", "signs"] ["word", "signs"] (defScope s_hassigns) := .by
theorem sc_readbits : FnScope ["word"] ["word"] (defScope s_readbits) := .by
theorem sc_readcloth : FnScope ["text", "words", "shade", "cols", "rows", "refusal"] ["text"] (defScope s_readcloth) := .by
theorem sc_Ltold : FnScope ["_law_cloth"] ["_law_cloth"] (defScope s_Ltold) := .by
theorem sc_Lbitsword : FnScope ["_law_word"] ["_law_word"] (defScope s_Lbitsword) := .by
theorem sc_Lclothwords : FnScope ["_law_words", "_law_cols", "_law_rows"] ["_law_words"] (defScope s_Lclothwords) := .by
theorem sc_Ldraws : FnScope ["_law_script", "_law_many", "_law_rows", "_law_mix", "_law_cell", "_law_rest"] ["_law_script", "_law_many"] (defScope s_Ldraws) := .by
theorem sc_Lbits : FnScope ["_law_number", "_law_many", "_law_row_here", "_law_k"] ["_law_number", "_law_many"] (defScope s_Lbits) := .by
theorem sc_Lrow : FnScope ["_law_some", "_law_many", "_law_raw", "_law_row_here"] ["_law_some", "_law_many"] (defScope s_Lrow) := .by
theorem sc_Lplan : FnScope ["_law_some", "_law_wide", "_law_tall"] ["_law_some"] (defScope s_Lplan) := .by
theorem sc_Lmade : FnScope ["_law_plan_here"] ["_law_plan_here"] (defScope s_Lmade) := .by
theorem sc_Lsame : FnScope ["_law_told_here", "_law_due"] ["_law_told_here", "_law_due"] (defScope s_Lsame) := .by
theorem sc_Ltext : FnScope ["_law_plan_here", "_law_words", "_law_bits_here", "_law_word"] ["_law_plan_here"] (defScope s_Ltext) := .by
theorem sc_Lspoilt : FnScope ["_law_text_here", "_law_some", "_law_signs", "_law_at", "_law_sign", "_law_rows", "_law_place", "_law_way", "_law_words", "_law_spot"] ["_law_text_here", "_law_some"] (defScope s_Lspoilt) := .by
theorem sc_Lread : FnScope ["_law_text_here", "_law_found", "e"] ["_law_text_here"] (defScope s_Lread) := .by
theorem sc_Ldueread : FnScope ["_law_text_here", "_law_plan_here"] ["_law_text_here"] (defScope s_Ldueread) := .by
theorem sc_law : FnScope ["_law_script", "_law_some", "_law_plan_here", "_law_text_here", "_law_more", "_law_near", "_law_spoilt_here"] ["_law_script"] (defScope s_law) := .by
abbrev QNs (K : PySem.W.Frag) (x : Str) (C : Addr) : Prop := PySem.W.nsIn K mainGlobals x = some (some (.ref C))
abbrev QNn (K : PySem.W.Frag) (x : Str) : Prop := PySem.W.nsIn K mainGlobals x = some none
abbrev QFi (K : PySem.W.Frag) (C : Addr) (x : Str) (f : Addr) : Prop := PySem.W.findIn K (.ref C) x = some (some (.ref f))
abbrev QFn (K : PySem.W.Frag) (C : Addr) (x : Str) : Prop := PySem.W.findIn K (.ref C) x = some none
abbrev QIf (K : PySem.W.Frag) (f : Addr) : Prop := PySem.W.isFn K (.ref f) = true
abbrev QKt (K : PySem.W.Frag) (C D : Addr) (b : Bool) : Prop := PySem.W.kitOne K (.ref C) (.ref D) = some b
abbrev QXc (K : PySem.W.Frag) (C : Addr) : Prop := PySem.W.excIn K C [.type "ValueError", .type "Exception", .type "BaseException", .type "object"] "ValueError.__new__" = true
abbrev QXg (K : PySem.W.Frag) (C : Addr) : Prop := PySem.W.findIn K (.ref C) "__getattribute__" = some (some (.builtin "BaseException.__getattribute__")) ∧ PySem.W.findIn K (.ref C) "__getattr__" = some none ∧ PySem.W.findIn K (.ref C) "__class__" = some (some (.builtin "object.__class__")) ∧ PySem.W.mroIn K C (.type "object") = some true ∧ PySem.W.mroIn K C (.type "BaseException") = some true
set_option genInjectivity false in
set_option genSizeOf false in
structure Ad where
 (a_Board a_Cloth f_isnumber f_isbelow f_isbit f_allbits f_isside f_BoardInit f_ClothInit f_Clothshade f_Clothcols f_Clothrows : Addr)
 (f_bitstext f_clothtext f_hassigns f_readbits f_readcloth f_Ltold f_Lbitsword f_Lclothwords f_Ldraws f_Lbits f_Lrow f_Lplan : Addr)
 (f_Lmade f_Lsame f_Ltext f_Lspoilt f_Lread f_Ldueread f_law a_SewError a_BadSize a_BadBit a_BadText : Addr)
 (d_isnumber d_isbelow d_isbit d_allbits d_isside d_BoardInit d_ClothInit d_Clothshade d_Clothcols d_Clothrows d_bitstext d_clothtext : FuncData)
 (d_hassigns d_readbits d_readcloth d_Ltold d_Lbitsword d_Lclothwords d_Ldraws d_Lbits d_Lrow d_Lplan d_Lmade d_Lsame : FuncData)
 (d_Ltext d_Lspoilt d_Lread d_Ldueread d_law : FuncData)
 (tk_LONGEST_SIDE : Tok)
structure Txt (K : PySem.W.Frag) (mg : Str → Option Value) (t : Ad) : Prop where
 mg_Board : mg "Board" = some (.ref t.a_Board)
 mg_Cloth : mg "Cloth" = some (.ref t.a_Cloth)
 cl_Cloth : Cls K t.a_Cloth
 mk_Cloth : Mk K t.a_Cloth t.f_ClothInit
 na_columns_count : NoAttr K t.a_Cloth "columns_count"
 na_rows_count : NoAttr K t.a_Cloth "rows_count"
 na_col_bits : NoAttr K t.a_Cloth "col_bits"
 na_row_bits : NoAttr K t.a_Cloth "row_bits"
 na_first_colour : NoAttr K t.a_Cloth "first_colour"
 F_isnumber : Fun K "is_number" "is_number" s_isnumber t.f_isnumber t.d_isnumber
 b_isnumber : Binds K t.d_isnumber ["value"] []
 mg_isnumber : mg "is_number" = some (.ref t.f_isnumber)
 F_isbelow : Fun K "is_below" "is_below" s_isbelow t.f_isbelow t.d_isbelow
 b_isbelow : Binds K t.d_isbelow ["value", "bound"] []
 mg_isbelow : mg "is_below" = some (.ref t.f_isbelow)
 F_isbit : Fun K "is_bit" "is_bit" s_isbit t.f_isbit t.d_isbit
 b_isbit : Binds K t.d_isbit ["value"] []
 mg_isbit : mg "is_bit" = some (.ref t.f_isbit)
 F_allbits : Fun K "all_bits" "all_bits" s_allbits t.f_allbits t.d_allbits
 b_allbits : Binds K t.d_allbits ["values"] []
 mg_allbits : mg "all_bits" = some (.ref t.f_allbits)
 F_isside : Fun K "is_side" "is_side" s_isside t.f_isside t.d_isside
 b_isside : Binds K t.d_isside ["count"] []
 mg_isside : mg "is_side" = some (.ref t.f_isside)
 F_BoardInit : Fun K "__init__" "Board.__init__" s_BoardInit t.f_BoardInit t.d_BoardInit
 b_BoardInit : Binds K t.d_BoardInit ["self", "wide", "tall", "cols", "rows"] []
 cf_BoardInit : ClsFn K t.a_Board "__init__" t.f_BoardInit
 F_ClothInit : Fun K "__init__" "Cloth.__init__" s_ClothInit t.f_ClothInit t.d_ClothInit
 b_ClothInit : Binds K t.d_ClothInit ["self", "shade", "cols", "rows"] []
 F_Clothshade : Fun K "shade" "Cloth.shade" s_Clothshade t.f_Clothshade t.d_Clothshade
 b_Clothshade : Binds K t.d_Clothshade ["self"] []
 m_Clothshade : Meth K t.a_Cloth "shade" t.f_Clothshade
 F_Clothcols : Fun K "cols" "Board.cols" s_Clothcols t.f_Clothcols t.d_Clothcols
 b_Clothcols : Binds K t.d_Clothcols ["self"] []
 m_Clothcols : Meth K t.a_Cloth "cols" t.f_Clothcols
 F_Clothrows : Fun K "rows" "Board.rows" s_Clothrows t.f_Clothrows t.d_Clothrows
 b_Clothrows : Binds K t.d_Clothrows ["self"] []
 m_Clothrows : Meth K t.a_Cloth "rows" t.f_Clothrows
 F_bitstext : Fun K "bits_text" "bits_text" s_bitstext t.f_bitstext t.d_bitstext
 b_bitstext : Binds K t.d_bitstext ["bits"] []
 mg_bitstext : mg "bits_text" = some (.ref t.f_bitstext)
 F_clothtext : Fun K "cloth_text" "cloth_text" s_clothtext t.f_clothtext t.d_clothtext
 b_clothtext : Binds K t.d_clothtext ["cloth"] []
 mg_clothtext : mg "cloth_text" = some (.ref t.f_clothtext)
 F_hassigns : Fun K "has_signs" "has_signs" s_hassigns t.f_hassigns t.d_hassigns
 b_hassigns : Binds K t.d_hassigns ["word", "signs"] []
 mg_hassigns : mg "has_signs" = some (.ref t.f_hassigns)
 F_readbits : Fun K "read_bits" "read_bits" s_readbits t.f_readbits t.d_readbits
 b_readbits : Binds K t.d_readbits ["word"] []
 mg_readbits : mg "read_bits" = some (.ref t.f_readbits)
 F_readcloth : Fun K "read_cloth" "read_cloth" s_readcloth t.f_readcloth t.d_readcloth
 b_readcloth : Binds K t.d_readcloth ["text"] []
 mg_readcloth : mg "read_cloth" = some (.ref t.f_readcloth)
 F_Ltold : Fun K "_law_told" "_law_told" s_Ltold t.f_Ltold t.d_Ltold
 b_Ltold : Binds K t.d_Ltold ["_law_cloth"] []
 mg_Ltold : mg "_law_told" = some (.ref t.f_Ltold)
 F_Lbitsword : Fun K "_law_bits_word" "_law_bits_word" s_Lbitsword t.f_Lbitsword t.d_Lbitsword
 b_Lbitsword : Binds K t.d_Lbitsword ["_law_word"] []
 mg_Lbitsword : mg "_law_bits_word" = some (.ref t.f_Lbitsword)
 F_Lclothwords : Fun K "_law_cloth_words" "_law_cloth_words" s_Lclothwords t.f_Lclothwords t.d_Lclothwords
 b_Lclothwords : Binds K t.d_Lclothwords ["_law_words"] []
 mg_Lclothwords : mg "_law_cloth_words" = some (.ref t.f_Lclothwords)
 F_Ldraws : Fun K "_law_draws" "_law_draws" s_Ldraws t.f_Ldraws t.d_Ldraws
 b_Ldraws : Binds K t.d_Ldraws ["_law_script", "_law_many"] []
 mg_Ldraws : mg "_law_draws" = some (.ref t.f_Ldraws)
 F_Lbits : Fun K "_law_bits" "_law_bits" s_Lbits t.f_Lbits t.d_Lbits
 b_Lbits : Binds K t.d_Lbits ["_law_number", "_law_many"] []
 mg_Lbits : mg "_law_bits" = some (.ref t.f_Lbits)
 F_Lrow : Fun K "_law_row" "_law_row" s_Lrow t.f_Lrow t.d_Lrow
 b_Lrow : Binds K t.d_Lrow ["_law_some", "_law_many"] []
 mg_Lrow : mg "_law_row" = some (.ref t.f_Lrow)
 F_Lplan : Fun K "_law_plan" "_law_plan" s_Lplan t.f_Lplan t.d_Lplan
 b_Lplan : Binds K t.d_Lplan ["_law_some"] []
 mg_Lplan : mg "_law_plan" = some (.ref t.f_Lplan)
 F_Lmade : Fun K "_law_made" "_law_made" s_Lmade t.f_Lmade t.d_Lmade
 b_Lmade : Binds K t.d_Lmade ["_law_plan_here"] []
 mg_Lmade : mg "_law_made" = some (.ref t.f_Lmade)
 F_Lsame : Fun K "_law_same" "_law_same" s_Lsame t.f_Lsame t.d_Lsame
 b_Lsame : Binds K t.d_Lsame ["_law_told_here", "_law_due"] []
 mg_Lsame : mg "_law_same" = some (.ref t.f_Lsame)
 F_Ltext : Fun K "_law_text" "_law_text" s_Ltext t.f_Ltext t.d_Ltext
 b_Ltext : Binds K t.d_Ltext ["_law_plan_here"] []
 mg_Ltext : mg "_law_text" = some (.ref t.f_Ltext)
 F_Lspoilt : Fun K "_law_spoilt" "_law_spoilt" s_Lspoilt t.f_Lspoilt t.d_Lspoilt
 b_Lspoilt : Binds K t.d_Lspoilt ["_law_text_here", "_law_some"] []
 mg_Lspoilt : mg "_law_spoilt" = some (.ref t.f_Lspoilt)
 F_Lread : Fun K "_law_read" "_law_read" s_Lread t.f_Lread t.d_Lread
 b_Lread : Binds K t.d_Lread ["_law_text_here"] []
 mg_Lread : mg "_law_read" = some (.ref t.f_Lread)
 F_Ldueread : Fun K "_law_due_read" "_law_due_read" s_Ldueread t.f_Ldueread t.d_Ldueread
 b_Ldueread : Binds K t.d_Ldueread ["_law_text_here"] []
 mg_Ldueread : mg "_law_due_read" = some (.ref t.f_Ldueread)
 F_law : Fun K "law" "law" s_law t.f_law t.d_law
 b_law : Binds K t.d_law ["_law_script"] []
 mg_law : mg "law" = some (.ref t.f_law)
 mg_SewError : mg "SewError" = some (.ref t.a_SewError)
 mg_BadSize : mg "BadSize" = some (.ref t.a_BadSize)
 mg_BadBit : mg "BadBit" = some (.ref t.a_BadBit)
 mg_BadText : mg "BadText" = some (.ref t.a_BadText)
 x_BadSize : QXc K t.a_BadSize
 xi_BadSize : ExcIn K t.a_BadSize
 cat_BadSize : PySem.W.exmOne K (.ref t.a_BadSize) (.ref t.a_SewError) = some true
 kt_BadSize_BadText : QKt K t.a_BadSize t.a_BadText false
 kt_BadSize_BadBit : QKt K t.a_BadSize t.a_BadBit false
 kt_BadSize_BadSize : QKt K t.a_BadSize t.a_BadSize true
 kv_BadSize : PySem.W.kitOne K (.ref t.a_BadSize) (.type "ValueError") = some true
 x_BadBit : QXc K t.a_BadBit
 xi_BadBit : ExcIn K t.a_BadBit
 cat_BadBit : PySem.W.exmOne K (.ref t.a_BadBit) (.ref t.a_SewError) = some true
 kt_BadBit_BadText : QKt K t.a_BadBit t.a_BadText false
 kt_BadBit_BadBit : QKt K t.a_BadBit t.a_BadBit true
 kt_BadBit_BadSize : QKt K t.a_BadBit t.a_BadSize false
 kv_BadBit : PySem.W.kitOne K (.ref t.a_BadBit) (.type "ValueError") = some true
 x_BadText : QXc K t.a_BadText
 xi_BadText : ExcIn K t.a_BadText
 cat_BadText : PySem.W.exmOne K (.ref t.a_BadText) (.ref t.a_SewError) = some true
 kt_BadText_BadText : QKt K t.a_BadText t.a_BadText true
 kt_BadText_BadBit : QKt K t.a_BadText t.a_BadBit false
 kt_BadText_BadSize : QKt K t.a_BadText t.a_BadSize false
 kv_BadText : PySem.W.kitOne K (.ref t.a_BadText) (.type "ValueError") = some true
 mg_LONGEST_SIDE : mg "LONGEST_SIDE" = some (.int 40 t.tk_LONGEST_SIDE)
 no_isinstance : mg "isinstance" = none
 no_int : mg "int" = none
 no_bool : mg "bool" = none
 no_all : mg "all" = none
 no_len : mg "len" = none
 no_tuple : mg "tuple" = none
 no_list : mg "list" = none
 no_range : mg "range" = none
 no_abs : mg "abs" = none
 no_str : mg "str" = none
 no_zip : mg "zip" = none
 no_ValueError : mg "ValueError" = none
theorem txt_mk {K : PySem.W.Frag} {h : Heap} {mg : Str → Option Value} (X : K.In h) (G : h.Ns mainGlobals mg) {C_Board C_Cloth f_isnumber f_isbelow f_isbit f_allbits f_isside f_BoardInit f_ClothInit f_Clothshade f_Clothcols f_Clothrows : Addr} {f_bitstext f_clothtext f_hassigns f_readbits f_readcloth f_Ltold f_Lbitsword f_Lclothwords f_Ldraws f_Lbits f_Lrow f_Lplan : Addr} {f_Lmade f_Lsame f_Ltext f_Lspoilt f_Lread f_Ldueread f_law C_SewError C_BadSize C_BadBit C_BadText : Addr} {d_isnumber d_isbelow d_isbit d_allbits d_isside d_BoardInit d_ClothInit d_Clothshade d_Clothcols d_Clothrows d_bitstext d_clothtext : FuncData} {d_hassigns d_readbits d_readcloth d_Ltold d_Lbitsword d_Lclothwords d_Ldraws d_Lbits d_Lrow d_Lplan d_Lmade d_Lsame : FuncData} {d_Ltext d_Lspoilt d_Lread d_Ldueread d_law : FuncData} {tk_LONGEST_SIDE : Tok}
  (aC_Board : QNs K "Board" C_Board)
  (ga_Board : PySem.W.specialIn K (.ref C_Board) "__getattribute__" = some (some (.builtin "type.__getattribute__")))
  (rd_Board : PySem.W.readsIn K C_Board (.type "type") = true)
  (aC_Cloth : QNs K "Cloth" C_Cloth)
  (pg_Cloth : PySem.W.plainGet K C_Cloth Str.empty = true)
  (hd_Cloth : PySem.W.hasDictIn K C_Cloth = true)
  (po_Cloth : PySem.W.plainOver K C_Cloth = true)
  (sa_Cloth : PySem.W.findIn K (.ref C_Cloth) "__setattr__" = some (some (.builtin "object.__setattr__")))
  (mk_Cloth : PySem.W.makesIn K C_Cloth = true)
  (kc_Cloth : PySem.W.keepIn K (.ref C_Cloth) = true)
  (na_columns_count : QFn K C_Cloth "columns_count")
  (na_rows_count : QFn K C_Cloth "rows_count")
  (na_col_bits : QFn K C_Cloth "col_bits")
  (na_row_bits : QFn K C_Cloth "row_bits")
  (na_first_colour : QFn K C_Cloth "first_colour")
  (a_isnumber : QNs K "is_number" f_isnumber)
  (F_isnumber : Fun K "is_number" "is_number" s_isnumber f_isnumber d_isnumber)
  (a_isbelow : QNs K "is_below" f_isbelow)
  (F_isbelow : Fun K "is_below" "is_below" s_isbelow f_isbelow d_isbelow)
  (a_isbit : QNs K "is_bit" f_isbit)
  (F_isbit : Fun K "is_bit" "is_bit" s_isbit f_isbit d_isbit)
  (a_allbits : QNs K "all_bits" f_allbits)
  (F_allbits : Fun K "all_bits" "all_bits" s_allbits f_allbits d_allbits)
  (a_isside : QNs K "is_side" f_isside)
  (F_isside : Fun K "is_side" "is_side" s_isside f_isside d_isside)
  (fc_BoardInit : PySem.W.findCls K (.ref C_Board) (.type "type") "__init__" = some (.val (.ref f_BoardInit)))
  (F_BoardInit : Fun K "__init__" "Board.__init__" s_BoardInit f_BoardInit d_BoardInit)
  (a_ClothInit : QFi K C_Cloth "__init__" f_ClothInit)
  (i_ClothInit : QIf K f_ClothInit)
  (F_ClothInit : Fun K "__init__" "Cloth.__init__" s_ClothInit f_ClothInit d_ClothInit)
  (a_Clothshade : QFi K C_Cloth "shade" f_Clothshade)
  (i_Clothshade : QIf K f_Clothshade)
  (F_Clothshade : Fun K "shade" "Cloth.shade" s_Clothshade f_Clothshade d_Clothshade)
  (a_Clothcols : QFi K C_Cloth "cols" f_Clothcols)
  (i_Clothcols : QIf K f_Clothcols)
  (F_Clothcols : Fun K "cols" "Board.cols" s_Clothcols f_Clothcols d_Clothcols)
  (a_Clothrows : QFi K C_Cloth "rows" f_Clothrows)
  (i_Clothrows : QIf K f_Clothrows)
  (F_Clothrows : Fun K "rows" "Board.rows" s_Clothrows f_Clothrows d_Clothrows)
  (a_bitstext : QNs K "bits_text" f_bitstext)
  (F_bitstext : Fun K "bits_text" "bits_text" s_bitstext f_bitstext d_bitstext)
  (a_clothtext : QNs K "cloth_text" f_clothtext)
  (F_clothtext : Fun K "cloth_text" "cloth_text" s_clothtext f_clothtext d_clothtext)
  (a_hassigns : QNs K "has_signs" f_hassigns)
  (F_hassigns : Fun K "has_signs" "has_signs" s_hassigns f_hassigns d_hassigns)
  (a_readbits : QNs K "read_bits" f_readbits)
  (F_readbits : Fun K "read_bits" "read_bits" s_readbits f_readbits d_readbits)
  (a_readcloth : QNs K "read_cloth" f_readcloth)
  (F_readcloth : Fun K "read_cloth" "read_cloth" s_readcloth f_readcloth d_readcloth)
  (a_Ltold : QNs K "_law_told" f_Ltold)
  (F_Ltold : Fun K "_law_told" "_law_told" s_Ltold f_Ltold d_Ltold)
  (a_Lbitsword : QNs K "_law_bits_word" f_Lbitsword)
  (F_Lbitsword : Fun K "_law_bits_word" "_law_bits_word" s_Lbitsword f_Lbitsword d_Lbitsword)
  (a_Lclothwords : QNs K "_law_cloth_words" f_Lclothwords)
  (F_Lclothwords : Fun K "_law_cloth_words" "_law_cloth_words" s_Lclothwords f_Lclothwords d_Lclothwords)
  (a_Ldraws : QNs K "_law_draws" f_Ldraws)
  (F_Ldraws : Fun K "_law_draws" "_law_draws" s_Ldraws f_Ldraws d_Ldraws)
  (a_Lbits : QNs K "_law_bits" f_Lbits)
  (F_Lbits : Fun K "_law_bits" "_law_bits" s_Lbits f_Lbits d_Lbits)
  (a_Lrow : QNs K "_law_row" f_Lrow)
  (F_Lrow : Fun K "_law_row" "_law_row" s_Lrow f_Lrow d_Lrow)
  (a_Lplan : QNs K "_law_plan" f_Lplan)
  (F_Lplan : Fun K "_law_plan" "_law_plan" s_Lplan f_Lplan d_Lplan)
  (a_Lmade : QNs K "_law_made" f_Lmade)
  (F_Lmade : Fun K "_law_made" "_law_made" s_Lmade f_Lmade d_Lmade)
  (a_Lsame : QNs K "_law_same" f_Lsame)
  (F_Lsame : Fun K "_law_same" "_law_same" s_Lsame f_Lsame d_Lsame)
  (a_Ltext : QNs K "_law_text" f_Ltext)
  (F_Ltext : Fun K "_law_text" "_law_text" s_Ltext f_Ltext d_Ltext)
  (a_Lspoilt : QNs K "_law_spoilt" f_Lspoilt)
  (F_Lspoilt : Fun K "_law_spoilt" "_law_spoilt" s_Lspoilt f_Lspoilt d_Lspoilt)
  (a_Lread : QNs K "_law_read" f_Lread)
  (F_Lread : Fun K "_law_read" "_law_read" s_Lread f_Lread d_Lread)
  (a_Ldueread : QNs K "_law_due_read" f_Ldueread)
  (F_Ldueread : Fun K "_law_due_read" "_law_due_read" s_Ldueread f_Ldueread d_Ldueread)
  (a_law : QNs K "law" f_law)
  (F_law : Fun K "law" "law" s_law f_law d_law)
  (aX_SewError : QNs K "SewError" C_SewError)
  (aX_BadSize : QNs K "BadSize" C_BadSize)
  (aX_BadBit : QNs K "BadBit" C_BadBit)
  (aX_BadText : QNs K "BadText" C_BadText)
  (bb : PySem.W.subIn K (.ref C_SewError) (.type "BaseException") = some true)
  (bm : PySem.W.mroIn K C_SewError (.type "object") = some true)
  (bt : PySem.W.typeIn K (.ref C_SewError) = some (.type "type"))
  (ogs : PySem.W.specialIn K (.builtin "object.__class__") "__get__" = some (some (.builtin "getset_descriptor.__get__")))
  (otk : PySem.W.takesIn K (.builtin "object.__class__") = some true)
  (x_BadSize : QXc K C_BadSize)
  (xg_BadSize : QXg K C_BadSize)
  (sb_BadSize : PySem.W.subIn K (.ref C_BadSize) (.ref C_SewError) = some true)
  (kt_BadSize_BadText : QKt K C_BadSize C_BadText false)
  (kt_BadSize_BadBit : QKt K C_BadSize C_BadBit false)
  (kt_BadSize_BadSize : QKt K C_BadSize C_BadSize true)
  (kv_BadSize : PySem.W.kitOne K (.ref C_BadSize) (.type "ValueError") = some true)
  (x_BadBit : QXc K C_BadBit)
  (xg_BadBit : QXg K C_BadBit)
  (sb_BadBit : PySem.W.subIn K (.ref C_BadBit) (.ref C_SewError) = some true)
  (kt_BadBit_BadText : QKt K C_BadBit C_BadText false)
  (kt_BadBit_BadBit : QKt K C_BadBit C_BadBit true)
  (kt_BadBit_BadSize : QKt K C_BadBit C_BadSize false)
  (kv_BadBit : PySem.W.kitOne K (.ref C_BadBit) (.type "ValueError") = some true)
  (x_BadText : QXc K C_BadText)
  (xg_BadText : QXg K C_BadText)
  (sb_BadText : PySem.W.subIn K (.ref C_BadText) (.ref C_SewError) = some true)
  (kt_BadText_BadText : QKt K C_BadText C_BadText true)
  (kt_BadText_BadBit : QKt K C_BadText C_BadBit false)
  (kt_BadText_BadSize : QKt K C_BadText C_BadSize false)
  (kv_BadText : PySem.W.kitOne K (.ref C_BadText) (.type "ValueError") = some true)
  (v_LONGEST_SIDE : PySem.W.nsIn K mainGlobals "LONGEST_SIDE" = some (some (.int 40 tk_LONGEST_SIDE)))
  (z_isinstance : QNn K "isinstance")
  (z_int : QNn K "int")
  (z_bool : QNn K "bool")
  (z_all : QNn K "all")
  (z_len : QNn K "len")
  (z_tuple : QNn K "tuple")
  (z_list : QNn K "list")
  (z_range : QNn K "range")
  (z_abs : QNn K "abs")
  (z_str : QNn K "str")
  (z_zip : QNn K "zip")
  (z_ValueError : QNn K "ValueError") : ∃ t : Ad, Txt K mg t :=
 ⟨{ a_Board := C_Board, a_Cloth := C_Cloth, f_isnumber := f_isnumber, d_isnumber := d_isnumber, f_isbelow := f_isbelow, d_isbelow := d_isbelow, f_isbit := f_isbit, d_isbit := d_isbit, f_allbits := f_allbits, d_allbits := d_allbits, f_isside := f_isside, d_isside := d_isside, f_BoardInit := f_BoardInit, d_BoardInit := d_BoardInit, f_ClothInit := f_ClothInit, d_ClothInit := d_ClothInit, f_Clothshade := f_Clothshade, d_Clothshade := d_Clothshade, f_Clothcols := f_Clothcols, d_Clothcols := d_Clothcols, f_Clothrows := f_Clothrows, d_Clothrows := d_Clothrows, f_bitstext := f_bitstext, d_bitstext := d_bitstext, f_clothtext := f_clothtext, d_clothtext := d_clothtext, f_hassigns := f_hassigns, d_hassigns := d_hassigns, f_readbits := f_readbits, d_readbits := d_readbits, f_readcloth := f_readcloth, d_readcloth := d_readcloth, f_Ltold := f_Ltold, d_Ltold := d_Ltold, f_Lbitsword := f_Lbitsword, d_Lbitsword := d_Lbitsword, f_Lclothwords := f_Lclothwords, d_Lclothwords := d_Lclothwords, f_Ldraws := f_Ldraws, d_Ldraws := d_Ldraws, f_Lbits := f_Lbits, d_Lbits := d_Lbits, f_Lrow := f_Lrow, d_Lrow := d_Lrow, f_Lplan := f_Lplan, d_Lplan := d_Lplan, f_Lmade := f_Lmade, d_Lmade := d_Lmade, f_Lsame := f_Lsame, d_Lsame := d_Lsame, f_Ltext := f_Ltext, d_Ltext := d_Ltext, f_Lspoilt := f_Lspoilt, d_Lspoilt := d_Lspoilt, f_Lread := f_Lread, d_Lread := d_Lread, f_Ldueread := f_Ldueread, d_Ldueread := d_Ldueread, f_law := f_law, d_law := d_law, a_SewError := C_SewError, a_BadSize := C_BadSize, a_BadBit := C_BadBit, a_BadText := C_BadText, tk_LONGEST_SIDE := tk_LONGEST_SIDE }, ⟨PySem.W.mg_of X G aC_Board, PySem.W.mg_of X G aC_Cloth, ⟨pg_Cloth, hd_Cloth, po_Cloth, sa_Cloth⟩, ⟨mk_Cloth, a_ClothInit, i_ClothInit, kc_Cloth⟩, na_columns_count, na_rows_count, na_col_bits, na_row_bits, na_first_colour, F_isnumber, F_isnumber.b1 fun _ _ _ _ _ _ _ => rfl, PySem.W.mg_of X G a_isnumber, F_isbelow, F_isbelow.b2 fun _ _ _ _ _ _ _ _ => rfl, PySem.W.mg_of X G a_isbelow, F_isbit, F_isbit.b1 fun _ _ _ _ _ _ _ => rfl, PySem.W.mg_of X G a_isbit, F_allbits, F_allbits.b1 fun _ _ _ _ _ _ _ => rfl, PySem.W.mg_of X G a_allbits, F_isside, F_isside.b1 fun _ _ _ _ _ _ _ => rfl, PySem.W.mg_of X G a_isside, F_BoardInit, F_BoardInit.b5 fun _ _ _ _ _ _ _ _ _ _ _ => rfl, ⟨ga_Board, rd_Board, fc_BoardInit, F_BoardInit.kp⟩, F_ClothInit, F_ClothInit.b4 fun _ _ _ _ _ _ _ _ _ _ => rfl, F_Clothshade, F_Clothshade.b1 fun _ _ _ _ _ _ _ => rfl, ⟨a_Clothshade, i_Clothshade, F_Clothshade.kp⟩, F_Clothcols, F_Clothcols.b1 fun _ _ _ _ _ _ _ => rfl, ⟨a_Clothcols, i_Clothcols, F_Clothcols.kp⟩, F_Clothrows, F_Clothrows.b1 fun _ _ _ _ _ _ _ => rfl, ⟨a_Clothrows, i_Clothrows, F_Clothrows.kp⟩, F_bitstext, F_bitstext.b1 fun _ _ _ _ _ _ _ => rfl, PySem.W.mg_of X G a_bitstext, F_clothtext, F_clothtext.b1 fun _ _ _ _ _ _ _ => rfl, PySem.W.mg_of X G a_clothtext, F_hassigns, F_hassigns.b2 fun _ _ _ _ _ _ _ _ => rfl, PySem.W.mg_of X G a_hassigns, F_readbits, F_readbits.b1 fun _ _ _ _ _ _ _ => rfl, PySem.W.mg_of X G a_readbits, F_readcloth, F_readcloth.b1 fun _ _ _ _ _ _ _ => rfl, PySem.W.mg_of X G a_readcloth, F_Ltold, F_Ltold.b1 fun _ _ _ _ _ _ _ => rfl, PySem.W.mg_of X G a_Ltold, F_Lbitsword, F_Lbitsword.b1 fun _ _ _ _ _ _ _ => rfl, PySem.W.mg_of X G a_Lbitsword, F_Lclothwords, F_Lclothwords.b1 fun _ _ _ _ _ _ _ => rfl, PySem.W.mg_of X G a_Lclothwords, F_Ldraws, F_Ldraws.b2 fun _ _ _ _ _ _ _ _ => rfl, PySem.W.mg_of X G a_Ldraws, F_Lbits, F_Lbits.b2 fun _ _ _ _ _ _ _ _ => rfl, PySem.W.mg_of X G a_Lbits, F_Lrow, F_Lrow.b2 fun _ _ _ _ _ _ _ _ => rfl, PySem.W.mg_of X G a_Lrow, F_Lplan, F_Lplan.b1 fun _ _ _ _ _ _ _ => rfl, PySem.W.mg_of X G a_Lplan, F_Lmade, F_Lmade.b1 fun _ _ _ _ _ _ _ => rfl, PySem.W.mg_of X G a_Lmade, F_Lsame, F_Lsame.b2 fun _ _ _ _ _ _ _ _ => rfl, PySem.W.mg_of X G a_Lsame, F_Ltext, F_Ltext.b1 fun _ _ _ _ _ _ _ => rfl, PySem.W.mg_of X G a_Ltext, F_Lspoilt, F_Lspoilt.b2 fun _ _ _ _ _ _ _ _ => rfl, PySem.W.mg_of X G a_Lspoilt, F_Lread, F_Lread.b1 fun _ _ _ _ _ _ _ => rfl, PySem.W.mg_of X G a_Lread, F_Ldueread, F_Ldueread.b1 fun _ _ _ _ _ _ _ => rfl, PySem.W.mg_of X G a_Ldueread, F_law, F_law.b1 fun _ _ _ _ _ _ _ => rfl, PySem.W.mg_of X G a_law, PySem.W.mg_of X G aX_SewError, PySem.W.mg_of X G aX_BadSize, PySem.W.mg_of X G aX_BadBit, PySem.W.mg_of X G aX_BadText, x_BadSize, ⟨xg_BadSize.1, xg_BadSize.2.1, xg_BadSize.2.2.1, ogs, otk, xg_BadSize.2.2.2.1, xg_BadSize.2.2.2.2⟩, exm_of bb bm bt sb_BadSize, kt_BadSize_BadText, kt_BadSize_BadBit, kt_BadSize_BadSize, kv_BadSize, x_BadBit, ⟨xg_BadBit.1, xg_BadBit.2.1, xg_BadBit.2.2.1, ogs, otk, xg_BadBit.2.2.2.1, xg_BadBit.2.2.2.2⟩, exm_of bb bm bt sb_BadBit, kt_BadBit_BadText, kt_BadBit_BadBit, kt_BadBit_BadSize, kv_BadBit, x_BadText, ⟨xg_BadText.1, xg_BadText.2.1, xg_BadText.2.2.1, ogs, otk, xg_BadText.2.2.2.1, xg_BadText.2.2.2.2⟩, exm_of bb bm bt sb_BadText, kt_BadText_BadText, kt_BadText_BadBit, kt_BadText_BadSize, kv_BadText, PySem.W.mg_of X G v_LONGEST_SIDE, PySem.W.mg_none_of X G z_isinstance, PySem.W.mg_none_of X G z_int, PySem.W.mg_none_of X G z_bool, PySem.W.mg_none_of X G z_all, PySem.W.mg_none_of X G z_len, PySem.W.mg_none_of X G z_tuple, PySem.W.mg_none_of X G z_list, PySem.W.mg_none_of X G z_range, PySem.W.mg_none_of X G z_abs, PySem.W.mg_none_of X G z_str, PySem.W.mg_none_of X G z_zip, PySem.W.mg_none_of X G z_ValueError⟩⟩
local macro_rules | `(tactic| walk_at "rd1") => `(tactic| first
 | ((with_reducible refine' rd_var (v := ?kv) ?ke ?kh); (case ke => exact rfl))
 | (with_reducible refine rd_seqA fun _ _ => ?_) | (with_reducible refine rd_asg ?_) | (with_reducible refine rd_name ?_) | (with_reducible refine rd_ret ?_) | (with_reducible refine rd_retN ?_) | (with_reducible refine rd_drop ?_)
 | (with_reducible refine rd_ifS ?_) | (with_reducible refine rd_tB ?_) | (with_reducible refine rd_tTest ?_) | (with_reducible refine rd_exbl ?_) | (with_reducible refine rd_c ?_) | (with_reducible refine rd_op ?_) | (with_reducible refine rd_un ?_)
 | (with_reducible refine rd_andV ?_) | (with_reducible refine rd_orV ?_) | (with_reducible refine rd_notV ?_) | (with_reducible refine rd_and ?_) | (with_reducible refine rd_or ?_) | (with_reducible refine rd_not ?_) | (with_reducible refine rd_true ?_)
 | (with_reducible refine rd_I0 ?_) | (with_reducible refine rd_U ?_) | (with_reducible refine rd_eqI ?_) | (with_reducible refine rd_neI ?_) | (with_reducible refine rd_eqS ?_) | (with_reducible refine rd_eqB ?_) | (with_reducible refine rd_neB ?_)
 | (with_reducible refine rd_chain ?_) | (with_reducible refine rd_call ?_) | (with_reducible refine rd_nil ?_) | (with_reducible refine rd_cons ?_) | (with_reducible refine rd_CB ?_) | (with_reducible refine rd_tup ?_) | (with_reducible refine rd_lst ?_)
 | (with_reducible refine rd_next ?_) | (with_reducible refine rd_try2 ?_) | (with_reducible refine rd_thawE ?_) | (with_reducible refine rd_thawS ?_) | (with_reducible refine rd_itext ?_) | (with_reducible refine rd_ikeys ?_) | (with_reducible refine rd_leS ?_) | (with_reducible refine rd_ivals ?_) | (with_reducible refine rd_iitems ?_) | ((with_reducible refine' rd_aug (x := ?kv) ?ke ?kh); (case ke => exact rfl)) | (with_reducible refine rd_ipI ?_) | (with_reducible refine rd_gcons ?_) | (with_reducible refine rd_gnil ?_) | (with_reducible refine rd_gsub ?_) | (with_reducible refine rd_sfld ?_) | (with_reducible refine rd_while ?_) | (with_reducible refine rd_comp ?_) | (with_reducible refine rd_fld ?_) | (with_reducible refine rd_meth ?_) | (with_reducible refine rd_make ?_) | (with_reducible refine rd_raise ?_) | (with_reducible refine rd_try ?_) | (with_reducible refine rd_callS ?_) | (with_reducible refine rd_methS ?_) | (with_reducible refine rd_makeS ?_) | (with_reducible refine rd_bm ?_) | (with_reducible refine rd_bm0 ?_) | (with_reducible refine rd_sl ?_) | (with_reducible refine rd_nopart ?_) | (with_reducible refine rd_part ?_) | (with_reducible refine rd_exint ?_) | (with_reducible refine rd_exref ?_)
 | (with_reducible refine rd_if ?_) | (with_reducible refine rd_augS ?_) | (with_reducible refine rd_dput ?_) | (with_reducible refine rd_din ?_) | (with_reducible refine rd_dnotin ?_) | (with_reducible refine rd_dnewT ?_) | (with_reducible refine rd_dnewK ?_) | (with_reducible refine rd_par ?_) | (with_reducible refine rd_dget ?_) | (with_reducible refine rd_disp1 ?_) | (with_reducible refine rd_dget1 ?_) | (with_reducible refine rd_dget2 ?_) | (with_reducible refine rd_dpop1 ?_) | (with_reducible refine rd_rng3 ?_) | (with_reducible refine rd_ienum ?_) | (with_reducible refine rd_abs ?_) | (with_reducible refine rd_min2 ?_) | (with_reducible refine rd_max2 ?_) | (with_reducible refine rd_intB ?_) | (with_reducible refine rd_for ?_) | (with_reducible refine rd_rng1 ?_) | (with_reducible refine rd_ilist ?_) | (with_reducible refine rd_itup ?_) | (with_reducible refine rd_izipS ?_) | (with_reducible refine iteT ?_) | (with_reducible refine iteF ?_) | (with_reducible refine if_true_do ?_) | (with_reducible refine iteNN ?_) | (with_reducible refine iteTA ?_) | (with_reducible refine iteFA ?_) | ((with_reducible refine' rd_cut (r := ?kr) ?ke ?kh); (case ke => assumption)) | (dsimp only))
local macro_rules | `(tactic| walk_at "rd") => `(tactic| repeat walk_at "rd1")
section
variable {P : Program} {w : World} {K : PySem.W.Frag} {mg : Str → Option Value} {base : Heap} {t : Ad}
def isBit (i : Int) : Bool := decide (0 ≤ i) && decide (i < 2)
def sp_isnumber : Sp := fun vs H Q _ => ∃ i, vs = [.int i] ∧ Q (.bl true) H
theorem ok_isnumber (T : Txt K mg t) : FnOk P w K mg base CX0 1 t.f_isnumber t.d_isnumber ["value"] sp_isnumber := by
 refine T.F_isnumber.ok sc_isnumber (fun vs H Q E h => ?_) (fun cdv A outer s H vs Q E hr h => ?_)
 ·obtain ⟨i, rfl, _⟩ := h; rfl
 ·obtain ⟨i, rfl, k⟩ := h
  refine ⟨_, (pss_one (ps_ret (pe_and (pe_callB (cI_isinstK K rfl) rfl T.no_isinstance (by rfl) (pa_cons (pv 0) (pa_cons (pe_bltn (v := .ty "int") rfl T.no_int (by rfl : bootBuiltins "int" = some (.type "int")) rfl) pa_nil))) (pe_one (pe_not (pe_callB (cI_isinstK K rfl) rfl T.no_isinstance (by rfl) (pa_cons (pv 0) (pa_cons (pe_bltn (v := .ty "bool") rfl T.no_bool (by rfl : bootBuiltins "bool" = some (.type "bool")) rfl) pa_nil)))))))), ?_⟩
  walk_at "rd"
  refine rd_isi (.int i) kit_ii ?_
  walk_at "rd"
  refine rd_isi (.int i) kit_ib ?_
  walk_at "rd"
  exact k
def sp_isbelow : Sp := fun vs H Q _ => ∃ i b, vs = [.int i, .int b] ∧ Q (.bl (decide (0 ≤ i) && decide (i < b))) H
theorem ok_isbelow (T : Txt K mg t) : FnOk P w K mg base CX0 2 t.f_isbelow t.d_isbelow ["value", "bound"] sp_isbelow := by
 have G_isnumber := ok_isnumber (P := P) (w := w) (base := base) T
 refine T.F_isbelow.ok sc_isbelow (fun vs H Q E h => ?_) (fun cdv A outer s H vs Q E hr h => ?_)
 ·obtain ⟨i, b, rfl, _⟩ := h; rfl
 ·obtain ⟨i, b, rfl, k⟩ := h
  refine ⟨_, (pss_one (ps_ret (pe_and (pe_call G_isnumber (hr.mono (by first | decide | omega)) rfl T.mg_isnumber T.F_isnumber.kp T.b_isnumber .nil pass0 (pa_cons (pv 0) pa_nil)) (pe_one (pe_chain op_le op_lt pe_int (pv 0) (pv 1)))))), ?_⟩
  walk_at "rd"
  refine ⟨i, rfl, ?_⟩
  walk_at "rd"
  refine ite2 (fun h0 => ?_) (fun h0 => ?_)
  ·walk_at "rd"
   rw [h0] at k
   exact k
  ·rw [Bool.not_eq_true] at h0
   rw [h0] at k
   exact k
def sp_isbit : Sp := fun vs H Q _ => ∃ i, vs = [.int i] ∧ Q (.bl (isBit i)) H
theorem ok_isbit (T : Txt K mg t) : FnOk P w K mg base CX0 3 t.f_isbit t.d_isbit ["value"] sp_isbit := by
 have G_isbelow := ok_isbelow (P := P) (w := w) (base := base) T
 refine T.F_isbit.ok sc_isbit (fun vs H Q E h => ?_) (fun cdv A outer s H vs Q E hr h => ?_)
 ·obtain ⟨i, rfl, _⟩ := h; rfl
 ·obtain ⟨i, rfl, k⟩ := h
  refine ⟨_, (pss_one (ps_ret (pe_call G_isbelow (hr.mono (by first | decide | omega)) rfl T.mg_isbelow T.F_isbelow.kp T.b_isbelow .nil pass0 (pa_cons (pv 0) (pa_cons pe_int pa_nil))))), ?_⟩
  walk_at "rd"
  exact ⟨i, 2, rfl, k⟩
def isSide (n : Int) : Bool := decide (0 < n) && decide (n < 41)
def sp_isside : Sp := fun vs H Q _ => ∃ i, vs = [.int i] ∧ Q (.bl (isSide i)) H
theorem ok_isside (T : Txt K mg t) : FnOk P w K mg base CX0 3 t.f_isside t.d_isside ["count"] sp_isside := by
  have G_isbelow := ok_isbelow (P := P) (w := w) (base := base) T
  refine T.F_isside.ok sc_isside (fun vs H Q E h => ?_) (fun cdv A outer s H vs Q E hr h => ?_)
  · obtain ⟨i, rfl, _⟩ := h; rfl
  · obtain ⟨i, rfl, k⟩ := h
    refine ⟨_, (pss_one (ps_ret (pe_and (pe_call G_isbelow (hr.mono (by first | decide | omega)) rfl T.mg_isbelow T.F_isbelow.kp T.b_isbelow .nil pass0 (pa_cons (pv 0) (pa_cons (pe_op op_add (pe_glob (v := .int 40) rfl T.mg_LONGEST_SIDE ⟨_, rfl⟩) pe_int) pa_nil))) (pe_one (pe_cmpR op_gt (pv 0) pe_int (nomark _)))))), ?_⟩
    walk_at "rd"
    refine ⟨i, _, rfl, ?_⟩
    walk_at "rd"
    refine ite2 (fun h0 => ?_) (fun h0 => ?_)
    · walk_at "rd"
      have e : isSide i = decide (0 < i) := by
        rw [Bool.and_eq_true, decide_eq_true_eq, decide_eq_true_eq] at h0
        unfold isSide
        rw [decide_eq_true (by omega : i < 41), Bool.and_true]
      rw [e] at k
      exact k
    · have e : isSide i = false := by
        rw [Bool.and_eq_true, decide_eq_true_eq, decide_eq_true_eq] at h0
        unfold isSide
        by_cases hi : 0 < i
        · rw [decide_eq_false (by omega : ¬ i < 41), Bool.and_false]
        · rw [decide_eq_false hi, Bool.false_and]
      rw [e] at k
      exact k
theorem side_len {n : Nat} : isSide ((n : Int) + 1) = decide (n ≤ 39) := by
 unfold isSide
 rw [decide_eq_true (by omega : (0 : Int) < (n : Int) + 1), Bool.true_and]
 exact decide_eq_decide.mpr (by omega)
end
section
variable {P : Program} {w : World} {K : PySem.W.Frag} {mg : Str → Option Value} {base : Heap} {t : Ad}
def sp_allbits : Sp := fun vs H Q _ => ∃ (p : Addr) (ns : List Int), vs = [.ref p] ∧ H p = some (.lst (ns.map V.int)) ∧ ns.length ≤ 1000 ∧ ∀ H', Same H H' → Q (.bl (ns.all isBit)) H'
theorem ok_allbits (T : Txt K mg t) : FnOk P w K mg base CX0 4 t.f_allbits t.d_allbits ["values"] sp_allbits := by
 have G_isbit := ok_isbit (P := P) (w := w) (base := base) T
 refine T.F_allbits.ok sc_allbits (fun vs H Q E h => ?_) (fun cdv A outer s H vs Q E hr h => ?_)
 ·obtain ⟨p, ns, rfl, _⟩ := h; rfl
 ·obtain ⟨p, ns, rfl, hp, hl, k⟩ := h
  refine ⟨_, (pss_one (ps_ret (pe_callB (cI_allK K rfl rfl) rfl T.no_all (by rfl) (pa_cons (pe_comp (N := ["value"]) (cap := [none]) rfl ⟨rfl, rfl, rfl, rfl, rfl, rfl⟩ (pi_list (pv 0)) (fun _ _ _ => (pg_name (i := 0) (show (["value"] : List Str).Nodup by decide +kernel) rfl (Or.inl rfl))) (fun _ _ _ => pts_nil) (fun _ _ _ => (pe_call G_isbit (hr.mono (by first | decide | omega)) rfl T.mg_isbit T.F_isbit.kp T.b_isbit .nil pass0 (pa_cons (pv 0) pa_nil)))) pa_nil)))), ?_⟩
  walk_at "rd"
  refine ⟨⟨_, SqL.of hp⟩, fun l hn => ?_⟩
  refine compW_list (fun v => match v with | .int i => .bl (isBit i) | _ => .non) (SqL.of hp) (by rw [List.length_map]; exact hl) hn (fun x o H' Q' hx s1 q => ?_) (fun H' s1 e => ?_)
  ·obtain ⟨i, _, rfl⟩ := List.mem_map.mp hx
   walk_at "rd"
   exact ⟨i, rfl, q H' (Same.refl _)⟩
  ·walk_at "rd"
   have e' : H' l = some (.lst ((ns.map isBit).map V.bl)) := by rw [e, List.map_map, List.map_map]; rfl
   refine rd_all e' ?_
   rw [List.all_map]
   exact k H' s1
def bfl (a b : Addr) (w h : Int) : List (Str × V) := putF "row_bits" (.ref b) (putF "col_bits" (.ref a) (putF "rows_count" (.int h) (putF "columns_count" (.int w) [])))
def cfl (s : Int) (a b : Addr) (w h : Int) : List (Str × V) := putF "first_colour" (.int s) (bfl a b w h)
abbrev NoF (m : Str) : Prop := ((¬ m = "first_colour") ∧ ¬ m = "col_bits") ∧ (¬ m = "row_bits") ∧ (¬ m = "columns_count") ∧ ¬ m = "rows_count"
theorem bfl_c {w h : Int} (a b : Addr) : (bfl a b w h).lookup ("col_bits" : Str) = some (.ref a) := by
 unfold bfl; rw [lookup_putF, if_neg (by decide +kernel), lookup_putF, if_pos rfl]
theorem bfl_r {w h : Int} (a b : Addr) : (bfl a b w h).lookup ("row_bits" : Str) = some (.ref b) := by
 unfold bfl; rw [lookup_putF, if_pos rfl]
theorem bfl_no {w h : Int} (a b : Addr) {m : Str} (n : NoF m) : (bfl a b w h).lookup m = none := by
 obtain ⟨⟨n1, n2⟩, n3, n4, n5⟩ := n
 unfold bfl; rw [lookup_putF, if_neg n3, lookup_putF, if_neg n2, lookup_putF, if_neg n5, lookup_putF, if_neg n4]; rfl
theorem cfl_f {w h : Int} (s : Int) (a b : Addr) : (cfl s a b w h).lookup ("first_colour" : Str) = some (.int s) := by
 unfold cfl; rw [lookup_putF, if_pos rfl]
theorem cfl_c {w h : Int} (s : Int) (a b : Addr) : (cfl s a b w h).lookup ("col_bits" : Str) = some (.ref a) := by
 unfold cfl; rw [lookup_putF, if_neg (by decide +kernel), bfl_c]
theorem cfl_r {w h : Int} (s : Int) (a b : Addr) : (cfl s a b w h).lookup ("row_bits" : Str) = some (.ref b) := by
 unfold cfl; rw [lookup_putF, if_neg (by decide +kernel), bfl_r]
theorem cfl_no {w h : Int} (s : Int) (a b : Addr) {m : Str} (n : NoF m) : (cfl s a b w h).lookup m = none := by
 unfold cfl; rw [lookup_putF, if_neg n.1.1, bfl_no _ _ n]
structure BoardAt (C : Addr) (H : Hp) (p : Addr) (w h : Int) (cs rs : List Int) : Prop where
 ob : ∃ dx a b, H p = some (.ins C dx (bfl a b w h)) ∧ H a = some (.tup (cs.map V.int)) ∧ H b = some (.tup (rs.map V.int))
structure ClothAt (C : Addr) (H : Hp) (p : Addr) (s : Int) (cs rs : List Int) : Prop where
 ob : ∃ dx a b, H p = some (.ins C dx (cfl s a b ((cs.length : Int) + 1) ((rs.length : Int) + 1))) ∧ H a = some (.tup (cs.map V.int)) ∧ H b = some (.tup (rs.map V.int))
theorem ClothAt.mono {C : Addr} {H H' : Hp} {p : Addr} {s : Int} {cs rs : List Int} (e : Same H H') (c : ClothAt C H p s cs rs) : ClothAt C H' p s cs rs := by
 obtain ⟨dx, a, b, h1, h2, h3⟩ := c.ob
 exact ⟨dx, a, b, e _ _ h1, e _ _ h2, e _ _ h3⟩
def Bits (l : List Int) : Prop := l.length ≤ 39 ∧ ∀ z ∈ l, z = 0 ∨ z = 1
theorem Bits.all {l : List Int} (h : Bits l) : l.all isBit = true := by
 rw [List.all_eq_true]
 intro z hz
 rcases h.2 z hz with rfl | rfl <;> rfl
def KpBut (H : Hp) (p : Addr) (H' : Hp) : Prop := ∀ b o, H b = some o → b ≠ p → H' b = some o
def bitsOk (s : Int) (cs rs : List Int) : Bool := isBit s && (cs.all isBit && rs.all isBit)
theorem Bits.ok {s : Int} {cs rs : List Int} (hs : s = 0 ∨ s = 1) (bc : Bits cs) (br : Bits rs) : bitsOk s cs rs = true := by
 unfold bitsOk
 rw [bc.all, br.all]
 rcases hs with rfl | rfl <;> rfl
def spx_BoardInit (C BB : Addr) : Sp := fun vs H Q E => ∃ (p dx c r : Addr) (w h : Int) (cs rs : List Int), vs = [.ref p, .int w, .int h, .ref c, .ref r] ∧ H p = some (.ins C dx []) ∧ H c = some (.lst (cs.map V.int)) ∧ H r = some (.lst (rs.map V.int)) ∧
 cs.length ≤ 1000 ∧ rs.length ≤ 1000 ∧ (((cs.all isBit && rs.all isBit) = false ∧ ∀ H', Same H H' → E (.ref BB) none H') ∨
  ((cs.all isBit && rs.all isBit) = true ∧ ∀ H', KpBut H p H' → BoardAt C H' p w h cs rs → Q .non H'))
theorem okx_BoardInit (T : Txt K mg t) : FnOk P w K mg base (CX2 P w) 5 t.f_BoardInit t.d_BoardInit ["self", "wide", "tall", "cols", "rows"] (spx_BoardInit t.a_Cloth t.a_BadBit) := by
 have G_allbits := ok_allbits (P := P) (w := w) (base := base) T
 refine T.F_BoardInit.ok2 sc_BoardInit (fun vs H Q E h => ?_) (fun cdv A outer s H vs Q E hr h => ?_)
 ·obtain ⟨p, dx, c, r, wd, ht, cs, rs, rfl, _⟩ := h; rfl
 ·obtain ⟨p, dx, c, r, wd, ht, cs, rs, rfl, hp, hc, hr', lc, lr, k⟩ := h
  refine cutC (ps_if (pt_not (PW.pt (pw_and (pt_val (pe_call G_allbits.up2 (hr.mono (by first | decide | omega)) rfl T.mg_allbits T.F_allbits.kp T.b_allbits .nil pass2 (pa_cons (pv 3) pa_nil))) (pw_and1 (pt_val (pe_call G_allbits.up2 (hr.mono (by first | decide | omega)) rfl T.mg_allbits T.F_allbits.kp T.b_allbits .nil pass2 (pa_cons (pv 4) pa_nil))))))) (pss_one (ps_raiseK T.mg_BadBit T.x_BadBit PySem.F.excBase_ValueError rfl rfl (fun _ _ _ _ _ _ _ _ I m q => xe_new2 I m q) (pa_cons pe_str pa_nil))) pss_nil) fun _ _ => cutC (ps_fld (pv 0) (pv 1) rfl) fun _ _ => cutC (ps_fld (pv 0) (pv 2) rfl) fun _ _ => cutC (ps_fld (pv 0) (pe_callTy (cI_tupleK K rfl) rfl T.no_tuple (by rfl) (pa_cons (pv 3) pa_nil)) rfl) fun _ _ => cutE (ps_fld (pv 0) (pe_callTy (cI_tupleK K rfl) rfl T.no_tuple (by rfl) (pa_cons (pv 4) pa_nil)) rfl) fun _ _ => ?_
  walk_at "rd"
  refine ⟨c, cs, rfl, hc, lc, fun H1 s1 => ?_⟩
  cases b2 : cs.all isBit with
  | false =>
   walk_at "rd"
   refine ⟨by show 1 ≤ sizeLine; decide, ?_⟩
   rcases k with ⟨_, e⟩ | ⟨y, _⟩
   ·exact e _ s1
   ·rw [b2] at y; cases y
  | true =>
   walk_at "rd"
   refine ⟨r, rs, rfl, s1 _ _ hr', lr, fun H2 s2 => ?_⟩
   have s12 := s1.trans s2
   cases b3 : rs.all isBit with
   | false =>
    walk_at "rd"
    refine ⟨by show 1 ≤ sizeLine; decide, ?_⟩
    rcases k with ⟨_, e⟩ | ⟨y, _⟩
    ·exact e _ s12
    ·rw [b2, b3] at y; cases y
   | true =>
    walk_at "rd"
    have k : ∀ H', KpBut H p H' → BoardAt t.a_Cloth H' p wd ht cs rs → Q .non H' := by
     rcases k with ⟨y, _⟩ | ⟨_, z⟩
     ·rw [b2, b3] at y; cases y
     ·exact z
    have npc : c ≠ p := ne_of hc hp (by intro z; cases z)
    have npr : r ≠ p := ne_of hr' hp (by intro z; cases z)
    refine rd_sfldv (s12 _ _ hp) T.cl_Cloth T.na_columns_count (by show 0 < 1000; decide) ?_
    walk_at "rd"
    refine rd_sfldv upd_same T.cl_Cloth T.na_rows_count (Nat.lt_of_le_of_lt (length_putF _ _ _) (by show 1 < 1000; decide)) ?_
    rw [upd_upd]
    walk_at "rd"
    refine rd_tupleL (by rw [upd_ne npc]; exact s12 _ _ hc) fun a ha => ?_
    have pa : p ≠ a := by intro z; subst z; rw [upd_same] at ha; cases ha
    walk_at "rd"
    refine rd_sfldv (by rw [upd_ne pa, upd_same]) T.cl_Cloth T.na_col_bits (Nat.lt_of_le_of_lt (length_putF _ _ _) (Nat.lt_of_le_of_lt (Nat.succ_le_succ (length_putF _ _ _)) (by show 2 < 1000; decide))) ?_
    walk_at "rd"
    have ra : r ≠ a := by intro z; subst z; rw [upd_ne npr, s12 _ _ hr'] at ha; cases ha
    refine rd_tupleL (by rw [upd_ne npr, upd_ne ra, upd_ne npr]; exact s12 _ _ hr') fun b hb => ?_
    have pb : p ≠ b := by intro z; subst z; rw [upd_same] at hb; cases hb
    have ab : a ≠ b := by intro z; subst z; rw [upd_ne pa.symm, upd_same] at hb; cases hb
    walk_at "rd"
    refine rd_sfldv (by rw [upd_ne pb, upd_same]) T.cl_Cloth T.na_row_bits (Nat.lt_of_le_of_lt (length_putF _ _ _) (Nat.lt_of_le_of_lt (Nat.succ_le_succ (length_putF _ _ _)) (Nat.lt_of_le_of_lt (Nat.succ_le_succ (Nat.succ_le_succ (length_putF _ _ _))) (by show 3 < 1000; decide)))) ?_
    walk_at "rd"
    refine k _ (fun x o e hx => ?_) ⟨⟨dx, a, b, upd_same, ?_, ?_⟩⟩
    ·have e2 := s12 _ _ e
     have xa : x ≠ a := by intro z; subst z; rw [upd_ne hx, e2] at ha; cases ha
     have xb : x ≠ b := by intro z; subst z; rw [upd_ne hx, upd_ne xa, upd_ne hx, e2] at hb; cases hb
     rw [upd_ne hx, upd_ne xb, upd_ne hx, upd_ne xa, upd_ne hx]
     exact e2
    ·rw [upd_ne pa.symm, upd_ne ab, upd_ne pa.symm, upd_same]
    ·rw [upd_ne pb.symm, upd_same]
def spx_ClothInit (C BS BB : Addr) : Sp := fun vs H Q E => ∃ (p dx c r : Addr) (s : Int) (cs rs : List Int), vs = [.ref p, .int s, .ref c, .ref r] ∧ H p = some (.ins C dx []) ∧ H c = some (.lst (cs.map V.int)) ∧ H r = some (.lst (rs.map V.int)) ∧
 cs.length ≤ 1000 ∧ rs.length ≤ 1000 ∧ ((¬ (cs.length ≤ 39 ∧ rs.length ≤ 39) ∧ E (.ref BS) none H) ∨ ((cs.length ≤ 39 ∧ rs.length ≤ 39) ∧ bitsOk s cs rs = false ∧ ∀ H', KpBut H p H' → E (.ref BB) none H') ∨
  ((cs.length ≤ 39 ∧ rs.length ≤ 39) ∧ bitsOk s cs rs = true ∧ ∀ H', KpBut H p H' → ClothAt C H' p s cs rs → Q .non H'))
theorem okx_ClothInit (T : Txt K mg t) : FnOk P w K mg base (CX2 P w) 6 t.f_ClothInit t.d_ClothInit ["self", "shade", "cols", "rows"] (spx_ClothInit t.a_Cloth t.a_BadSize t.a_BadBit) := by
 have G_isbit := ok_isbit (P := P) (w := w) (base := base) T
 have GX_BoardInit := okx_BoardInit (P := P) (w := w) (base := base) T
 have G_isside := ok_isside (P := P) (w := w) (base := base) T
 refine T.F_ClothInit.ok2 sc_ClothInit (fun vs H Q E h => ?_) (fun cdv A outer s H vs Q E hr h => ?_)
 ·obtain ⟨p, dx, c, r, s, cs, rs, rfl, _⟩ := h; rfl
 ·obtain ⟨p, dx, c, r, s, cs, rs, rfl, hp, hc, hr', lc, lr, k⟩ := h
  refine cutC (ps_if (pt_not (PW.pt (pw_and (pt_val (pe_call G_isside.up2 (hr.mono (by first | decide | omega)) rfl T.mg_isside T.F_isside.kp T.b_isside .nil pass2 (pa_cons (pe_op op_add (pe_callB (cI_lenK K rfl) rfl T.no_len (by rfl) (pa_cons (pv 2) pa_nil)) pe_int) pa_nil))) (pw_and1 (pt_val (pe_call G_isside.up2 (hr.mono (by first | decide | omega)) rfl T.mg_isside T.F_isside.kp T.b_isside .nil pass2 (pa_cons (pe_op op_add (pe_callB (cI_lenK K rfl) rfl T.no_len (by rfl) (pa_cons (pv 3) pa_nil)) pe_int) pa_nil))))))) (pss_one (ps_raiseK T.mg_BadSize T.x_BadSize PySem.F.excBase_ValueError rfl rfl (fun _ _ _ _ _ _ _ _ I m q => xe_new2 I m q) (pa_cons pe_str pa_nil))) pss_nil) fun _ _ => cutC (ps_if (pt_not (pt_val (pe_call G_isbit.up2 (hr.mono (by first | decide | omega)) rfl T.mg_isbit T.F_isbit.kp T.b_isbit .nil pass2 (pa_cons (pv 1) pa_nil)))) (pss_one (ps_raiseK T.mg_BadBit T.x_BadBit PySem.F.excBase_ValueError rfl rfl (fun _ _ _ _ _ _ _ _ I m q => xe_new2 I m q) (pa_cons pe_str pa_nil))) pss_nil) fun _ _ => cutC (ps_expr (pe_callC rfl T.mg_Board T.cf_BoardInit GX_BoardInit (hr.mono (by first | decide | omega)) T.b_BoardInit .nil pass2 (pa_cons (pv 0) (pa_cons (pe_op op_add (pe_callB (cI_lenK K rfl) rfl T.no_len (by rfl) (pa_cons (pv 2) pa_nil)) pe_int) (pa_cons (pe_op op_add (pe_callB (cI_lenK K rfl) rfl T.no_len (by rfl) (pa_cons (pv 3) pa_nil)) pe_int) (pa_cons (pv 2) (pa_cons (pv 3) pa_nil))))))) fun _ _ => cutE (ps_fld (pv 0) (pv 1) rfl) fun _ _ => ?_
  walk_at "rd"
  refine rd_lenL hc ?_
  walk_at "rd"
  refine ⟨_, rfl, ?_⟩
  rw [List.length_map, side_len]
  have sz : (¬ (cs.length ≤ 39 ∧ rs.length ≤ 39) → E (.ref t.a_BadSize) none H) := fun n => by
   rcases k with ⟨_, e⟩ | ⟨z, _⟩ | ⟨z, _⟩
   ·exact e
   ·exact absurd z n
   ·exact absurd z n
  by_cases c1 : cs.length ≤ 39
  ·rw [decide_eq_true c1]
   walk_at "rd"
   refine rd_lenL hr' ?_
   walk_at "rd"
   refine ⟨_, rfl, ?_⟩
   rw [List.length_map, side_len]
   by_cases c2 : rs.length ≤ 39
   ·rw [decide_eq_true c2]
    walk_at "rd"
    have k : (bitsOk s cs rs = false ∧ ∀ H', KpBut H p H' → E (.ref t.a_BadBit) none H') ∨ (bitsOk s cs rs = true ∧ ∀ H', KpBut H p H' → ClothAt t.a_Cloth H' p s cs rs → Q .non H') := by
     rcases k with ⟨z, _⟩ | ⟨_, z⟩ | ⟨_, z⟩
     ·exact absurd ⟨c1, c2⟩ z
     ·exact .inl z
     ·exact .inr z
    have bad : ∀ H', bitsOk s cs rs = false → Same H H' → E (.ref t.a_BadBit) none H' := fun H' z sm => by
     rcases k with ⟨_, e⟩ | ⟨y, _⟩
     ·exact e H' fun b o eb _ => sm b o eb
     ·rw [z] at y; cases y
    refine ⟨s, rfl, ?_⟩
    cases b1 : isBit s with
    | false =>
     walk_at "rd"
     refine ⟨by show 1 ≤ sizeLine; decide, ?_⟩
     exact bad _ (by unfold bitsOk; rw [b1]; rfl) (Same.refl _)
    | true =>
     walk_at "rd"
     refine rd_lenL hc ?_
     walk_at "rd"
     refine rd_lenL hr' ?_
     walk_at "rd"
     rw [List.length_map, List.length_map]
     refine ⟨p, dx, c, r, _, _, cs, rs, rfl, hp, hc, hr', lc, lr, ?_⟩
     cases b2 : (cs.all isBit && rs.all isBit) with
     | false => exact .inl ⟨rfl, fun H' s1 => bad _ (by unfold bitsOk; rw [b2, Bool.and_false]) s1⟩
     | true =>
      refine .inr ⟨rfl, fun H' kp ⟨dx', a, b, h1, h2, h3⟩ => ?_⟩
      have k : ∀ H', KpBut H p H' → ClothAt t.a_Cloth H' p s cs rs → Q .non H' := by
       rcases k with ⟨y, _⟩ | ⟨_, z⟩
       ·unfold bitsOk at y; rw [b1, b2] at y; cases y
       ·exact z
      walk_at "rd"
      refine rd_sfldv h1 T.cl_Cloth T.na_first_colour (by unfold bfl; exact Nat.lt_of_le_of_lt (length_putF _ _ _) (Nat.lt_of_le_of_lt (Nat.succ_le_succ (length_putF _ _ _)) (Nat.lt_of_le_of_lt (Nat.succ_le_succ (Nat.succ_le_succ (length_putF _ _ _))) (Nat.lt_of_le_of_lt (Nat.succ_le_succ (Nat.succ_le_succ (Nat.succ_le_succ (length_putF _ _ _)))) (by show 4 < 1000; decide))))) ?_
      walk_at "rd"
      have pa : a ≠ p := ne_of h2 h1 (by intro z; cases z)
      have pb : b ≠ p := ne_of h3 h1 (by intro z; cases z)
      refine k _ (fun x o e hx => ?_) ⟨⟨dx', a, b, upd_same, ?_, ?_⟩⟩
      ·rw [upd_ne hx]; exact kp x o e hx
      ·rw [upd_ne pa]; exact h2
      ·rw [upd_ne pb]; exact h3
   ·rw [decide_eq_false c2]
    walk_at "rd"
    exact ⟨by show 1 ≤ sizeLine; decide, sz fun z => c2 z.2⟩
  ·rw [decide_eq_false c1]
   walk_at "rd"
   exact ⟨by show 1 ≤ sizeLine; decide, sz fun z => c1 z.1⟩
def sp_ClothInit (C : Addr) : Sp := fun vs H Q _ => ∃ (p dx c r : Addr) (s : Int) (cs rs : List Int), vs = [.ref p, .int s, .ref c, .ref r] ∧ H p = some (.ins C dx []) ∧ H c = some (.lst (cs.map V.int)) ∧ H r = some (.lst (rs.map V.int)) ∧
 (s = 0 ∨ s = 1) ∧ Bits cs ∧ Bits rs ∧ ∀ H', (∀ b o, H b = some o → b ≠ p → H' b = some o) → ClothAt C H' p s cs rs → Q .non H'
theorem ok_ClothInit (T : Txt K mg t) : FnOk P w K mg base CX0 6 t.f_ClothInit t.d_ClothInit ["self", "shade", "cols", "rows"] (sp_ClothInit t.a_Cloth) :=
 (okx_ClothInit T).one.down fun vs H Q E hh => by
  obtain ⟨p, dx, c, r, s, cs, rs, e, hp, hc, hr, hs, bc, br, k⟩ := hh
  exact ⟨p, dx, c, r, s, cs, rs, e, hp, hc, hr, by have := bc.1; omega, by have := br.1; omega, .inr (.inr ⟨⟨bc.1, br.1⟩, Bits.ok hs bc br, k⟩)⟩
end
section
variable {P : Program} {w : World} {K : PySem.W.Frag} {mg : Str → Option Value} {base : Heap} {t : Ad}
def sp_Clothshade (C : Addr) : Sp := fun vs H Q _ => ∃ (p : Addr) (s : Int) (cs rs : List Int), vs = [.ref p] ∧ ClothAt C H p s cs rs ∧ Q (.int s) H
theorem ok_Clothshade (T : Txt K mg t) : FnOk P w K mg base CX0 1 t.f_Clothshade t.d_Clothshade ["self"] (sp_Clothshade t.a_Cloth) := by
 refine T.F_Clothshade.ok sc_Clothshade (fun vs H Q E h => ?_) (fun cdv A outer s H vs Q E hr h => ?_)
 ·obtain ⟨p, s, cs, rs, rfl, _⟩ := h; rfl
 ·obtain ⟨p, s, cs, rs, rfl, ⟨dx, a, b, h1, h2, h3⟩, k⟩ := h
  refine ⟨_, (pss_one (ps_ret (pe_fldK K rfl (pv 0) rfl))), ?_⟩
  walk_at "rd"
  refine rd_fldv h1 T.cl_Cloth T.na_first_colour (cfl_f _ _ _) ?_
  exact k
def sp_Clothcols (C : Addr) : Sp := fun vs H Q _ => ∃ (p : Addr) (s : Int) (cs rs : List Int), vs = [.ref p] ∧ ClothAt C H p s cs rs ∧ ∀ l, H l = none → Q (.ref l) (upd H l (.lst (cs.map V.int)))
theorem ok_Clothcols (T : Txt K mg t) : FnOk P w K mg base CX0 1 t.f_Clothcols t.d_Clothcols ["self"] (sp_Clothcols t.a_Cloth) := by
 refine T.F_Clothcols.ok sc_Clothcols (fun vs H Q E h => ?_) (fun cdv A outer s H vs Q E hr h => ?_)
 ·obtain ⟨p, s, cs, rs, rfl, _⟩ := h; rfl
 ·obtain ⟨p, s, cs, rs, rfl, ⟨dx, a, b, h1, h2, h3⟩, k⟩ := h
  refine ⟨_, (pss_one (ps_ret (pe_callTy (cI_listK K rfl) rfl T.no_list (by rfl) (pa_cons (pe_fldK K rfl (pv 0) rfl) pa_nil)))), ?_⟩
  walk_at "rd"
  refine rd_fldv h1 T.cl_Cloth T.na_col_bits (cfl_c _ _ _) ?_
  walk_at "rd"
  exact rd_listT h2 k
def sp_Clothrows (C : Addr) : Sp := fun vs H Q _ => ∃ (p : Addr) (s : Int) (cs rs : List Int), vs = [.ref p] ∧ ClothAt C H p s cs rs ∧ ∀ l, H l = none → Q (.ref l) (upd H l (.lst (rs.map V.int)))
theorem ok_Clothrows (T : Txt K mg t) : FnOk P w K mg base CX0 1 t.f_Clothrows t.d_Clothrows ["self"] (sp_Clothrows t.a_Cloth) := by
 refine T.F_Clothrows.ok sc_Clothrows (fun vs H Q E h => ?_) (fun cdv A outer s H vs Q E hr h => ?_)
 ·obtain ⟨p, s, cs, rs, rfl, _⟩ := h; rfl
 ·obtain ⟨p, s, cs, rs, rfl, ⟨dx, a, b, h1, h2, h3⟩, k⟩ := h
  refine ⟨_, (pss_one (ps_ret (pe_callTy (cI_listK K rfl) rfl T.no_list (by rfl) (pa_cons (pe_fldK K rfl (pv 0) rfl) pa_nil)))), ?_⟩
  walk_at "rd"
  refine rd_fldv h1 T.cl_Cloth T.na_row_bits (cfl_r _ _ _) ?_
  walk_at "rd"
  exact rd_listT h3 k
end
section
variable {P : Program} {w : World} {K : PySem.W.Frag} {mg : Str → Option Value} {base : Heap} {t : Ad}
def Sm (z : Int) : Prop := -1000000000000000000 < z ∧ z < 1000000000000000000
theorem sm_snoc {zs : List Int} {z : Int} (h : ∀ y ∈ zs, Sm y) (hz : Sm z) : ∀ y ∈ zs ++ [z], Sm y := fun y hy => by
 rcases List.mem_append.mp hy with q | q
 ·exact h y q
 ·rw [List.mem_singleton.mp q]; exact hz
theorem sm_mod (r : Int) {m : Int} (h0 : 0 < m) (h1 : m ≤ 1000003) : Sm (r % m) := by
 have := Int.emod_nonneg r (by omega : m ≠ 0)
 have := Int.emod_lt_of_pos r h0
 unfold Sm; omega
def sp_Ldraws (K : PySem.W.Frag) : Sp := fun vs H Q _ => ∃ (a : Addr) (m : Nat) (ns : List Int), vs = [.ref a, .int m] ∧ SqL K H a (ns.map V.int) ∧ ns.length ≤ 63 ∧ m ≤ 200 ∧
 ∀ (l : Addr) (zs : List Int) (H' : Hp), Same H H' → H' l = some (.lst (zs.map V.int)) → m ≤ zs.length → zs.length ≤ 300 → (∀ z ∈ zs, Sm z) → Q (.ref l) H'
theorem map_snoc (zs : List Int) (z : Int) : zs.map V.int ++ [V.int z] = (zs ++ [z]).map V.int := by simp
theorem ok_Ldraws (T : Txt K mg t) : FnOk P w K mg base CX0 1 t.f_Ldraws t.d_Ldraws ["_law_script", "_law_many"] (sp_Ldraws K) := by
 refine T.F_Ldraws.ok sc_Ldraws (fun vs H Q E h => ?_) (fun cdv A outer s H vs Q E hr h => ?_)
 ·obtain ⟨a, m, ns, rfl, _⟩ := h; rfl
 ·obtain ⟨a, m, ns, rfl, hS, hl, hm, k⟩ := h
  refine cutC (ps_set (i := 2) sc_Ldraws.nd rfl (Or.inl rfl) (pe_lst pa_nil)) fun _ _ => cutC (ps_set (i := 3) sc_Ldraws.nd rfl (Or.inl rfl) pe_int) fun _ _ => cutC (ps_for PassesOwn.never rfl (pi_list (pv 0)) (pg_name (i := 4) sc_Ldraws.nd rfl (Or.inl rfl)) (pss_cons (ps_set (i := 3) sc_Ldraws.nd rfl (Or.inl rfl) (pe_op op_mod (pe_op op_add (pe_op op_mul (pv 3) pe_int) (pv 4)) pe_int)) (pss_cons (ps_set (i := 5) sc_Ldraws.nd rfl (Or.inl rfl) (pe_callB cI_abs rfl T.no_abs (by rfl) (pa_cons (pv 4) pa_nil))) (pss_cons (ps_if (pt_cmpR op_lt (pv 5) (pe_op op_pow pe_int pe_int) (nomark _)) (pss_cons (ps_expr (pe_bm PySem.F.plainAttrs_list PySem.F.slot_list_append PySem.F.type_list_append mt_append (pv 2) (pa_cons (pv 4) pa_nil))) (pss_one (ps_set (i := 5) sc_Ldraws.nd rfl (Or.inl rfl) pe_int))) pss_nil) (pss_one (ps_while PassesOwn.never (PW.pt (pw_and (pt_cmpR op_gt (pv 5) pe_int (nomark _)) (pw_and1 (pt_cmpR op_lt (pe_callB (cI_lenK K rfl) rfl T.no_len (by rfl) (pa_cons (pv 2) pa_nil)) (pv 1) (nomark _))))) (pss_cons (ps_expr (pe_bm PySem.F.plainAttrs_list PySem.F.slot_list_append PySem.F.type_list_append mt_append (pv 2) (pa_cons (pe_op op_mod (pv 5) pe_int) pa_nil))) (pss_one (ps_set (i := 5) sc_Ldraws.nd rfl (Or.inl rfl) (pe_op op_fdiv (pv 5) pe_int)))))))))) fun _ _ => cutC (ps_while PassesOwn.never (pt_cmpR op_lt (pe_callB (cI_lenK K rfl) rfl T.no_len (by rfl) (pa_cons (pv 2) pa_nil)) (pv 1) (nomark _)) (pss_cons (ps_set (i := 3) sc_Ldraws.nd rfl (Or.inl rfl) (pe_op op_mod (pe_op op_add (pe_op op_mul (pv 3) pe_int) pe_int) pe_int)) (pss_one (ps_expr (pe_bm PySem.F.plainAttrs_list PySem.F.slot_list_append PySem.F.type_list_append mt_append (pv 2) (pa_cons (pe_op op_mod (pe_op op_mul (pv 3) (pv 3)) pe_int) pa_nil)))))) fun _ _ => cutE (ps_ret (pv 2)) fun _ _ => ?_
  walk_at "rd"
  refine ⟨Nat.zero_le _, fun l hn => ?_⟩
  walk_at "rd"
  have hz : ∀ {zs : List Int}, zs.length ≤ 300 → (zs.map V.int).length < sizeLine := fun h => by rw [List.length_map]; exact small1000 (by omega)
  refine ⟨⟨_, (Same.new hn).seq hS⟩, forW_list (K := K) (a := a) (xs := ns.map V.int) (fun i σ' H' => ∃ (zs : List Int) (mix : Int) (c r : Option V), σ' = [some (.ref a), some (.int m), some (.ref l), some (.int mix), c, r] ∧ Same H H' ∧ H' l = some (.lst (zs.map V.int)) ∧ zs.length ≤ i + m ∧ ∀ z ∈ zs, Sm z)
   ⟨[], 1, none, none, rfl, Same.new hn, upd_same, Nat.zero_le _, fun z hz => by cases hz⟩ (fun i σ' H' _ ⟨_, _, _, _, _, s, _⟩ => s.seq hS) ?_ ?_⟩
  ·rintro i y σ' H' hi ⟨zs, mix, c, r, rfl, s1, e1, lz, sm⟩
   have hil : i < ns.length := by have := (List.getElem?_eq_some_iff.mp hi).1; rwa [List.length_map] at this
   obtain ⟨z, rfl⟩ : ∃ z, y = V.int z := by
    rw [List.getElem?_map] at hi
    cases e : ns[i]? with
    | none => rw [e] at hi; cases hi
    | some z => rw [e] at hi; exact ⟨z, (Option.some.inj hi).symm⟩
   walk_at "rd"
   refine rd_I (.inr ⟨by decide, by decide⟩) ?_
   walk_at "rd"
   refine rd_I (by decide) ?_
   walk_at "rd"
   refine rd_I ⟨by decide, by decide, by decide⟩ ?_
   walk_at "rd"
   refine ite2 (fun hc => ?_) (fun _ => ?_)
   ·have hc := of_decide_eq_true hc
    have hcz : Sm z := by
     unfold Sm
     have e18 : (10 : Int) ^ 18 = 1000000000000000000 := by decide
     by_cases hz0 : z < 0
     ·rw [if_pos hz0] at hc; change -z < (10 : Int) ^ 18 at hc; omega
     ·rw [if_neg hz0] at hc; change z < (10 : Int) ^ 18 at hc; omega
    walk_at "rd"
    refine rd_bmL e1 ?_
    walk_at "rd"
    refine rd_append e1 (hz (by omega)) ?_
    rw [map_snoc]
    walk_at "rd"
    refine ⟨fun n σ' H' => ∃ (zs : List Int) (mix : Int) (r : Int), σ' = [some (.ref a), some (.int m), some (.ref l), some (.int mix), some (.int z), some (.int r)] ∧ Same H H' ∧ H' l = some (.lst (zs.map V.int)) ∧ zs.length ≤ i + 1 + m ∧ n = m - zs.length ∧ ∀ z ∈ zs, Sm z,
     ⟨_, zs ++ [z], _, _, rfl, s1.later hn, upd_same, by rw [List.length_append, List.length_singleton]; omega, rfl, sm_snoc sm hcz⟩, ?_⟩
    rintro n σ' H' ⟨zs, mix, r, rfl, s1, e1, lz, rfl, sm⟩
    walk_at "rd"
    refine ite2 (fun _ => ?_) (fun _ => ?_)
    ·walk_at "rd"
     refine rd_lenL e1 ?_
     walk_at "rd"
     rw [List.length_map]
     refine ite2 (fun h2 => ?_) (fun h2 => ?_)
     ·have h2 := of_decide_eq_true h2
      refine ⟨fun σ' H' => ∃ (zs' : List Int) (mix : Int) (r : Int), σ' = [some (.ref a), some (.int m), some (.ref l), some (.int mix), some (.int z), some (.int r)] ∧ Same H H' ∧ H' l = some (.lst (zs'.map V.int)) ∧ zs'.length = zs.length + 1 ∧ ∀ z ∈ zs', Sm z, ?_, ?_⟩
      ·rintro σ' H' ⟨zs', mix, r, rfl, s1, e1, lz', sm'⟩
       exact ⟨m - zs'.length, by omega, zs', mix, r, rfl, s1, e1, by omega, rfl, sm'⟩
      ·walk_at "rd"
       refine rd_bmL e1 ?_
       walk_at "rd"
       refine rd_I (by decide) ?_
       walk_at "rd"
       refine rd_append e1 (hz (by omega)) ?_
       rw [map_snoc]
       walk_at "rd"
       refine rd_I ⟨by decide, by decide⟩ ?_
       walk_at "rd"
       exact ⟨zs ++ [r % 1000003], mix, _, rfl, s1.later hn, upd_same, by rw [List.length_append, List.length_singleton], sm_snoc sm (sm_mod r (by decide) (by decide))⟩
     ·walk_at "rd"
      exact ⟨zs, mix, _, _, rfl, s1, e1, lz, sm⟩
    ·walk_at "rd"
     exact ⟨zs, mix, _, _, rfl, s1, e1, lz, sm⟩
   ·walk_at "rd"
    refine ⟨fun n σ' H' => ∃ (zs : List Int) (mix : Int) (r : Int), σ' = [some (.ref a), some (.int m), some (.ref l), some (.int mix), some (.int z), some (.int r)] ∧ Same H H' ∧ H' l = some (.lst (zs.map V.int)) ∧ zs.length ≤ i + 1 + m ∧ n = m - zs.length ∧ ∀ z ∈ zs, Sm z,
     ⟨_, zs, _, _, rfl, s1, e1, by omega, rfl, sm⟩, ?_⟩
    rintro n σ' H' ⟨zs, mix, r, rfl, s1, e1, lz, rfl, sm⟩
    walk_at "rd"
    refine ite2 (fun _ => ?_) (fun _ => ?_)
    ·walk_at "rd"
     refine rd_lenL e1 ?_
     walk_at "rd"
     rw [List.length_map]
     refine ite2 (fun h2 => ?_) (fun h2 => ?_)
     ·have h2 := of_decide_eq_true h2
      refine ⟨fun σ' H' => ∃ (zs' : List Int) (mix : Int) (r : Int), σ' = [some (.ref a), some (.int m), some (.ref l), some (.int mix), some (.int z), some (.int r)] ∧ Same H H' ∧ H' l = some (.lst (zs'.map V.int)) ∧ zs'.length = zs.length + 1 ∧ ∀ z ∈ zs', Sm z, ?_, ?_⟩
      ·rintro σ' H' ⟨zs', mix, r, rfl, s1, e1, lz', sm'⟩
       exact ⟨m - zs'.length, by omega, zs', mix, r, rfl, s1, e1, by omega, rfl, sm'⟩
      ·walk_at "rd"
       refine rd_bmL e1 ?_
       walk_at "rd"
       refine rd_I (by decide) ?_
       walk_at "rd"
       refine rd_append e1 (hz (by omega)) ?_
       rw [map_snoc]
       walk_at "rd"
       refine rd_I ⟨by decide, by decide⟩ ?_
       walk_at "rd"
       exact ⟨zs ++ [r % 1000003], mix, _, rfl, s1.later hn, upd_same, by rw [List.length_append, List.length_singleton], sm_snoc sm (sm_mod r (by decide) (by decide))⟩
     ·walk_at "rd"
      exact ⟨zs, mix, _, _, rfl, s1, e1, lz, sm⟩
    ·walk_at "rd"
     exact ⟨zs, mix, _, _, rfl, s1, e1, lz, sm⟩
  ·rintro σ' H' ⟨zs, mix, c, r, rfl, s1, e1, lz, sm⟩
   rw [List.length_map] at lz
   walk_at "rd"
   refine ⟨fun n σ' H' => ∃ (zs : List Int) (mix : Int), σ' = [some (.ref a), some (.int m), some (.ref l), some (.int mix), c, r] ∧ (-(2 ^ 64) < mix ∧ mix < 2 ^ 64 ∨ True) ∧ Same H H' ∧ H' l = some (.lst (zs.map V.int)) ∧ zs.length ≤ 300 ∧ n = m - zs.length ∧ ∀ z ∈ zs, Sm z,
    ⟨_, zs, mix, rfl, .inr trivial, s1, e1, by omega, rfl, sm⟩, ?_⟩
   rintro n σ' H' ⟨zs, mix, rfl, _, s1, e1, lz, rfl, sm⟩
   walk_at "rd"
   refine rd_lenL e1 ?_
   walk_at "rd"
   rw [List.length_map]
   refine ite2 (fun h2 => ?_) (fun h2 => ?_)
   ·have h2 := of_decide_eq_true h2
    refine ⟨fun σ' H' => ∃ (zs' : List Int) (mix : Int), σ' = [some (.ref a), some (.int m), some (.ref l), some (.int mix), c, r] ∧ Same H H' ∧ H' l = some (.lst (zs'.map V.int)) ∧ zs'.length = zs.length + 1 ∧ ∀ z ∈ zs', Sm z, ?_, ?_⟩
    ·rintro σ' H' ⟨zs', mix, rfl, s1, e1, lz', sm'⟩
     exact ⟨m - zs'.length, by omega, zs', mix, rfl, .inr trivial, s1, e1, by omega, rfl, sm'⟩
    ·walk_at "rd"
     refine rd_I (.inr ⟨by decide, by decide⟩) ?_
     walk_at "rd"
     refine rd_I (by decide) ?_
     walk_at "rd"
     refine rd_bmL e1 ?_
     walk_at "rd"
     refine rd_I (.inl ⟨by omega, by omega⟩) ?_
     walk_at "rd"
     refine rd_I (by decide) ?_
     walk_at "rd"
     refine rd_append e1 (hz (by omega)) ?_
     rw [map_snoc]
     walk_at "rd"
     exact ⟨zs ++ [_], _, rfl, s1.later hn, upd_same, by rw [List.length_append, List.length_singleton], sm_snoc sm (sm_mod _ (by decide) (by decide))⟩
   ·have h2 : ¬ ((zs.length : Int) < m) := fun z => h2 (decide_eq_true z)
    walk_at "rd"
    exact k l zs H' s1 e1 (by omega) (by omega) sm
end
section
variable {P : Program} {w : World} {K : PySem.W.Frag} {mg : Str → Option Value} {base : Heap} {t : Ad}
def sp_Lbits : Sp := fun vs H Q _ => ∃ (n : Int) (m : Nat), vs = [.int n, .int m] ∧ m ≤ 100 ∧ ∀ (l : Addr) (bs : List Int) (H' : Hp), Same H H' → H' l = some (.lst (bs.map V.int)) → bs.length = m → (∀ z ∈ bs, z = 0 ∨ z = 1) → Q (.ref l) H'
theorem emod_le {a b : Int} (ha : 0 ≤ a) (hb : 0 < b) : a % b ≤ a := by
 obtain ⟨m, rfl⟩ := Int.eq_ofNat_of_zero_le ha
 obtain ⟨n, rfl⟩ := Int.eq_ofNat_of_zero_le (Int.le_of_lt hb)
 rw [← Int.natCast_emod]
 exact Int.ofNat_le.mpr (Nat.mod_le _ _)
theorem mod2 (n : Int) : n % 2 = 0 ∨ n % 2 = 1 := by omega
theorem ok_Lbits (T : Txt K mg t) : FnOk P w K mg base CX0 1 t.f_Lbits t.d_Lbits ["_law_number", "_law_many"] sp_Lbits := by
 refine T.F_Lbits.ok sc_Lbits (fun vs H Q E h => ?_) (fun cdv A outer s H vs Q E hr h => ?_)
 ·obtain ⟨n, m, rfl, _⟩ := h; rfl
 ·obtain ⟨n, m, rfl, hm, k⟩ := h
  refine cutC (ps_set (i := 2) sc_Lbits.nd rfl (Or.inl rfl) (pe_lst pa_nil)) fun _ _ => cutC (ps_for PassesOwn.never rfl (pi_range1 rfl T.no_range (pa_cons (pv 1) pa_nil)) (pg_name (i := 3) sc_Lbits.nd rfl (Or.inl rfl)) (pss_cons (ps_expr (pe_bm PySem.F.plainAttrs_list PySem.F.slot_list_append PySem.F.type_list_append mt_append (pv 2) (pa_cons (pe_op op_mod (pv 0) pe_int) pa_nil))) (pss_one (ps_set (i := 0) sc_Lbits.nd rfl (Or.inl rfl) (pe_op op_fdiv (pv 0) pe_int))))) fun _ _ => cutE (ps_ret (pv 2)) fun _ _ => ?_
  walk_at "rd"
  refine ⟨Nat.zero_le _, fun l hn => ?_⟩
  walk_at "rd"
  refine ⟨m, rfl, by omega, by omega, ?_⟩
  rw [Int.toNat_natCast]
  refine forW_range (fun i σ' H' => ∃ (n : Int) (bs : List Int) (c : Option V), σ' = [some (.int n), some (.int m), some (.ref l), c] ∧ Same H H' ∧ H' l = some (.lst (bs.map V.int)) ∧ bs.length = i ∧ ∀ z ∈ bs, z = 0 ∨ z = 1)
   ⟨n, [], none, rfl, Same.new hn, upd_same, rfl, fun z hz => by cases hz⟩ ?_ ?_
  ·rintro i σ' H' hi ⟨n, bs, c, rfl, s1, e1, lb, hb⟩
   walk_at "rd"
   refine rd_bmL e1 ?_
   walk_at "rd"
   refine rd_I (by decide) ?_
   walk_at "rd"
   refine rd_append e1 (by rw [List.length_map]; exact small1000 (by omega)) ?_
   rw [map_snoc]
   walk_at "rd"
   refine rd_I ⟨by decide, by decide⟩ ?_
   walk_at "rd"
   refine ⟨_, bs ++ [n % 2], _, rfl, s1.later hn, upd_same, by rw [List.length_append, List.length_singleton]; omega, fun z hz => ?_⟩
   rcases List.mem_append.mp hz with h | h
   ·exact hb z h
   ·rw [List.mem_singleton.mp h]; exact mod2 n
  ·rintro σ' H' ⟨n, bs, c, rfl, s1, e1, lb, hb⟩
   walk_at "rd"
   exact k l bs H' s1 e1 lb hb
def sp_Lrow : Sp := fun vs H Q _ => ∃ (a : Addr) (m : Nat) (zs : List Int), vs = [.ref a, .int m] ∧ H a = some (.lst (zs.map V.int)) ∧ 4 ≤ zs.length ∧ m ≤ 100 ∧ ∀ (l : Addr) (bs : List Int) (H' : Hp), Same H H' → H' l = some (.lst (bs.map V.int)) → bs.length = m → (∀ z ∈ bs, z = 0 ∨ z = 1) → Q (.ref l) H'
theorem ok_Lrow (T : Txt K mg t) : FnOk P w K mg base CX0 2 t.f_Lrow t.d_Lrow ["_law_some", "_law_many"] sp_Lrow := by
 have G_Lbits := ok_Lbits (P := P) (w := w) (base := base) T
 refine T.F_Lrow.ok sc_Lrow (fun vs H Q E h => ?_) (fun cdv A outer s H vs Q E hr h => ?_)
 ·obtain ⟨a, m, zs, rfl, _⟩ := h; rfl
 ·obtain ⟨a, m, zs, rfl, ha, hl, hm, k⟩ := h
  refine cutC (ps_set (i := 2) sc_Lrow.nd rfl (Or.inl rfl) (pe_op op_add (pe_op op_add (pe_ix (ix_listK K rfl) (pv 0) pe_int (fun _ _ => rfl)) (pe_op op_mul pe_int (pe_ix (ix_listK K rfl) (pv 0) pe_int (fun _ _ => rfl)))) (pe_op op_mul (pe_op op_mul pe_int pe_int) (pe_ix (ix_listK K rfl) (pv 0) pe_int (fun _ _ => rfl))))) fun _ _ => cutC (ps_if (pt_cmpR op_eq (pe_op op_mod (pe_ix (ix_listK K rfl) (pv 0) pe_int (fun _ _ => rfl)) pe_int) pe_int (nomark _)) (pss_one (ps_set (i := 2) sc_Lrow.nd rfl (Or.inl rfl) (pe_un un_neg (pe_op op_mod (pe_ix (ix_listK K rfl) (pv 0) pe_int (fun _ _ => rfl)) pe_int)))) pss_nil) fun _ _ => cutC (ps_set (i := 3) sc_Lrow.nd rfl (Or.inr rfl) (pe_call G_Lbits (hr.mono (by first | decide | omega)) rfl T.mg_Lbits T.F_Lbits.kp T.b_Lbits .nil pass0 (pa_cons (pv 2) (pa_cons (pv 1) pa_nil)))) fun _ _ => cutC (ps_if (pt_cmpR op_eq (pe_op op_mod (pe_ix (ix_listK K rfl) (pv 0) pe_int (fun _ _ => rfl)) pe_int) pe_int (nomark _)) (pss_one (ps_set (i := 3) sc_Lrow.nd rfl (Or.inr rfl) (pe_comp (N := ["_law_k", "_law_row_here", "_law_some"]) (cap := [none, some 3, some 0]) rfl ⟨rfl, rfl, rfl, rfl, rfl, rfl⟩ (pi_range1 rfl T.no_range (pa_cons (pv 1) pa_nil)) (fun _ _ _ => (pg_name (i := 0) (show (["_law_k", "_law_row_here", "_law_some"] : List Str).Nodup by decide +kernel) rfl (Or.inl rfl))) (fun _ _ _ => pts_nil) (fun _ _ _ => (pe_ix (ix_listK K rfl) (pv 1) (pe_op op_mod (pv 0) (pe_op op_add pe_int (pe_op op_mod (pe_ix (ix_listK K rfl) (pv 2) pe_int (fun _ _ => rfl)) pe_int))) (fun _ _ => rfl)))))) pss_nil) fun _ _ => cutE (ps_ret (pv 3)) fun _ _ => ?_
  have I0 : atI (zs.map V.int) 0 = _ := atI_ints (by decide) (by omega)
  have I1 : atI (zs.map V.int) 1 = _ := atI_ints (by decide) (by omega)
  have I2 : atI (zs.map V.int) 2 = _ := atI_ints (by decide) (by omega)
  have I3 : atI (zs.map V.int) 3 = _ := atI_ints (by decide) (by omega)
  generalize zs.getD (0 : Int).toNat 0 = z0 at I0
  generalize zs.getD (1 : Int).toNat 0 = z1 at I1
  generalize zs.getD (2 : Int).toNat 0 = z2 at I2
  generalize zs.getD (3 : Int).toNat 0 = z3 at I3
  -- behind the raw number: the bits, and the pattern
  walk_at "rd"
  refine rd_ixL (SqL.of ha) I0 ?_
  walk_at "rd"
  refine rd_ixL (SqL.of ha) I1 ?_
  walk_at "rd"
  refine rd_I (.inl ⟨by decide, by decide⟩) ?_
  walk_at "rd"
  refine rd_I (.inl ⟨by decide, by decide⟩) ?_
  walk_at "rd"
  refine rd_ixL (SqL.of ha) I2 ?_
  walk_at "rd"
  refine rd_I (.inl ⟨by decide, by decide⟩) ?_
  walk_at "rd"
  refine rd_ixL (SqL.of ha) I3 ?_
  walk_at "rd"
  refine rd_I (by decide) ?_
  walk_at "rd"
  refine ite2 (fun _ => ?_) (fun _ => ?_)
  ·walk_at "rd"
   refine rd_ixL (SqL.of ha) I0 ?_
   walk_at "rd"
   refine rd_I (by decide) ?_
   walk_at "rd"
   refine ⟨_, m, rfl, hm, fun l bs H1 s1 e1 lb hb => ?_⟩
   walk_at "rd"
   refine rd_ixL (SqL.of (s1 _ _ ha)) I3 ?_
   walk_at "rd"
   refine rd_I (by decide) ?_
   walk_at "rd"
   refine ite2 (fun _ => ?_) (fun _ => ?_)
   ·walk_at "rd"
    refine ⟨m, rfl, by omega, by omega, fun l2 hn => ?_⟩
    rw [Int.toNat_natCast]
    refine compW_range (fun i => .int (bs.getD (((0 : Int) + (i : Nat)) % (1 + z1 % 4)).toNat 0)) (by omega) hn (fun i o H' Q' hi s2 q => ?_) (fun H' s2 e2 => ?_)
    ·walk_at "rd"
     refine rd_ixL (SqL.of (s2 _ _ (s1 _ _ ha))) I1 ?_
     walk_at "rd"
     refine rd_I (by decide) ?_
     walk_at "rd"
     have p1 : 0 < 1 + z1 % 4 := by omega
     refine rd_I p1 ?_
     walk_at "rd"
     have q0 := Int.emod_nonneg ((0 : Int) + (i : Nat)) (by omega : 1 + z1 % 4 ≠ 0)
     have q1 : ((0 : Int) + (i : Nat)) % (1 + z1 % 4) ≤ (0 : Int) + (i : Nat) := emod_le (by omega) (by omega)
     refine rd_ixL (SqL.of (s2 _ _ e1)) (atI_ints q0 (by omega)) ?_
     exact q H' (Same.refl _)
    ·walk_at "rd"
     refine k l2 ((List.range m).map fun i => bs.getD (((0 : Int) + (i : Nat)) % (1 + z1 % 4)).toNat 0) H' (s1.trans s2) (by rw [e2, List.map_map]; rfl) (by rw [List.length_map, List.length_range]) fun z hz => ?_
     obtain ⟨i, hi, rfl⟩ := List.mem_map.mp hz
     have hi := List.mem_range.mp hi
     have q0 := Int.emod_nonneg ((0 : Int) + (i : Nat)) (by omega : 1 + z1 % 4 ≠ 0)
     have q1 : ((0 : Int) + (i : Nat)) % (1 + z1 % 4) ≤ (0 : Int) + (i : Nat) := emod_le (by omega) (by omega)
     exact hb _ (L2.getD_mem (by omega))
   ·walk_at "rd"
    exact k l bs H1 s1 e1 lb hb
  ·walk_at "rd"
   refine ⟨_, m, rfl, hm, fun l bs H1 s1 e1 lb hb => ?_⟩
   walk_at "rd"
   refine rd_ixL (SqL.of (s1 _ _ ha)) I3 ?_
   walk_at "rd"
   refine rd_I (by decide) ?_
   walk_at "rd"
   refine ite2 (fun _ => ?_) (fun _ => ?_)
   ·walk_at "rd"
    refine ⟨m, rfl, by omega, by omega, fun l2 hn => ?_⟩
    rw [Int.toNat_natCast]
    refine compW_range (fun i => .int (bs.getD (((0 : Int) + (i : Nat)) % (1 + z1 % 4)).toNat 0)) (by omega) hn (fun i o H' Q' hi s2 q => ?_) (fun H' s2 e2 => ?_)
    ·walk_at "rd"
     refine rd_ixL (SqL.of (s2 _ _ (s1 _ _ ha))) I1 ?_
     walk_at "rd"
     refine rd_I (by decide) ?_
     walk_at "rd"
     have p1 : 0 < 1 + z1 % 4 := by omega
     refine rd_I p1 ?_
     walk_at "rd"
     have q0 := Int.emod_nonneg ((0 : Int) + (i : Nat)) (by omega : 1 + z1 % 4 ≠ 0)
     have q1 : ((0 : Int) + (i : Nat)) % (1 + z1 % 4) ≤ (0 : Int) + (i : Nat) := emod_le (by omega) (by omega)
     refine rd_ixL (SqL.of (s2 _ _ e1)) (atI_ints q0 (by omega)) ?_
     exact q H' (Same.refl _)
    ·walk_at "rd"
     refine k l2 ((List.range m).map fun i => bs.getD (((0 : Int) + (i : Nat)) % (1 + z1 % 4)).toNat 0) H' (s1.trans s2) (by rw [e2, List.map_map]; rfl) (by rw [List.length_map, List.length_range]) fun z hz => ?_
     obtain ⟨i, hi, rfl⟩ := List.mem_map.mp hz
     have hi := List.mem_range.mp hi
     have q0 := Int.emod_nonneg ((0 : Int) + (i : Nat)) (by omega : 1 + z1 % 4 ≠ 0)
     have q1 : ((0 : Int) + (i : Nat)) % (1 + z1 % 4) ≤ (0 : Int) + (i : Nat) := emod_le (by omega) (by omega)
     exact hb _ (L2.getD_mem (by omega))
   ·walk_at "rd"
    exact k l bs H1 s1 e1 lb hb
structure PlanAt (tupl : Bool) (H : Hp) (p : Addr) (s : Int) (cs rs : List Int) : Prop where
 ob : ∃ c r, H p = some (if tupl then .tup [.int s, .ref c, .ref r] else .lst [.int s, .ref c, .ref r]) ∧ H c = some (.lst (cs.map V.int)) ∧ H r = some (.lst (rs.map V.int))
 sh : s = 0 ∨ s = 1
 bc : Bits cs
 br : Bits rs
def sp_Lplan : Sp := fun vs H Q _ => ∃ (a : Addr) (zs : List Int), vs = [.ref a] ∧ H a = some (.lst (zs.map V.int)) ∧ 12 ≤ zs.length ∧ ∀ p s cs rs H', Same H H' → PlanAt true H' p s cs rs → Q (.ref p) H'
theorem pick_a (i : Int) : 0 < ([9, 9, 16, 40, 6] : List Int).getD (i % 5).toNat 0 ∧ ([9, 9, 16, 40, 6] : List Int).getD (i % 5).toNat 0 ≤ 40 := by
 have h := L2.getD_mem (zs := ([9, 9, 16, 40, 6] : List Int)) (k := (i % 5).toNat) (d := 0) (by simp; omega)
 simp only [List.mem_cons, List.not_mem_nil, or_false] at h
 rcases h with h | h | h | h | h <;> rw [h] <;> decide
theorem pick_b (i : Int) : 0 < ([9, 16, 16, 6, 40] : List Int).getD (i % 5).toNat 0 ∧ ([9, 16, 16, 6, 40] : List Int).getD (i % 5).toNat 0 ≤ 40 := by
 have h := L2.getD_mem (zs := ([9, 16, 16, 6, 40] : List Int)) (k := (i % 5).toNat) (d := 0) (by simp; omega)
 simp only [List.mem_cons, List.not_mem_nil, or_false] at h
 rcases h with h | h | h | h | h <;> rw [h] <;> decide
theorem ok_Lplan (T : Txt K mg t) : FnOk P w K mg base CX0 3 t.f_Lplan t.d_Lplan ["_law_some"] sp_Lplan := by
 have G_Lrow := ok_Lrow (P := P) (w := w) (base := base) T
 refine T.F_Lplan.ok sc_Lplan (fun vs H Q E h => ?_) (fun cdv A outer s H vs Q E hr h => ?_)
 ·obtain ⟨a, zs, rfl, _⟩ := h; rfl
 ·obtain ⟨a, zs, rfl, ha, hl, k⟩ := h
  refine cutC (ps_set (i := 1) sc_Lplan.nd rfl (Or.inl rfl) (pe_op op_add pe_int (pe_op op_mod (pe_ix (ix_listK K rfl) (pv 0) pe_int (fun _ _ => rfl)) (pe_ix (ix_listK K rfl) (pe_lst (pa_cons pe_int (pa_cons pe_int (pa_cons pe_int (pa_cons pe_int (pa_cons pe_int pa_nil)))))) (pe_op op_mod (pe_ix (ix_listK K rfl) (pv 0) pe_int (fun _ _ => rfl)) pe_int) (fun _ _ => rfl))))) fun _ _ => cutC (ps_set (i := 2) sc_Lplan.nd rfl (Or.inl rfl) (pe_op op_add pe_int (pe_op op_mod (pe_ix (ix_listK K rfl) (pv 0) pe_int (fun _ _ => rfl)) (pe_ix (ix_listK K rfl) (pe_lst (pa_cons pe_int (pa_cons pe_int (pa_cons pe_int (pa_cons pe_int (pa_cons pe_int pa_nil)))))) (pe_op op_mod (pe_ix (ix_listK K rfl) (pv 0) pe_int (fun _ _ => rfl)) pe_int) (fun _ _ => rfl))))) fun _ _ => cutE (ps_ret (pe_tup (pa_cons (pe_op op_mod (pe_ix (ix_listK K rfl) (pv 0) pe_int (fun _ _ => rfl)) pe_int) (pa_cons (pe_call G_Lrow (hr.mono (by first | decide | omega)) rfl T.mg_Lrow T.F_Lrow.kp T.b_Lrow .nil pass0 (pa_cons (pe_slice (sl_listK K rfl) (pv 0) (po_some pe_int) po_none) (pa_cons (pe_op op_sub (pv 1) pe_int) pa_nil))) (pa_cons (pe_call G_Lrow (hr.mono (by first | decide | omega)) rfl T.mg_Lrow T.F_Lrow.kp T.b_Lrow .nil pass0 (pa_cons (pe_slice (sl_listK K rfl) (pv 0) (po_some pe_int) po_none) (pa_cons (pe_op op_sub (pv 2) pe_int) pa_nil))) pa_nil))))) fun _ _ => ?_
  have I0 : atI (zs.map V.int) 0 = _ := atI_ints (by decide) (by omega)
  have I1 : atI (zs.map V.int) 1 = _ := atI_ints (by decide) (by omega)
  have I2 : atI (zs.map V.int) 2 = _ := atI_ints (by decide) (by omega)
  have I3 : atI (zs.map V.int) 3 = _ := atI_ints (by decide) (by omega)
  generalize zs.getD (0 : Int).toNat 0 = z0 at I0
  generalize zs.getD (1 : Int).toNat 0 = z1 at I1
  generalize zs.getD (2 : Int).toNat 0 = z2 at I2
  generalize zs.getD (3 : Int).toNat 0 = z3 at I3
  have m0 : 0 ≤ z0 % 5 := by omega
  have m5 : z0 % 5 < 5 := by omega
  walk_at "rd"
  refine rd_ixL (SqL.of ha) I1 ?_
  walk_at "rd"
  refine ⟨by show 5 ≤ sizeLine; decide, fun l1 n1 => ?_⟩
  have s1 := Same.new (o := HO.lst (([9, 9, 16, 40, 6] : List Int).map V.int)) n1
  walk_at "rd"
  refine rd_ixL (SqL.of (s1 _ _ ha)) I0 ?_
  walk_at "rd"
  refine rd_I (by decide) ?_
  walk_at "rd"
  refine rd_ixL (SqL.of (xs := ([9, 9, 16, 40, 6] : List Int).map V.int) upd_same) (atI_ints m0 m5) ?_
  walk_at "rd"
  refine rd_I (pick_a z0).1 ?_
  walk_at "rd"
  refine rd_ixL (SqL.of (s1 _ _ ha)) I2 ?_
  walk_at "rd"
  refine ⟨by show 5 ≤ sizeLine; decide, fun l2 n2 => ?_⟩
  have s2 := Same.new (o := HO.lst (([9, 16, 16, 6, 40] : List Int).map V.int)) n2
  walk_at "rd"
  refine rd_ixL (SqL.of (s2 _ _ (s1 _ _ ha))) I0 ?_
  walk_at "rd"
  refine rd_I (by decide) ?_
  walk_at "rd"
  refine rd_ixL (SqL.of (xs := ([9, 16, 16, 6, 40] : List Int).map V.int) upd_same) (atI_ints m0 m5) ?_
  walk_at "rd"
  refine rd_I (pick_b z0).1 ?_
  walk_at "rd"
  have ha2 := s2 _ _ (s1 _ _ ha)
  refine rd_ixL (SqL.of ha2) I3 ?_
  walk_at "rd"
  refine rd_I (by decide) ?_
  walk_at "rd"
  have va := pick_a z0
  have vb := pick_b z0
  generalize ([9, 9, 16, 40, 6] : List Int).getD (z0 % 5).toNat 0 = va' at va ⊢
  generalize ([9, 16, 16, 6, 40] : List Int).getD (z0 % 5).toNat 0 = vb' at vb ⊢
  have wa0 := Int.emod_nonneg z1 (by omega : va' ≠ 0)
  have wa1 := Int.emod_lt_of_pos z1 va.1
  have wb0 := Int.emod_nonneg z2 (by omega : vb' ≠ 0)
  have wb1 := Int.emod_lt_of_pos z2 vb.1
  refine rd_slL ha2 fun l3 n3 => ?_
  have s3 := Same.new (o := HO.lst (cutV (zs.map V.int) (some 4) none)) n3
  walk_at "rd"
  refine ⟨l3, (z1 % va').toNat, zs.drop 4, (by show [V.ref l3, V.int (1 + z1 % va' - 1)] = _; rw [show (1 + z1 % va' - 1 : Int) = (((z1 % va').toNat : Nat) : Int) by omega]), by rw [upd_same]; exact congrArg (fun x => some (HO.lst x)) (cutV_drop (k := 4)), by rw [List.length_drop]; omega, by omega, fun c cs H1 s4 ec lc bc => ?_⟩
  walk_at "rd"
  have ha4 := s4 _ _ (s3 _ _ ha2)
  refine rd_slL ha4 fun l5 n5 => ?_
  have s5 := Same.new (o := HO.lst (cutV (zs.map V.int) (some 8) none)) n5
  walk_at "rd"
  refine ⟨l5, (z2 % vb').toNat, zs.drop 8, (by show [V.ref l5, V.int (1 + z2 % vb' - 1)] = _; rw [show (1 + z2 % vb' - 1 : Int) = (((z2 % vb').toNat : Nat) : Int) by omega]), by rw [upd_same]; exact congrArg (fun x => some (HO.lst x)) (cutV_drop (k := 8)), by rw [List.length_drop]; omega, by omega, fun r rs H2 s6 er lr br => ?_⟩
  walk_at "rd"
  refine ⟨by show 3 ≤ sizeLine; decide, fun p hp => ?_⟩
  have s7 := Same.new (o := HO.tup [V.int (z3 % 2), V.ref c, V.ref r]) hp
  exact k p (z3 % 2) cs rs _ (s1.trans (s2.trans (s3.trans (s4.trans (s5.trans (s6.trans s7)))))) ⟨⟨c, r, upd_same, s7 _ _ (s6 _ _ (s5 _ _ ec)), s7 _ _ er⟩, mod2 z3, ⟨by omega, bc⟩, ⟨by omega, br⟩⟩
def sp_Lmade (C : Addr) : Sp := fun vs H Q _ => ∃ (p : Addr) (b : Bool) (s : Int) (cs rs : List Int), vs = [.ref p] ∧ PlanAt b H p s cs rs ∧ ∀ x H', Same H H' → ClothAt C H' x s cs rs → Q (.ref x) H'
theorem ok_Lmade (T : Txt K mg t) : FnOk P w K mg base CX0 8 t.f_Lmade t.d_Lmade ["_law_plan_here"] (sp_Lmade t.a_Cloth) := by
 have G_ClothInit := ok_ClothInit (P := P) (w := w) (base := base) T
 refine T.F_Lmade.ok sc_Lmade (fun vs H Q E h => ?_) (fun cdv A outer s H vs Q E hr h => ?_)
 ·obtain ⟨p, b, s, cs, rs, rfl, _⟩ := h; rfl
 ·obtain ⟨p, b, s, cs, rs, rfl, pl, k⟩ := h
  obtain ⟨⟨c, r, hp, hc, hr'⟩, sh, bc, br⟩ := id pl
  refine ⟨_, (pss_one (ps_ret (pe_make T.mk_Cloth G_ClothInit (hr.mono (by first | decide | omega)) rfl T.mg_Cloth T.b_ClothInit .nil pass0 (pa_cons (pe_ix (ix_seqK K rfl) (pv 0) pe_int (fun _ _ => rfl)) (pa_cons (pe_callTy (cI_listK K rfl) rfl T.no_list (by rfl) (pa_cons (pe_ix (ix_seqK K rfl) (pv 0) pe_int (fun _ _ => rfl)) pa_nil)) (pa_cons (pe_callTy (cI_listK K rfl) rfl T.no_list (by rfl) (pa_cons (pe_ix (ix_seqK K rfl) (pv 0) pe_int (fun _ _ => rfl)) pa_nil)) pa_nil)))))), ?_⟩
  have ix : ∀ {H' : Hp} {i : Int} {v : V} {Q : VK}, Same H H' → atI [V.int s, V.ref c, V.ref r] i = some v → Q v H' → rIx K (.ref p) (.int i) H' Q := fun {H' i v Q} s1 e q => by
   cases b
   ·exact rd_ixsL (SqL.of (s1 _ _ hp)) e q
   ·exact rd_ixsT (SqT.of (s1 _ _ hp)) e q
  walk_at "rd"
  refine ix (Same.refl _) rfl ?_
  walk_at "rd"
  refine ix (Same.refl _) rfl ?_
  walk_at "rd"
  refine rd_listL hc fun l1 n1 => ?_
  have s1 := Same.new (o := HO.lst (cs.map V.int)) n1
  walk_at "rd"
  refine ix s1 rfl ?_
  walk_at "rd"
  refine rd_listL (s1 _ _ hr') fun l2 n2 => ?_
  have s2 := Same.new (o := HO.lst (rs.map V.int)) n2
  walk_at "rd"
  intro x dx nx ndx nex
  have s12 := s1.trans s2
  have h1 : upd (upd H l1 (.lst (cs.map V.int))) l2 (.lst (rs.map V.int)) l1 = some (.lst (cs.map V.int)) := s2 _ _ upd_same
  have h2 : upd (upd H l1 (.lst (cs.map V.int))) l2 (.lst (rs.map V.int)) l2 = some (.lst (rs.map V.int)) := upd_same
  generalize upd (upd H l1 (.lst (cs.map V.int))) l2 (.lst (rs.map V.int)) = H3 at h1 h2 s12 nx ndx ⊢
  have s3 : Same H3 (upd (upd H3 dx (.own x)) x (.ins t.a_Cloth dx [])) := (Same.new ndx).later nx
  refine ⟨x, dx, l1, l2, s, cs, rs, rfl, upd_same, s3 _ _ h1, s3 _ _ h2, sh, bc, br, fun H4 kp hC => ⟨rfl, ?_⟩⟩
  exact k x H4 (fun b o e => kp b o (s3 b o (s12 b o e)) (ne_of_none (s12 b o e) nx)) hC
end
section
variable {P : Program} {w : World} {K : PySem.W.Frag} {mg : Str → Option Value} {base : Heap} {t : Ad}
def Scal (d : PyData) : Prop := (∃ i, d = .int i) ∨ (∃ b, d = .bool b) ∨ d = .none ∨ ∃ x, d = .str x ∧ PyData.strOk x = true
def OkS (S : PyData → Prop) (d : PyData) : Prop := Scal d ∨ (∃ ds, d = .list ds ∧ ds.length ≤ 1000 ∧ ∀ e ∈ ds, S e) ∨ ∃ ds, d = .tuple ds ∧ ds.length ≤ 1000 ∧ ∀ e ∈ ds, S e
def sp_same (S : PyData → Prop) : Sp := fun vs H Q _ => ∃ (x y : V) (d : PyData), vs = [x, y] ∧ S d ∧ Rep H d x ∧ Rep H d y ∧ ∀ H', Same H H' → Q (.bl true) H'
theorem same_step {S : PyData → Prop} {n : Nat} (T : Txt K mg t) (G_Lsame : FnOk P w K mg base CX0 n t.f_Lsame t.d_Lsame ["_law_told_here", "_law_due"] (sp_same S)) : FnOk P w K mg base CX0 (n + 1) t.f_Lsame t.d_Lsame ["_law_told_here", "_law_due"] (sp_same (OkS S)) := by
 refine T.F_Lsame.ok sc_Lsame (fun vs H Q E h => ?_) (fun cdv A outer s H vs Q E hr h => ?_)
 ·obtain ⟨x, y, d, rfl, _⟩ := h; rfl
 ·obtain ⟨x, y, d, rfl, ok, rx, ry, k⟩ := h
  refine cutC (ps_if (PW.pt (pw_or (pt_cmpR op_ne (pe_callB (cI_isinstK K rfl) rfl T.no_isinstance (by rfl) (pa_cons (pv 0) (pa_cons (pe_bltn (v := .ty "bool") rfl T.no_bool (by rfl : bootBuiltins "bool" = some (.type "bool")) rfl) pa_nil))) (pe_callB (cI_isinstK K rfl) rfl T.no_isinstance (by rfl) (pa_cons (pv 1) (pa_cons (pe_bltn (v := .ty "bool") rfl T.no_bool (by rfl : bootBuiltins "bool" = some (.type "bool")) rfl) pa_nil))) (nomark _)) (pw_or1 (pt_cmpR op_ne (pe_callB (cI_isinstK K rfl) rfl T.no_isinstance (by rfl) (pa_cons (pv 0) (pa_cons (pe_bltn (v := .ty "int") rfl T.no_int (by rfl : bootBuiltins "int" = some (.type "int")) rfl) pa_nil))) (pe_callB (cI_isinstK K rfl) rfl T.no_isinstance (by rfl) (pa_cons (pv 1) (pa_cons (pe_bltn (v := .ty "int") rfl T.no_int (by rfl : bootBuiltins "int" = some (.type "int")) rfl) pa_nil))) (nomark _))))) (pss_one (ps_ret pe_bl)) pss_nil) fun _ _ => cutC (ps_if (PW.pt (pw_or (pt_cmpR op_ne (pe_callB (cI_isinstK K rfl) rfl T.no_isinstance (by rfl) (pa_cons (pv 0) (pa_cons (pe_bltn (v := .ty "list") rfl T.no_list (by rfl : bootBuiltins "list" = some (.type "list")) rfl) pa_nil))) (pe_callB (cI_isinstK K rfl) rfl T.no_isinstance (by rfl) (pa_cons (pv 1) (pa_cons (pe_bltn (v := .ty "list") rfl T.no_list (by rfl : bootBuiltins "list" = some (.type "list")) rfl) pa_nil))) (nomark _)) (pw_or1 (pt_cmpR op_ne (pe_callB (cI_isinstK K rfl) rfl T.no_isinstance (by rfl) (pa_cons (pv 0) (pa_cons (pe_bltn (v := .ty "tuple") rfl T.no_tuple (by rfl : bootBuiltins "tuple" = some (.type "tuple")) rfl) pa_nil))) (pe_callB (cI_isinstK K rfl) rfl T.no_isinstance (by rfl) (pa_cons (pv 1) (pa_cons (pe_bltn (v := .ty "tuple") rfl T.no_tuple (by rfl : bootBuiltins "tuple" = some (.type "tuple")) rfl) pa_nil))) (nomark _))))) (pss_one (ps_ret pe_bl)) pss_nil) fun _ _ => cutC (ps_if (PW.pt (pw_and (pt_not (pt_val (pe_callB (cI_isinstK K rfl) rfl T.no_isinstance (by rfl) (pa_cons (pv 1) (pa_cons (pe_bltn (v := .ty "list") rfl T.no_list (by rfl : bootBuiltins "list" = some (.type "list")) rfl) pa_nil))))) (pw_and1 (pt_not (pt_val (pe_callB (cI_isinstK K rfl) rfl T.no_isinstance (by rfl) (pa_cons (pv 1) (pa_cons (pe_bltn (v := .ty "tuple") rfl T.no_tuple (by rfl : bootBuiltins "tuple" = some (.type "tuple")) rfl) pa_nil)))))))) (pss_one (ps_ret (pe_and (pe_cmpR op_eq (pe_callB (cI_isinstK K rfl) rfl T.no_isinstance (by rfl) (pa_cons (pv 0) (pa_cons (pe_bltn (v := .ty "str") rfl T.no_str (by rfl : bootBuiltins "str" = some (.type "str")) rfl) pa_nil))) (pe_callB (cI_isinstK K rfl) rfl T.no_isinstance (by rfl) (pa_cons (pv 1) (pa_cons (pe_bltn (v := .ty "str") rfl T.no_str (by rfl : bootBuiltins "str" = some (.type "str")) rfl) pa_nil))) (nomark _)) (pe_one (pe_cmpR (op_eqD hr.units) (pv 0) (pv 1) (nomark _)))))) pss_nil) fun _ _ => cutE (ps_ret (pe_and (pe_cmpR op_eq (pe_callB (cI_lenK K rfl) rfl T.no_len (by rfl) (pa_cons (pv 0) pa_nil)) (pe_callB (cI_lenK K rfl) rfl T.no_len (by rfl) (pa_cons (pv 1) pa_nil)) (nomark _)) (pe_one (pe_callB (cI_allK K rfl rfl) rfl T.no_all (by rfl) (pa_cons (pe_comp (N := ["_law_one", "_law_other"]) (cap := [none, none]) rfl ⟨rfl, rfl, rfl, rfl, rfl, rfl⟩ (pi_zipS rfl T.no_zip (pa_cons (pv 0) (pa_cons (pv 1) pa_nil))) (fun _ _ _ => (pg_tupK (n := 2) K rfl rfl (pgs_cons (pg_name (i := 0) (show (["_law_one", "_law_other"] : List Str).Nodup by decide +kernel) rfl (Or.inl rfl)) (pgs_cons (pg_name (i := 1) (show (["_law_one", "_law_other"] : List Str).Nodup by decide +kernel) rfl (Or.inl rfl)) pgs_nil)))) (fun _ _ _ => pts_nil) (fun _ _ _ => (pe_call G_Lsame (hr.mono (by first | decide | omega)) rfl T.mg_Lsame T.F_Lsame.kp T.b_Lsame .nil pass0 (pa_cons (pv 0) (pa_cons (pv 1) pa_nil))))) pa_nil))))) fun _ _ => ?_
  walk_at "rd"
  refine rd_isi rx.ty (kit_bool d) ?_
  walk_at "rd"
  refine rd_isi ry.ty (kit_bool d) ?_
  walk_at "rd"
  rw [decide_eq_true rfl]
  walk_at "rd"
  refine rd_isi rx.ty (kit_int d) ?_
  walk_at "rd"
  refine rd_isi ry.ty (kit_int d) ?_
  walk_at "rd"
  rw [decide_eq_true rfl]
  walk_at "rd"
  refine rd_isi rx.ty (kit_list d) ?_
  walk_at "rd"
  refine rd_isi ry.ty (kit_list d) ?_
  walk_at "rd"
  rw [decide_eq_true rfl]
  walk_at "rd"
  refine rd_isi rx.ty (kit_tuple d) ?_
  walk_at "rd"
  refine rd_isi ry.ty (kit_tuple d) ?_
  walk_at "rd"
  rw [decide_eq_true rfl]
  walk_at "rd"
  refine rd_isi ry.ty (kit_list d) ?_
  walk_at "rd"
  rcases ok with sc | ⟨ds, rfl, hl, hS⟩ | ⟨ds, rfl, hl, hS⟩
  ·have e1 : isD "list" d = false := by rcases sc with ⟨i, rfl⟩ | ⟨b, rfl⟩ | rfl | ⟨x, rfl, hx⟩ <;> simp [isD]
   have e2 : isD "tuple" d = false := by rcases sc with ⟨i, rfl⟩ | ⟨b, rfl⟩ | rfl | ⟨x, rfl, hx⟩ <;> simp [isD]
   rw [e1]
   walk_at "rd"
   refine rd_isi ry.ty (kit_tuple d) ?_
   rw [e2]
   walk_at "rd"
   refine rd_isi rx.ty (kit_str d) ?_
   walk_at "rd"
   refine rd_isi ry.ty (kit_str d) ?_
   walk_at "rd"
   rw [decide_eq_true rfl]
   walk_at "rd"
   have sd : SeqAt.shaped d = true := by rcases sc with ⟨i, rfl⟩ | ⟨b, rfl⟩ | rfl | ⟨x, rfl, hx⟩ <;> first | rfl | simp [SeqAt.shaped, PyData.canLay0, PyData.depth, hx]
   refine ⟨d, d, rx, ry, sd, sd, ?_⟩
   have e3 : PyData.eqv d d = true := by rcases sc with ⟨i, rfl⟩ | ⟨b, rfl⟩ | rfl | ⟨x, rfl, hx⟩ <;> simp [PyData.eqv]
   rw [e3]
   exact k _ (Same.refl _)
  ·have e1 : isD "list" (.list ds) = true := by simp [isD]
   rw [e1]
   simp only [Rep] at rx ry
   obtain ⟨a, xs, rfl, ha, ra⟩ := rx
   obtain ⟨b, ys, rfl, hb, rb⟩ := ry
   obtain ⟨l1, g1⟩ := repL_get ra
   obtain ⟨l2, g2⟩ := repL_get rb
   walk_at "rd"
   refine rd_lenL ha ?_
   walk_at "rd"
   refine rd_lenL hb ?_
   walk_at "rd"
   rw [decide_eq_true (by omega : (xs.length : Int) = ys.length)]
   walk_at "rd"
   refine ⟨a, b, rfl, .inl ⟨⟨_, SqL.of ha⟩, ⟨_, SqL.of hb⟩, fun l hn => ?_⟩⟩
   refine compW_zip (fun _ => .bl true) ha hb (by omega) (by omega) hn (fun i x y H' Q' ex ey s1 q => ?_) (fun H' s1 e => ?_)
   ·walk_at "rd"
    obtain ⟨d, hd, rd⟩ := g1 i x ex
    obtain ⟨d', hd', rd'⟩ := g2 i y ey
    rw [hd] at hd'
    cases hd'
    exact ⟨x, y, d, rfl, hS d (List.mem_of_getElem? hd), rd.mono s1, rd'.mono s1, q⟩
   ·walk_at "rd"
    have e' : H' l = some (.lst (((List.range xs.length).map fun _ => true).map V.bl)) := by rw [e, List.map_map]; rfl
    refine rd_all e' ?_
    have e4 : ((List.range xs.length).map fun _ => true).all id = true := by simp
    rw [e4]
    exact k H' s1
  ·have e1 : isD "list" (.tuple ds) = false := by simp [isD]
   have e2 : isD "tuple" (.tuple ds) = true := by simp [isD]
   rw [e1]
   walk_at "rd"
   refine rd_isi ry.ty (kit_tuple _) ?_
   rw [e2]
   simp only [Rep] at rx ry
   obtain ⟨a, xs, rfl, ha, ra⟩ := rx
   obtain ⟨b, ys, rfl, hb, rb⟩ := ry
   obtain ⟨l1, g1⟩ := repL_get ra
   obtain ⟨l2, g2⟩ := repL_get rb
   walk_at "rd"
   refine rd_lenT ha ?_
   walk_at "rd"
   refine rd_lenT hb ?_
   walk_at "rd"
   rw [decide_eq_true (by omega : (xs.length : Int) = ys.length)]
   walk_at "rd"
   refine ⟨a, b, rfl, .inr ⟨⟨_, SqT.of ha⟩, ⟨_, SqT.of hb⟩, fun l hn => ?_⟩⟩
   refine compW_zipT (fun _ => .bl true) ha hb (by omega) (by omega) hn (fun i x y H' Q' ex ey s1 q => ?_) (fun H' s1 e => ?_)
   ·walk_at "rd"
    obtain ⟨d, hd, rd⟩ := g1 i x ex
    obtain ⟨d', hd', rd'⟩ := g2 i y ey
    rw [hd] at hd'
    cases hd'
    exact ⟨x, y, d, rfl, hS d (List.mem_of_getElem? hd), rd.mono s1, rd'.mono s1, q⟩
   ·walk_at "rd"
    have e' : H' l = some (.lst (((List.range xs.length).map fun _ => true).map V.bl)) := by rw [e, List.map_map]; rfl
    refine rd_all e' ?_
    have e4 : ((List.range xs.length).map fun _ => true).all id = true := by simp
    rw [e4]
    exact k H' s1
def Ok3 : PyData → Prop := OkS (OkS (OkS fun _ => False))
theorem ok_Lsame (T : Txt K mg t) : FnOk P w K mg base CX0 3 t.f_Lsame t.d_Lsame ["_law_told_here", "_law_due"] (sp_same Ok3) :=
 same_step T (same_step T (same_step T ⟨fun vs H Q E h => (by obtain ⟨_, _, _, _, h, _⟩ := h; exact h.elim), fun A outer s H args us vs Q E _ _ _ _ h => (by obtain ⟨_, _, _, _, h, _⟩ := h; exact h.elim)⟩))
theorem okS_int {S : PyData → Prop} (i : Int) : OkS S (.int i) := .inl (.inl ⟨i, rfl⟩)
theorem okS_str {S : PyData → Prop} {x : Str} (h : PyData.strOk x = true) : OkS S (.str x) := .inl (.inr (.inr (.inr ⟨x, rfl, h⟩)))
theorem okS_ints {S : PyData → Prop} {ns : List Int} (h : ns.length ≤ 1000) : OkS (OkS S) (.list (ns.map PyData.int)) :=
 .inr (.inl ⟨_, rfl, by rw [List.length_map]; exact h, fun e he => by obtain ⟨i, _, rfl⟩ := List.mem_map.mp he; exact okS_int i⟩)
end
section
variable {P : Program} {w : World} {K : PySem.W.Frag} {mg : Str → Option Value} {base : Heap} {t : Ad}
def sp_Ltold (C : Addr) : Sp := fun vs H Q _ => ∃ (p : Addr) (s : Int) (cs rs : List Int), vs = [.ref p] ∧ ClothAt C H p s cs rs ∧ ∀ tp c r H', Same H H' → H' tp = some (.tup [.int s, .ref c, .ref r]) → H' c = some (.lst (cs.map V.int)) → H' r = some (.lst (rs.map V.int)) → Q (.ref tp) H'
theorem ok_Ltold (T : Txt K mg t) : FnOk P w K mg base CX0 2 t.f_Ltold t.d_Ltold ["_law_cloth"] (sp_Ltold t.a_Cloth) := by
 have G_Clothshade := ok_Clothshade (P := P) (w := w) (base := base) T
 have G_Clothcols := ok_Clothcols (P := P) (w := w) (base := base) T
 have G_Clothrows := ok_Clothrows (P := P) (w := w) (base := base) T
 refine T.F_Ltold.ok sc_Ltold (fun vs H Q E h => ?_) (fun cdv A outer s H vs Q E hr h => ?_)
 ·obtain ⟨p, s, cs, rs, rfl, _⟩ := h; rfl
 ·obtain ⟨p, s, cs, rs, rfl, hc, z⟩ := h
  obtain ⟨dx, a, b, e1, e2, e3⟩ := hc.ob
  refine ⟨_, (pss_one (ps_ret (pe_tup (pa_cons (pe_meth0 (pv 0) T.cl_Cloth T.m_Clothshade G_Clothshade (hr.mono (by first | decide | omega)) T.b_Clothshade .nil pass0) (pa_cons (pe_meth0 (pv 0) T.cl_Cloth T.m_Clothcols G_Clothcols (hr.mono (by first | decide | omega)) T.b_Clothcols .nil pass0) (pa_cons (pe_meth0 (pv 0) T.cl_Cloth T.m_Clothrows G_Clothrows (hr.mono (by first | decide | omega)) T.b_Clothrows .nil pass0) pa_nil)))))), ?_⟩
  walk_at "rd"
  refine rd_methv e1 (cfl_no _ _ _ (by decide +kernel)) ?_
  walk_at "rd"
  refine ⟨p, s, cs, rs, rfl, hc, ?_⟩
  walk_at "rd"
  refine rd_methv e1 (cfl_no _ _ _ (by decide +kernel)) ?_
  walk_at "rd"
  refine ⟨p, s, cs, rs, rfl, hc, fun l1 n1 => ?_⟩
  have s1 := Same.new (o := HO.lst (cs.map V.int)) n1
  walk_at "rd"
  refine rd_methv (s1 _ _ e1) (cfl_no _ _ _ (by decide +kernel)) ?_
  walk_at "rd"
  refine ⟨p, s, cs, rs, rfl, hc.mono s1, fun l2 n2 => ?_⟩
  have s2 := Same.new (o := HO.lst (rs.map V.int)) n2
  walk_at "rd"
  refine ⟨by show 3 ≤ sizeLine; decide, fun tp ntp => ?_⟩
  have s3 := Same.new (o := HO.tup [V.int s, V.ref l1, V.ref l2]) ntp
  exact z tp l1 l2 _ (s1.trans (s2.trans s3)) upd_same (s3 _ _ (s2 _ _ upd_same)) (s3 _ _ upd_same)
def planD (s : Int) (cs rs : List Int) : PyData := .tuple [.int s, .list (cs.map PyData.int), .list (rs.map PyData.int)]
theorem planD_ok {s : Int} {cs rs : List Int} (bc : Bits cs) (br : Bits rs) : Ok3 (planD s cs rs) := by
 refine .inr (.inr ⟨_, rfl, by show 3 ≤ 1000; decide, fun e he => ?_⟩)
 simp only [List.mem_cons, List.not_mem_nil, or_false] at he
 rcases he with rfl | rfl | rfl
 ·exact okS_int _
 ·exact okS_ints (by have := bc.1; omega)
 ·exact okS_ints (by have := br.1; omega)
theorem planD_rep {H : Hp} {tp c r : Addr} {s : Int} {cs rs : List Int} (h : H tp = some (.tup [.int s, .ref c, .ref r])) (hc : H c = some (.lst (cs.map V.int))) (hr : H r = some (.lst (rs.map V.int))) : Rep H (planD s cs rs) (.ref tp) := by
 have r1 := rep_ints hc
 have r2 := rep_ints hr
 simp only [planD, Rep, RepL] at r1 r2 ⊢
 exact ⟨tp, _, rfl, h, _, _, rfl, rfl, _, _, rfl, r1, _, _, rfl, r2, rfl⟩
end
section
def Tx (x : Str) : Prop := x.length ≤ 1000 ∧ ∀ c ∈ x.cps.toList, c < 128
theorem Tx.size {x : Str} (h : Tx x) : x.cps.size ≤ 1000 := h.1
theorem Tx.line {x : Str} (h : Tx x) : x.length ≤ sizeLine := Nat.le_trans h.1 (by decide)
theorem Tx.ok {x : Str} (h : Tx x) : PyData.strOk x = true := by
 unfold PyData.strOk
 rw [Array.all_eq_true]
 intro i hi
 have := h.2 x.cps[i] (by rw [← Array.getElem_toList]; exact List.getElem_mem _)
 exact decide_eq_true (by omega)
theorem Tx.word {x y p : Str} (h : Tx x) (hp : p ∈ Txt.split x y) : Tx p := ⟨Nat.le_trans (split_len hp) h.1, fun c hc => h.2 c (split_mem hp c hc)⟩
def hasS (w y : Str) : Bool := !w.cps.toList.isEmpty && w.cps.toList.all fun c => decide (c ∈ y.cps.toList)
def bitW (w : Str) : Option (List Int) := if w = "-" then some [] else if hasS w "01" = true then some (w.cps.toList.map fun (c : Nat) => (c : Int) - 48) else none
def lw (w : Str) : Option (List Int) := match bitW w with
 | some bs => if bs.length ≤ 39 then some bs else none
 | none => none
def rdW (x : Str) : Option (Int × List Int × List Int) := match Txt.split x " " with
 | [a, b, c] => if a = "0" ∨ a = "1" then (match lw b, lw c with
  | some cs, some rs => some (if a = "0" then (0 : Int) else 1, cs, rs)
  | _, _ => none) else none
 | _ => none
theorem sign01 {c : Nat} (h : c ∈ ("01" : Str).cps.toList) : c = 48 ∨ c = 49 := by
 have e : ("01" : Str).cps.toList = [48, 49] := by decide +kernel
 rw [e] at h
 simpa using h
theorem hasS_bits {w : Str} (h : hasS w "01" = true) : ∀ c ∈ w.cps.toList, c = 48 ∨ c = 49 := fun c hc => by
 unfold hasS at h
 rw [Bool.and_eq_true, List.all_eq_true] at h
 exact sign01 (of_decide_eq_true (h.2 c hc))
theorem bitW_bits {w : Str} {bs : List Int} (h : bitW w = some bs) : (∀ z ∈ bs, z = 0 ∨ z = 1) ∧ bs.length ≤ w.length := by
 unfold bitW at h
 by_cases c : w = "-"
 ·rw [if_pos c] at h; cases h; exact ⟨(fun z hz => by cases hz), Nat.zero_le _⟩
 ·rw [if_neg c] at h
  by_cases d : hasS w "01" = true
  ·rw [if_pos d] at h; cases h
   refine ⟨fun z hz => ?_, by rw [List.length_map, Array.length_toList]; exact Nat.le_refl _⟩
   obtain ⟨c, hc, rfl⟩ := List.mem_map.mp hz
   rcases hasS_bits d c hc with rfl | rfl
   ·exact .inl rfl
   ·exact .inr rfl
  ·rw [if_neg d] at h; cases h
theorem int_sign {c : Nat} (h : c = 48 ∨ c = 49) : PySem.intText? (sgn c) = some ((c : Int) - 48) := by
 rcases h with rfl | rfl
 ·decide +kernel
 ·decide +kernel
end
section
variable {P : Program} {w : World} {K : PySem.W.Frag} {mg : Str → Option Value} {base : Heap} {t : Ad}
def sp_hassigns : Sp := fun vs H Q _ => ∃ x y : Str, vs = [.str x, .str y] ∧ Tx x ∧ ∀ H', Same H H' → Q (.bl (hasS x y)) H'
theorem ok_hassigns (T : Txt K mg t) : FnOk P w K mg base CX0 1 t.f_hassigns t.d_hassigns ["word", "signs"] sp_hassigns := by
 refine T.F_hassigns.ok sc_hassigns (fun vs H Q E h => ?_) (fun cdv A outer s H vs Q E hr h => ?_)
 ·obtain ⟨x, y, rfl, _⟩ := h; rfl
 ·obtain ⟨x, y, rfl, tx, k⟩ := h
  refine ⟨_, (pss_one (ps_ret (pe_and (pe_cmpR op_gt (pe_callB cI_lenX rfl T.no_len (by rfl) (pa_cons (pv 0) pa_nil)) pe_int (nomark _)) (pe_one (pe_callB (cI_allK K rfl rfl) rfl T.no_all (by rfl) (pa_cons (pe_comp (N := ["sign", "signs"]) (cap := [none, some 1]) rfl ⟨rfl, rfl, rfl, rfl, rfl, rfl⟩ (pi_text (pv 0)) (fun _ _ _ => (pg_name (i := 0) (show (["sign", "signs"] : List Str).Nodup by decide +kernel) rfl (Or.inl rfl))) (fun _ _ _ => pts_nil) (fun _ _ _ => (pe_cmpR op_in_str (pv 0) (pv 1) rfl))) pa_nil)))))), ?_⟩
  walk_at "rd"
  refine rd_lenX tx.line ?_
  walk_at "rd"
  have e0 : hasS x y = (decide ((0 : Int) < (x.length : Nat)) && x.cps.toList.all fun c => decide (c ∈ y.cps.toList)) := by
   unfold hasS
   congr 1
   have hl : x.cps.toList.length = x.length := Array.length_toList
   cases hq : x.cps.toList with
   | nil => rw [hq] at hl; rw [decide_eq_false (by rw [← hl]; decide)]; rfl
   | cons c r => rw [hq] at hl; rw [decide_eq_true (by rw [← hl]; simp only [List.length_cons]; omega)]; rfl
  rw [e0] at k
  generalize decide ((0 : Int) < (x.length : Nat)) = u1 at k ⊢
  cases u1 with
  | false =>
   walk_at "rd"
   exact k _ (Same.refl _)
  | true =>
   walk_at "rd"
   refine ⟨x, rfl, fun l nl => ?_⟩
   refine compW_textL ((x.cps.toList.map fun c => decide (c ∈ y.cps.toList)).map V.bl) (by rw [List.length_map, List.length_map, Array.length_toList]) tx.size nl (fun i c v o H' Q' hc hy s5 q => ?_) (fun H1 s1 e1 => ?_)
   ·rw [List.getElem?_map, List.getElem?_map, Array.getElem?_toList, hc] at hy
    cases hy
    walk_at "rd"
    refine ⟨_, _, rfl, rfl, ?_⟩
    rw [in_sign]
    exact q H' (Same.refl _)
   ·walk_at "rd"
    refine rd_all e1 ?_
    rw [List.all_map] 
    exact k _ s1
def spx_readbits (BT : Addr) : Sp := fun vs H Q E => ∃ x : Str, vs = [.str x] ∧ Tx x ∧ ((bitW x = none ∧ ∀ H', Same H H' → E (.ref BT) none H') ∨ ∃ bs, bitW x = some bs ∧ ∀ l H', Same H H' → H' l = some (.lst (bs.map V.int)) → Q (.ref l) H')
theorem okx_readbits (T : Txt K mg t) : FnOk P w K mg base (CX1 P w) 2 t.f_readbits t.d_readbits ["word"] (spx_readbits t.a_BadText) := by
 have G_hassigns := ok_hassigns (P := P) (w := w) (base := base) T
 refine T.F_readbits.ok1 sc_readbits (fun vs H Q E h => ?_) (fun cdv A outer s H vs Q E hr h => ?_)
 ·obtain ⟨x, rfl, _⟩ := h; rfl
 ·obtain ⟨x, rfl, tx, k⟩ := h
  refine cutC (ps_if (pt_cmpR op_eq (pv 0) pe_str (nomark _)) (pss_one (ps_ret (pe_lst pa_nil))) pss_nil) fun _ _ => cutC (ps_if (pt_not (pt_val (pe_call G_hassigns.up (hr.mono (by first | decide | omega)) rfl T.mg_hassigns T.F_hassigns.kp T.b_hassigns .nil pass1 (pa_cons (pv 0) (pa_cons pe_str pa_nil))))) (pss_one (ps_raiseK T.mg_BadText T.x_BadText PySem.F.excBase_ValueError rfl rfl (fun _ _ _ _ _ _ _ _ I m q => xe_new I m q) (pa_cons pe_str pa_nil))) pss_nil) fun _ _ => cutE (ps_ret (pe_comp (N := ["sign"]) (cap := [none]) rfl ⟨rfl, rfl, rfl, rfl, rfl, rfl⟩ (pi_text (pv 0)) (fun _ _ _ => (pg_name (i := 0) (show (["sign"] : List Str).Nodup by decide +kernel) rfl (Or.inl rfl))) (fun _ _ _ => pts_nil) (fun _ _ _ => (pe_callTy cI_intT rfl T.no_int (by rfl) (pa_cons (pv 0) pa_nil))))) fun _ _ => ?_
  walk_at "rd"
  by_cases c1 : x = "-"
  ·rw [decide_eq_true c1]
   walk_at "rd"
   have k : ∀ l H', Same H H' → H' l = some (.lst []) → Q (.ref l) H' := by
    unfold bitW at k
    rw [if_pos c1] at k
    rcases k with ⟨z, _⟩ | ⟨bs, z, k⟩
    ·cases z
    ·cases z; exact k
   refine ⟨by show 0 ≤ sizeLine; decide, fun l nl => ?_⟩
   have sl := Same.new (o := HO.lst []) nl
   have el := upd_same (H := H) (a := l) (o := HO.lst [])
   generalize upd H l (HO.lst []) = H1 at sl el ⊢
   exact k l H1 sl el
  ·rw [decide_eq_false c1]
   walk_at "rd"
   refine ⟨x, "01", rfl, tx, fun H1 s1 => ?_⟩
   cases d : hasS x "01" with
   | false =>
    walk_at "rd"
    refine ⟨by show 1 ≤ sizeLine; decide, ?_⟩
    unfold bitW at k
    rw [if_neg c1, d, if_neg (by decide)] at k
    rcases k with ⟨_, k⟩ | ⟨bs, z, _⟩
    ·exact k _ s1
    ·cases z
   | true =>
    walk_at "rd"
    have k : ∀ l H', Same H H' → H' l = some (.lst ((x.cps.toList.map fun (c : Nat) => (c : Int) - 48).map V.int)) → Q (.ref l) H' := by
     unfold bitW at k
     rw [if_neg c1, if_pos d] at k
     rcases k with ⟨z, _⟩ | ⟨bs, z, k⟩
     ·cases z
     ·cases z; exact k
    refine ⟨x, rfl, fun l nl => ?_⟩
    refine compW_textL ((x.cps.toList.map fun (c : Nat) => (c : Int) - 48).map V.int) (by rw [List.length_map, List.length_map, Array.length_toList]) tx.size nl (fun i c v o H' Q' hc hy s5 q => ?_) (fun H2 s2 e2 => ?_)
    ·rw [List.getElem?_map, List.getElem?_map, Array.getElem?_toList, hc] at hy
     cases hy
     walk_at "rd"
     refine ⟨_, _, rfl, int_sign (hasS_bits d c (by rw [← Array.getElem?_toList] at hc; exact List.mem_of_getElem? hc)), by show 1 ≤ 640; decide, ?_⟩
     exact q H' (Same.refl _)
    ·walk_at "rd"
     exact k l H2 (s1.trans s2) e2
end
section
variable {P : Program} {w : World} {K : PySem.W.Frag} {mg : Str → Option Value} {base : Heap} {t : Ad}
theorem lw_of {x : Str} {bs : List Int} (h : bitW x = some bs) (hl : bs.length ≤ 39) : lw x = some bs := by unfold lw; rw [h]; dsimp only; rw [if_pos hl]
theorem lw_no {x : Str} (h : bitW x = none) : lw x = none := by unfold lw; rw [h]
theorem lw_big {x : Str} {bs : List Int} (h : bitW x = some bs) (hl : ¬ bs.length ≤ 39) : lw x = none := by unfold lw; rw [h]; dsimp only; rw [if_neg hl]
theorem rdW_3 {x a b c : Str} (h : Txt.split x " " = [a, b, c]) : rdW x = if a = "0" ∨ a = "1" then (match lw b, lw c with
  | some cs, some rs => some (if a = "0" then (0 : Int) else 1, cs, rs)
  | _, _ => none) else none := by unfold rdW; rw [h] <;> rfl
theorem rdW_n {x : Str} (h : (Txt.split x " ").length ≠ 3) : rdW x = none := by
 unfold rdW
 split
 ·next e => rw [e] at h; exact absurd rfl h
 ·rfl
theorem three {α : Type} {l : List α} (h : l.length = 3) : ∃ a b c, l = [a, b, c] := by
 match l, h with
 | [a, b, c], _ => exact ⟨a, b, c, rfl⟩
theorem int_01 {a : Str} (h : a = "0" ∨ a = "1") : PySem.intText? a = some (if a = "0" then 0 else 1) ∧ a.length ≤ 640 := by
 rcases h with rfl | rfl
 ·decide +kernel
 ·decide +kernel
def spx_readcloth (C BT : Addr) : Sp := fun vs H Q E => ∃ x : Str, vs = [.str x] ∧ Tx x ∧ ((rdW x = none ∧ ∀ H', Same H H' → E (.ref BT) none H') ∨ ∃ s cs rs, rdW x = some (s, cs, rs) ∧ ∀ p H', Same H H' → ClothAt C H' p s cs rs → Q (.ref p) H')
theorem okx_readcloth (T : Txt K mg t) : FnOk P w K mg base (CX1 P w) 8 t.f_readcloth t.d_readcloth ["text"] (spx_readcloth t.a_Cloth t.a_BadText) := by
  have GX_readbits := okx_readbits (P := P) (w := w) (base := base) T
  have GX2_ClothInit := okx_ClothInit (P := P) (w := w) (base := base) T
  refine T.F_readcloth.ok1 sc_readcloth (fun vs H Q E h => ?_) (fun cdv A outer s H vs Q E hr h => ?_)
  · obtain ⟨x, rfl, _⟩ := h; rfl
  · obtain ⟨x, rfl, tx, k⟩ := h
    refine cutC (ps_set (i := 1) sc_readcloth.nd rfl (Or.inl rfl) (pe_bm PySem.F.plainAttrs_str PySem.F.slot_str_split PySem.F.type_str_split mt_split (pv 0) (pa_cons pe_str pa_nil))) fun _ _ => cutC (ps_if (PW.pt (pw_or (pt_cmpR op_ne (pe_callB (cI_lenK K rfl) rfl T.no_len (by rfl) (pa_cons (pv 1) pa_nil)) pe_int (nomark _)) (pw_or1 (pt_cmpR (op_ninT hr.units) (pe_ix (ix_listK K rfl) (pv 1) pe_int (fun _ _ => rfl)) (pe_tup (pa_cons pe_str (pa_cons pe_str pa_nil))) rfl)))) (pss_one (ps_raiseK T.mg_BadText T.x_BadText PySem.F.excBase_ValueError rfl rfl (fun _ _ _ _ _ _ _ _ I m q => xe_new I m q) (pa_cons pe_str pa_nil))) pss_nil) fun _ _ => cutC (ps_set (i := 2) sc_readcloth.nd rfl (Or.inl rfl) (pe_callTy cI_intT rfl T.no_int (by rfl) (pa_cons (pe_ix (ix_listK K rfl) (pv 1) pe_int (fun _ _ => rfl)) pa_nil))) fun _ _ => cutC (ps_set (i := 3) sc_readcloth.nd rfl (Or.inl rfl) (pe_call GX_readbits (hr.mono (by first | decide | omega)) rfl T.mg_readbits T.F_readbits.kp T.b_readbits .nil pass1 (pa_cons (pe_ix (ix_listK K rfl) (pv 1) pe_int (fun _ _ => rfl)) pa_nil))) fun _ _ => cutC (ps_set (i := 4) sc_readcloth.nd rfl (Or.inl rfl) (pe_call GX_readbits (hr.mono (by first | decide | omega)) rfl T.mg_readbits T.F_readbits.kp T.b_readbits .nil pass1 (pa_cons (pe_ix (ix_listK K rfl) (pv 1) pe_int (fun _ _ => rfl)) pa_nil))) fun _ _ => cutE (ps_tryR (i := 5) sc_readcloth.nd rfl rfl rfl T.mg_SewError (fun _ _ => (pss_one (ps_ret (pe_makeS T.mk_Cloth GX2_ClothInit (hr.mono (by first | decide | omega)) rfl T.mg_Cloth T.b_ClothInit .nil passT2 (pa_cons (pv 2) (pa_cons (pv 3) (pa_cons (pv 4) pa_nil))))))) rfl T.mg_BadText T.x_BadText PySem.F.excBase_ValueError PySem.F.excBase_ValueError (fun _ => (pa_cons pe_str pa_nil)) (fun _ _ _ h => h _) (fun _ _ _ _ _ _ _ _ _ _ I a b c d e f g h i j k l m => xe_held I a b c d e f g h i j k l m)) fun _ _ => ?_
    have bad : rdW x = none → ∀ H', Same H H' → E (.ref t.a_BadText) none H' := fun z => by
      rcases k with ⟨_, k⟩ | ⟨s, cs, rs, y, _⟩
      · exact k
      · rw [z] at y; cases y
    walk_at "rd"
    refine ⟨rfl, ?_⟩
    walk_at "rd"
    refine ⟨x, " ", rfl, rfl, by decide +kernel, by have := tx.1; omega, fun l1 n1 => ?_⟩
    have s1 := Same.new (o := HO.lst ((Txt.split x " ").map V.str)) n1
    have e1 := upd_same (H := H) (a := l1) (o := HO.lst ((Txt.split x " ").map V.str))
    generalize upd H l1 (HO.lst ((Txt.split x " ").map V.str)) = H1 at s1 e1 ⊢
    walk_at "rd"
    refine rd_lenL e1 ?_
    rw [List.length_map]
    walk_at "rd"
    by_cases c3 : (Txt.split x " ").length = 3
    · rw [decide_eq_true (show (((Txt.split x " ").length : Nat) : Int) = 3 by omega)]
      obtain ⟨a, b, c, hq⟩ := three c3
      have w1 : Tx a := tx.word (y := " ") (by rw [hq]; simp)
      have w2 : Tx b := tx.word (y := " ") (by rw [hq]; simp)
      have w3 : Tx c := tx.word (y := " ") (by rw [hq]; simp)
      rw [hq] at e1
      have rd3 := rdW_3 hq
      walk_at "rd"
      refine rd_ixL (SqL.of e1) (v := .str a) rfl ?_
      walk_at "rd"
      refine ⟨by show 2 ≤ sizeLine; decide, fun tp ntp => ?_⟩
      have stp := Same.new (o := HO.tup [V.str "0", V.str "1"]) ntp
      have etp := upd_same (H := H1) (a := tp) (o := HO.tup [V.str "0", V.str "1"])
      generalize upd H1 tp (HO.tup [V.str "0", V.str "1"]) = H2 at stp etp ⊢
      walk_at "rd"
      refine rd_ninT2 etp (by decide +kernel) (by decide +kernel) w1.ok ?_
      by_cases ca : a = "0" ∨ a = "1"
      · rw [show (!(decide ("0" = a) || decide ("1" = a))) = false by rcases ca with rfl | rfl <;> decide +kernel]
        rw [if_pos ca] at rd3
        walk_at "rd"
        have e2 := stp _ _ e1
        refine rd_ixL (SqL.of e2) (v := .str a) rfl ?_
        walk_at "rd"
        refine ⟨a, _, rfl, (int_01 ca).1, (int_01 ca).2, ?_⟩
        generalize hsv : (if a = "0" then (0 : Int) else 1) = sv at rd3 ⊢
        have hsv' : sv = 0 ∨ sv = 1 := by rw [← hsv]; split <;> simp
        walk_at "rd"
        refine rd_ixL (SqL.of e2) (v := .str b) rfl ?_
        walk_at "rd"
        have s12 := s1.trans stp
        refine ⟨b, rfl, w2, ?_⟩
        cases hb : bitW b with
        | none =>
          rw [lw_no hb] at rd3
          exact .inl ⟨rfl, fun H3 s3 => bad rd3 _ (s12.trans s3)⟩
        | some cs =>
          have bb := bitW_bits hb
          refine .inr ⟨cs, rfl, fun lc H3 s3 ec => ?_⟩
          walk_at "rd"
          refine rd_ixL (SqL.of (s3 _ _ e2)) (v := .str c) rfl ?_
          walk_at "rd"
          have s13 := s12.trans s3
          refine ⟨c, rfl, w3, ?_⟩
          cases hc : bitW c with
          | none =>
            rw [lw_no hc] at rd3
            have rd3 : rdW x = none := by rw [rd3]; cases lw b <;> rfl
            exact .inl ⟨rfl, fun H4 s4 => bad rd3 _ (s13.trans s4)⟩
          | some rs =>
            have bc := bitW_bits hc
            refine .inr ⟨rs, rfl, fun lr H4 s4 er => ?_⟩
            have s14 := s13.trans s4
            walk_at "rd"
            refine rd_tryR ?_
            walk_at "rd"
            intro p dx np ndx nex
            have sM : Same H4 (upd (upd H4 dx (.own p)) p (.ins t.a_Cloth dx [])) := (Same.new ndx).later np
            have back : ∀ {H5 : Hp}, KpBut (upd (upd H4 dx (.own p)) p (.ins t.a_Cloth dx [])) p H5 → Same H4 H5 := fun {H5} kp b o e => kp b o (sM b o e) (ne_of_none e np)
            have l1 := w2.1
            have l2 := w3.1
            refine ⟨p, dx, lc, lr, sv, cs, rs, rfl, upd_same, sM _ _ (s4 _ _ ec), sM _ _ er, by omega, by omega, ?_⟩
            by_cases sz : cs.length ≤ 39 ∧ rs.length ≤ 39
            · rw [lw_of hb sz.1, lw_of hc sz.2] at rd3
              refine .inr (.inr ⟨sz, Bits.ok hsv' ⟨sz.1, bb.1⟩ ⟨sz.2, bc.1⟩, fun H5 kp hC => ⟨rfl, ?_⟩⟩)
              rcases k with ⟨z, _⟩ | ⟨s', cs', rs', z, k⟩
              · rw [rd3] at z; cases z
              · rw [rd3] at z; cases z
                exact k p H5 (s14.trans (back kp)) hC
            · have rd3 : rdW x = none := by
                rw [rd3]
                by_cases z1 : cs.length ≤ 39
                · rw [lw_of hb z1, lw_big hc fun z => sz ⟨z1, z⟩]
                · rw [lw_big hb z1]
              exact .inl ⟨sz, t.a_BadSize, rfl, T.cat_BadSize, T.x_BadSize, bad rd3 _ (s14.trans sM)⟩
      · rw [show (!(decide ("0" = a) || decide ("1" = a))) = true by
          rw [decide_eq_false (fun z => ca (.inl z.symm)), decide_eq_false (fun z => ca (.inr z.symm))]; rfl]
        rw [if_neg ca] at rd3
        walk_at "rd"
        exact ⟨by show 1 ≤ sizeLine; decide, bad rd3 _ (s1.trans stp)⟩
    · rw [decide_eq_false (show ¬ (((Txt.split x " ").length : Nat) : Int) = 3 by omega)]
      walk_at "rd"
      exact ⟨by show 1 ≤ sizeLine; decide, bad (rdW_n c3) _ s1⟩
end
section
variable {P : Program} {w : World} {K : PySem.W.Frag} {mg : Str → Option Value} {base : Heap} {t : Ad}
def B01 (l : List Int) : Prop := ∀ z ∈ l, z = 0 ∨ z = 1
def dgs (bs : List Int) : List Nat := bs.map fun b => b.toNat + 48
def wd (bs : List Int) : Str := if bs = [] then "-" else ⟨(dgs bs).toArray⟩
def sh (s : Int) : Str := sgn (s.toNat + 48)
def txt (s : Int) (cs rs : List Int) : Str := Str.join " " [sh s, wd cs, wd rs]
theorem str_bit {s : Int} (h : s = 0 ∨ s = 1) : ((toString s : String) : Str) = sh s ∧ s.natAbs.log2 < 1920 := by
 rcases h with rfl | rfl <;> decide +kernel
theorem join_bits {bs : List Int} (h : B01 bs) : Txt.join "" (bs.map fun b => ((toString b : String) : Str)) = ⟨(dgs bs).toArray⟩ := by
 have e : (bs.map fun b => ((toString b : String) : Str)) = (dgs bs).map sgn := by
  unfold dgs
  rw [List.map_map]
  exact List.map_congr_left fun b hb => (str_bit (h b hb)).1
 rw [e]
 exact strX (by rw [join_sgn])
theorem joinOk_bits {bs : List Int} (h : B01 bs) (hl : bs.length ≤ 1000) : JoinOk "" (bs.map fun b => ((toString b : String) : Str)) = true := by
 have e : (bs.map fun b => ((toString b : String) : Str)) = (dgs bs).map sgn := by
  unfold dgs
  rw [List.map_map]
  exact List.map_congr_left fun b hb => (str_bit (h b hb)).1
 rw [e]
 exact joinOk_sgn (by unfold dgs; rw [List.length_map]; exact hl)
theorem wd_len {bs : List Int} (n : Nat) (hl : bs.length ≤ n) (h1 : 1 ≤ n) : (wd bs).length ≤ n := by
 unfold wd
 split
 ·exact h1
 ·show (dgs bs).toArray.size ≤ n
  unfold dgs
  rw [List.size_toArray, List.length_map]; exact hl
theorem joinOk_of {a : Str} {ts : List Str} (B : Nat) (hB : ∀ y ∈ ts, y.length ≤ B) (h : ts.length * B + ts.length * a.length ≤ 16777216) : JoinOk a ts = true := by
 unfold JoinOk
 rw [StrLaws.joinFits hB h]; rfl
theorem joinOk3 {a b c : Str} (ha : a.length ≤ 100) (hb : b.length ≤ 100) (hc : c.length ≤ 100) : JoinOk " " [a, b, c] = true := by
 refine joinOk_of 100 (fun y hy => ?_) (by show 3 * 100 + 3 * (Str.ofString " ").length ≤ 16777216; decide +kernel)
 simp only [List.mem_cons, List.not_mem_nil, or_false] at hy
 rcases hy with rfl | rfl | rfl <;> assumption
def sp_bitstext : Sp := fun vs H Q _ => ∃ (l : Addr) (bs : List Int), vs = [.ref l] ∧ H l = some (.lst (bs.map V.int)) ∧ B01 bs ∧ bs.length ≤ 100 ∧ ∀ H', Same H H' → Q (.str (wd bs)) H'
theorem ok_bitstext (T : Txt K mg t) : FnOk P w K mg base CX0 1 t.f_bitstext t.d_bitstext ["bits"] sp_bitstext := by
 refine T.F_bitstext.ok sc_bitstext (fun vs H Q E h => ?_) (fun cdv A outer s H vs Q E hr h => ?_)
 ·obtain ⟨l, bs, rfl, _⟩ := h; rfl
 ·obtain ⟨l, bs, rfl, el, b01, hl, k⟩ := h
  refine ⟨_, (pss_cons (ps_if (pt_cmpR op_eq (pe_callB (cI_lenK K rfl) rfl T.no_len (by rfl) (pa_cons (pv 0) pa_nil)) pe_int (nomark _)) (pss_one (ps_ret pe_str)) pss_nil) (pss_one (ps_ret (pe_bm PySem.F.plainAttrs_str PySem.F.slot_str_join PySem.F.type_str_join mt_join pe_str (pa_cons (pe_comp (N := ["bit"]) (cap := [none]) rfl ⟨rfl, rfl, rfl, rfl, rfl, rfl⟩ (pi_list (pv 0)) (fun _ _ _ => (pg_name (i := 0) (show (["bit"] : List Str).Nodup by decide +kernel) rfl (Or.inl rfl))) (fun _ _ _ => pts_nil) (fun _ _ _ => (pe_callTy call_str_int rfl T.no_str (by rfl) (pa_cons (pv 0) pa_nil)))) pa_nil))))), ?_⟩
  walk_at "rd"
  refine rd_lenL el ?_
  rw [List.length_map]
  walk_at "rd"
  cases bs with
  | nil =>
   rw [decide_eq_true (show (((([] : List Int).length : Nat) : Int)) = 0 from rfl)]
   walk_at "rd"
   exact k _ (Same.refl _)
  | cons b bs =>
   rw [decide_eq_false (show ¬ ((((b :: bs).length : Nat) : Int)) = 0 by rw [List.length_cons]; omega)]
   walk_at "rd"
   refine ⟨rfl, ?_⟩
   walk_at "rd"
   refine ⟨⟨_, SqL.of el⟩, fun l1 n1 => ?_⟩
   refine compW_list (fun v => match v with | .int i => .str ((toString i : String) : Str) | _ => .non) (SqL.of el) (by rw [List.length_map]; omega) n1 (fun x o H' Q' hx s1 q => ?_) (fun H1 s1 e1 => ?_)
   ·obtain ⟨i, hi, rfl⟩ := List.mem_map.mp hx
    walk_at "rd"
    exact ⟨i, rfl, (str_bit (b01 i hi)).2, q H' (Same.refl _)⟩
   ·walk_at "rd"
    have e1 : H1 l1 = some (.lst (((b :: bs).map fun b => ((toString b : String) : Str)).map V.str)) := by rw [e1, List.map_map, List.map_map]; rfl
    refine ⟨"", l1, _, rfl, rfl, e1, joinOk_bits b01 (by omega), ?_⟩
    rw [join_bits b01]
    have := k _ s1
    unfold wd at this
    rw [if_neg (by simp)] at this
    exact this
def sp_clothtext (C : Addr) : Sp := fun vs H Q _ => ∃ (p : Addr) (s : Int) (cs rs : List Int), vs = [.ref p] ∧ ClothAt C H p s cs rs ∧ (s = 0 ∨ s = 1) ∧ Bits cs ∧ Bits rs ∧ ∀ H', Same H H' → Q (.str (txt s cs rs)) H'
theorem ok_clothtext (T : Txt K mg t) : FnOk P w K mg base CX0 2 t.f_clothtext t.d_clothtext ["cloth"] (sp_clothtext t.a_Cloth) := by
 have G_Clothshade := ok_Clothshade (P := P) (w := w) (base := base) T
 have G_Clothcols := ok_Clothcols (P := P) (w := w) (base := base) T
 have G_Clothrows := ok_Clothrows (P := P) (w := w) (base := base) T
 have G_bitstext := ok_bitstext (P := P) (w := w) (base := base) T
 refine T.F_clothtext.ok sc_clothtext (fun vs H Q E h => ?_) (fun cdv A outer s H vs Q E hr h => ?_)
 ·obtain ⟨p, s, cs, rs, rfl, _⟩ := h; rfl
 ·obtain ⟨p, s, cs, rs, rfl, hC, hs, bc, br, k⟩ := h
  obtain ⟨dx, a, b, h1, h2, h3⟩ := id hC.ob
  have lc := bc.1
  have lr := br.1
  refine cutC (ps_set (i := 1) sc_clothtext.nd rfl (Or.inl rfl) (pe_meth0 (pv 0) T.cl_Cloth T.m_Clothshade G_Clothshade (hr.mono (by first | decide | omega)) T.b_Clothshade .nil pass0)) fun _ _ => cutC (ps_set (i := 2) sc_clothtext.nd rfl (Or.inl rfl) (pe_call G_bitstext (hr.mono (by first | decide | omega)) rfl T.mg_bitstext T.F_bitstext.kp T.b_bitstext .nil pass0 (pa_cons (pe_meth0 (pv 0) T.cl_Cloth T.m_Clothcols G_Clothcols (hr.mono (by first | decide | omega)) T.b_Clothcols .nil pass0) pa_nil))) fun _ _ => cutC (ps_set (i := 3) sc_clothtext.nd rfl (Or.inl rfl) (pe_call G_bitstext (hr.mono (by first | decide | omega)) rfl T.mg_bitstext T.F_bitstext.kp T.b_bitstext .nil pass0 (pa_cons (pe_meth0 (pv 0) T.cl_Cloth T.m_Clothrows G_Clothrows (hr.mono (by first | decide | omega)) T.b_Clothrows .nil pass0) pa_nil))) fun _ _ => cutE (ps_ret (pe_fstrV (PEs.cons (pe_fmtV (pv 1)) (PEs.cons pe_str (PEs.cons (pe_fmtV (pv 2)) (PEs.cons pe_str (PEs.cons (pe_fmtV (pv 3)) PEs.nil))))) (by decide))) fun _ _ => ?_
  walk_at "rd"
  refine rd_methv h1 (cfl_no _ _ _ (by decide +kernel)) ?_
  walk_at "rd"
  refine ⟨p, s, cs, rs, rfl, hC, ?_⟩
  walk_at "rd"
  refine rd_methv h1 (cfl_no _ _ _ (by decide +kernel)) ?_
  walk_at "rd"
  refine ⟨p, s, cs, rs, rfl, hC, fun l1 n1 => ?_⟩
  have s1 := Same.new (o := HO.lst (cs.map V.int)) n1
  have e1 := upd_same (H := H) (a := l1) (o := HO.lst (cs.map V.int))
  generalize upd H l1 (HO.lst (cs.map V.int)) = H1 at s1 e1 ⊢
  walk_at "rd"
  refine ⟨l1, cs, rfl, e1, bc.2, by omega, fun H2 s2 => ?_⟩
  have s12 := s1.trans s2
  walk_at "rd"
  refine rd_methv (s12 _ _ h1) (cfl_no _ _ _ (by decide +kernel)) ?_
  walk_at "rd"
  refine ⟨p, s, cs, rs, rfl, hC.mono s12, fun l2 n2 => ?_⟩
  have s3 := Same.new (o := HO.lst (rs.map V.int)) n2
  have e3 := upd_same (H := H2) (a := l2) (o := HO.lst (rs.map V.int))
  generalize upd H2 l2 (HO.lst (rs.map V.int)) = H3 at s3 e3 ⊢
  walk_at "rd"
  refine ⟨l2, rs, rfl, e3, br.2, by omega, fun H4 s4 => ?_⟩
  walk_at "rd"
  have w1 := wd_len (bs := cs) 100 (by omega) (by decide)
  have w2 := wd_len (bs := rs) 100 (by omega) (by decide)
  have big : (100 : Nat) ≤ sizeLine := by decide
  refine rd_fstrV ?_
  unfold tFsV
  refine rd_fmtV ?_
  walk_at "rd"
  refine .inl ⟨s.toNat, by rcases hs with rfl | rfl <;> rfl, by rcases hs with rfl | rfl <;> decide, ?_⟩
  refine ⟨_, rfl, by rcases hs with rfl | rfl <;> decide +kernel, ?_⟩
  rw [show ((toString ((s.toNat : Nat) : Int) : String) : Str) = sh s by rcases hs with rfl | rfl <;> decide +kernel]
  unfold tFsV
  walk_at "rd"
  refine ⟨_, rfl, by decide +kernel, ?_⟩
  unfold tFsV
  refine rd_fmtV ?_
  walk_at "rd"
  refine .inr ⟨_, rfl, Nat.le_trans w1 big, _, rfl, w1, ?_⟩
  unfold tFsV
  walk_at "rd"
  refine ⟨_, rfl, by decide +kernel, ?_⟩
  unfold tFsV
  refine rd_fmtV ?_
  walk_at "rd"
  refine .inr ⟨_, rfl, Nat.le_trans w2 big, _, rfl, w2, ?_⟩
  unfold tFsV
  have e : Str.empty ++ sh s ++ " " ++ wd cs ++ " " ++ wd rs = txt s cs rs := by
   apply strX
   show _ = (sh s ++ " " ++ (wd cs ++ " " ++ wd rs)).cps.toList
   simp only [catX, List.append_assoc]
   rfl
  rw [e]
  exact k _ ((s12.trans s3).trans s4)
def sp_Ltext : Sp := fun vs H Q _ => ∃ (pp c r : Addr) (s : Int) (cs rs : List Int), vs = [.ref pp] ∧ H pp = some (.tup [.int s, .ref c, .ref r]) ∧ H c = some (.lst (cs.map V.int)) ∧ H r = some (.lst (rs.map V.int)) ∧ (s = 0 ∨ s = 1) ∧ B01 cs ∧ B01 rs ∧ cs.length ≤ 100 ∧ rs.length ≤ 100 ∧ ∀ H', Same H H' → Q (.str (txt s cs rs)) H'
theorem ok_Ltext (T : Txt K mg t) : FnOk P w K mg base CX0 1 t.f_Ltext t.d_Ltext ["_law_plan_here"] sp_Ltext := by
 refine T.F_Ltext.ok sc_Ltext (fun vs H Q E h => ?_) (fun cdv A outer s H vs Q E hr h => ?_)
 ·obtain ⟨pp, c, r, s, cs, rs, rfl, _⟩ := h; rfl
 ·obtain ⟨pp, c, r, s, cs, rs, rfl, hp, hc, hr', hs, b1, b2, l1, l2, k⟩ := h
  refine cutC (ps_set (i := 1) sc_Ltext.nd rfl (Or.inl rfl) (pe_lst (pa_cons (pe_callTy call_str_int rfl T.no_str (by rfl) (pa_cons (pe_ix (ix_tupK K rfl) (pv 0) pe_int (fun _ _ => rfl)) pa_nil)) pa_nil))) fun _ _ => cutC (ps_for PassesOwn.never rfl (pi_tup (pe_slice (sl_tupK K rfl) (pv 0) (po_some pe_int) po_none)) (pg_name (i := 2) sc_Ltext.nd rfl (Or.inl rfl)) (pss_cons (ps_set (i := 3) sc_Ltext.nd rfl (Or.inl rfl) (pe_bm PySem.F.plainAttrs_str PySem.F.slot_str_join PySem.F.type_str_join mt_join pe_str (pa_cons (pe_comp (N := ["_law_bit"]) (cap := [none]) rfl ⟨rfl, rfl, rfl, rfl, rfl, rfl⟩ (pi_list (pv 2)) (fun _ _ _ => (pg_name (i := 0) (show (["_law_bit"] : List Str).Nodup by decide +kernel) rfl (Or.inl rfl))) (fun _ _ _ => pts_nil) (fun _ _ _ => (pe_callTy call_str_int rfl T.no_str (by rfl) (pa_cons (pv 0) pa_nil)))) pa_nil))) (pss_cons (ps_join (ps_if (pt_cmpR (op_eqE hr.units) (pv 2) (pe_lst pa_nil) (nomark _)) (pss_one (ps_set (i := 3) sc_Ltext.nd rfl (Or.inl rfl) pe_str)) pss_nil)) (pss_one (ps_expr (pe_bm PySem.F.plainAttrs_list PySem.F.slot_list_append PySem.F.type_list_append mt_append (pv 1) (pa_cons (pv 3) pa_nil))))))) fun _ _ => cutE (ps_ret (pe_bm PySem.F.plainAttrs_str PySem.F.slot_str_join PySem.F.type_str_join mt_join pe_str (pa_cons (pv 1) pa_nil))) fun _ _ => ?_
  walk_at "rd"
  refine rd_ixT (SqT.of hp) (v := .int s) rfl ?_
  walk_at "rd"
  refine ⟨s, rfl, (str_bit hs).2, ?_⟩
  rw [(str_bit hs).1]
  walk_at "rd"
  refine ⟨by show 1 ≤ sizeLine; decide, fun lw nlw => ?_⟩
  have slw := Same.new (o := HO.lst [V.str (sh s)]) nlw
  have elw := upd_same (H := H) (a := lw) (o := HO.lst [V.str (sh s)])
  generalize upd H lw (HO.lst [V.str (sh s)]) = H1 at slw elw ⊢
  walk_at "rd"
  refine rd_slT (slw _ _ hp) fun H2 tp s2 etp => ?_
  have etp : H2 tp = some (.tup [.ref c, .ref r]) := etp
  have elw := s2 _ _ elw
  have s02 := slw.trans s2
  refine ⟨tp, rfl, ⟨_, SqT.of etp⟩, ?_⟩
  refine forW_tup (K := K) (a := tp) (xs := [.ref c, .ref r]) (fun i σ' H' => ∃ (o2 o3 : Option V), σ' = [some (.ref pp), some (.ref lw), o2, o3] ∧ Same H H' ∧ H' tp = some (.tup [.ref c, .ref r]) ∧ H' lw = some (.lst ((([sh s, wd cs, wd rs] : List Str).take (i + 1)).map V.str)))
   ⟨none, none, rfl, s02, etp, elw⟩ (fun i σ' H' _ ⟨_, _, _, _, z, _⟩ => SqT.of z) ?_ ?_
  ·rintro i v σ' H3 hv ⟨o2, o3, rfl, s3, etp3, elw3⟩
   obtain ⟨b, bs, rfl, hb, b01, hl, hw⟩ : ∃ b bs, v = .ref b ∧ H b = some (.lst (bs.map V.int)) ∧ B01 bs ∧ bs.length ≤ 100 ∧ ([sh s, wd cs, wd rs] : List Str).take (i + 1 + 1) = ([sh s, wd cs, wd rs] : List Str).take (i + 1) ++ [wd bs] := by
    match i, hv with
    | 0, hv => cases hv; exact ⟨c, cs, rfl, hc, b1, l1, rfl⟩
    | 1, hv => cases hv; exact ⟨r, rs, rfl, hr', b2, l2, rfl⟩
    | i + 2, hv => simp at hv
   have hb3 := s3 _ _ hb
   walk_at "rd"
   refine ⟨rfl, ?_⟩
   walk_at "rd"
   refine ⟨⟨_, SqL.of hb3⟩, fun lc nc => ?_⟩
   refine compW_list (fun v => match v with | .int i => .str ((toString i : String) : Str) | _ => .non) (SqL.of hb3) (by rw [List.length_map]; omega) nc (fun x o H' Q' hx s1 q => ?_) (fun H4 s4 e4 => ?_)
   ·obtain ⟨i, hi, rfl⟩ := List.mem_map.mp hx
    walk_at "rd"
    exact ⟨i, rfl, (str_bit (b01 i hi)).2, q H' (Same.refl _)⟩
   walk_at "rd"
   have e4 : H4 lc = some (.lst ((bs.map fun b => ((toString b : String) : Str)).map V.str)) := by rw [e4, List.map_map, List.map_map]; rfl
   refine ⟨"", lc, _, rfl, rfl, e4, joinOk_bits b01 (by omega), ?_⟩
   rw [join_bits b01]
   walk_at "rd"
   have s34 := s3.trans s4
   refine rd_join (fun σ' H' => σ' = [some (.ref pp), some (.ref lw), some (.ref b), some (.str (wd bs))] ∧ Same H4 H') ?_ ?_
   ·walk_at "rd"
    refine ⟨by show 0 ≤ sizeLine; decide, fun le nle => ?_⟩
    have sle := Same.new (o := HO.lst []) nle
    have ele := upd_same (H := H4) (a := le) (o := HO.lst [])
    generalize upd H4 le (HO.lst []) = H5 at sle ele ⊢
    walk_at "rd"
    refine ⟨b, le, _, rfl, rfl, sle _ _ (s4 _ _ hb3), ele, ?_⟩
    cases bs with
    | nil =>
     walk_at "rd"
     exact ⟨rfl, sle⟩
    | cons z bs =>
     walk_at "rd"
     refine ⟨?_, sle⟩
     unfold wd
     rw [if_neg (by simp)]
     rfl
   ·rintro σ5 H5 ⟨rfl, s5⟩
    have elw5 := s5 _ _ (s4 _ _ elw3)
    walk_at "rd"
    refine rd_bmL elw5 ?_
    walk_at "rd"
    refine rd_append elw5 (by rw [List.length_map, List.length_take]; exact Nat.lt_of_le_of_lt (Nat.min_le_right _ _) (by show 3 < sizeLine; decide)) ?_
    refine ⟨_, _, rfl, (s34.trans s5).later nlw, ?_, ?_⟩
    ·rw [upd_ne (ne_of (s5 _ _ (s4 _ _ etp3)) elw5 (by intro z; cases z))]; exact s5 _ _ (s4 _ _ etp3)
    ·rw [upd_same, hw, List.map_append]; rfl
  ·rintro σ' H3 ⟨o2, o3, rfl, s3, etp3, elw3⟩
   walk_at "rd"
   refine ⟨rfl, ?_⟩
   walk_at "rd"
   refine ⟨" ", lw, [sh s, wd cs, wd rs], rfl, rfl, elw3, ?_, ?_⟩
   ·exact joinOk3 (by rcases hs with rfl | rfl <;> decide +kernel) (wd_len 100 l1 (by decide)) (wd_len 100 l2 (by decide))
   ·rw [TxtJoin]
    exact k _ s3
end
section
variable {P : Program} {w : World} {K : PySem.W.Frag} {mg : Str → Option Value} {base : Heap} {t : Ad}
def sp_Lbitsword : Sp := fun vs H Q _ => ∃ x : Str, vs = [.str x] ∧ Tx x ∧ (lw x = none → ∀ H', Same H H' → Q .non H') ∧ ∀ bs, lw x = some bs → ∀ l H', Same H H' → H' l = some (.lst (bs.map V.int)) → Q (.ref l) H'
theorem ok_Lbitsword (T : Txt K mg t) : FnOk P w K mg base CX0 1 t.f_Lbitsword t.d_Lbitsword ["_law_word"] sp_Lbitsword := by
 refine T.F_Lbitsword.ok sc_Lbitsword (fun vs H Q E h => ?_) (fun cdv A outer s H vs Q E hr h => ?_)
 ·obtain ⟨x, rfl, _⟩ := h; rfl
 ·obtain ⟨x, rfl, tx, k1, k2⟩ := h
  refine cutC (ps_if (pt_cmpR op_eq (pv 0) pe_str (nomark _)) (pss_one (ps_ret (pe_lst pa_nil))) pss_nil) fun _ _ => cutC (ps_if (PW.pt (pw_or (pt_cmpR op_eq (pv 0) pe_str (nomark _)) (pw_or (pt_cmpR op_gt (pe_callB cI_lenX rfl T.no_len (by rfl) (pa_cons (pv 0) pa_nil)) pe_int (nomark _)) (pw_or1 (pt_not (pt_val (pe_callB (cI_allK K rfl rfl) rfl T.no_all (by rfl) (pa_cons (pe_comp (N := ["_law_sign"]) (cap := [none]) rfl ⟨rfl, rfl, rfl, rfl, rfl, rfl⟩ (pi_text (pv 0)) (fun _ _ _ => (pg_name (i := 0) (show (["_law_sign"] : List Str).Nodup by decide +kernel) rfl (Or.inl rfl))) (fun _ _ _ => pts_nil) (fun _ _ _ => (pe_cmpR op_in_str (pv 0) pe_str rfl))) pa_nil)))))))) (pss_one (ps_ret pe_non)) pss_nil) fun _ _ => cutE (ps_ret (pe_comp (N := ["_law_sign"]) (cap := [none]) rfl ⟨rfl, rfl, rfl, rfl, rfl, rfl⟩ (pi_text (pv 0)) (fun _ _ _ => (pg_name (i := 0) (show (["_law_sign"] : List Str).Nodup by decide +kernel) rfl (Or.inl rfl))) (fun _ _ _ => pts_nil) (fun _ _ _ => (pe_callTy cI_intT rfl T.no_int (by rfl) (pa_cons (pv 0) pa_nil))))) fun _ _ => ?_
  have hl : x.cps.toList.length = x.length := Array.length_toList
  walk_at "rd"
  by_cases c1 : x = "-"
  ·rw [decide_eq_true c1]
   walk_at "rd"
   refine ⟨by show 0 ≤ sizeLine; decide, fun l nl => ?_⟩
   have sl := Same.new (o := HO.lst []) nl
   have el := upd_same (H := H) (a := l) (o := HO.lst [])
   generalize upd H l (HO.lst []) = H1 at sl el ⊢
   exact k2 [] (lw_of (by unfold bitW; rw [if_pos c1]) (by decide)) l H1 sl el
  ·rw [decide_eq_false c1]
   walk_at "rd"
   by_cases c2 : x = ""
   ·rw [decide_eq_true c2]
    walk_at "rd"
    refine k1 (lw_no ?_) _ (Same.refl _)
    unfold bitW
    rw [if_neg c1, c2, if_neg (by decide +kernel)]
   ·rw [decide_eq_false c2]
    have ne : x.cps.toList ≠ [] := fun z => c2 (strX (by rw [z]; rfl))
    have hS : hasS x "01" = x.cps.toList.all fun c => decide (c ∈ ("01" : Str).cps.toList) := by
     unfold hasS
     cases q : x.cps.toList with
     | nil => exact absurd q ne
     | cons c r => rfl
    walk_at "rd"
    refine rd_lenX tx.line ?_
    walk_at "rd"
    by_cases c3 : (39 : Int) < (x.length : Nat)
    ·rw [decide_eq_true c3]
     walk_at "rd"
     refine k1 ?_ _ (Same.refl _)
     cases hb : bitW x with
     | none => exact lw_no hb
     | some bs =>
      refine lw_big hb fun z => ?_
      unfold bitW at hb
      rw [if_neg c1] at hb
      by_cases d : hasS x "01" = true
      ·rw [if_pos d] at hb; cases hb; rw [List.length_map] at z; omega
      ·rw [if_neg d] at hb; cases hb
    ·rw [decide_eq_false c3]
     walk_at "rd"
     refine ⟨x, rfl, fun l nl => ?_⟩
     refine compW_textL ((x.cps.toList.map fun c => decide (c ∈ ("01" : Str).cps.toList)).map V.bl) (by rw [List.length_map, List.length_map, Array.length_toList]) tx.size nl (fun i c v o H' Q' hc hy s5 q => ?_) (fun H1 s1 e1 => ?_)
     ·rw [List.getElem?_map, List.getElem?_map, Array.getElem?_toList, hc] at hy
      cases hy
      walk_at "rd"
      refine ⟨_, _, rfl, rfl, ?_⟩
      rw [in_sign]
      exact q H' (Same.refl _)
     ·walk_at "rd"
      refine rd_all e1 ?_
      rw [List.all_map]
      rw [show (x.cps.toList.all (id ∘ fun c => decide (c ∈ ("01" : Str).cps.toList))) = hasS x "01" from hS.symm]
      cases d : hasS x "01" with
      | false =>
       walk_at "rd"
       refine k1 (lw_no ?_) _ s1
       unfold bitW
       rw [if_neg c1, d, if_neg (by decide)]
      | true =>
       walk_at "rd"
       refine ⟨x, rfl, fun l2 n2 => ?_⟩
       refine compW_textL ((x.cps.toList.map fun (c : Nat) => (c : Int) - 48).map V.int) (by rw [List.length_map, List.length_map, Array.length_toList]) tx.size n2 (fun i c v o H' Q' hc hy s5 q => ?_) (fun H2 s2 e2 => ?_)
       ·rw [List.getElem?_map, List.getElem?_map, Array.getElem?_toList, hc] at hy
        cases hy
        walk_at "rd"
        refine ⟨_, _, rfl, int_sign (hasS_bits d c (by rw [← Array.getElem?_toList] at hc; exact List.mem_of_getElem? hc)), by show 1 ≤ 640; decide, ?_⟩
        exact q H' (Same.refl _)
       ·walk_at "rd"
        exact k2 _ (lw_of (by unfold bitW; rw [if_neg c1, if_pos d]) (by rw [List.length_map]; omega)) l2 H2 (s1.trans s2) e2
def sp_Lclothwords : Sp := fun vs H Q _ => ∃ (l : Addr) (x : Str), vs = [.ref l] ∧ H l = some (.lst ((Txt.split x " ").map V.str)) ∧ Tx x ∧ (rdW x = none → ∀ H', Same H H' → Q .non H') ∧
 ∀ s cs rs, rdW x = some (s, cs, rs) → ∀ tp c r H', Same H H' → H' tp = some (.tup [.int s, .ref c, .ref r]) → H' c = some (.lst (cs.map V.int)) → H' r = some (.lst (rs.map V.int)) → Q (.ref tp) H'
theorem ok_Lclothwords (T : Txt K mg t) : FnOk P w K mg base CX0 2 t.f_Lclothwords t.d_Lclothwords ["_law_words"] sp_Lclothwords := by
  have G_Lbitsword := ok_Lbitsword (P := P) (w := w) (base := base) T
  refine T.F_Lclothwords.ok sc_Lclothwords (fun vs H Q E h => ?_) (fun cdv A outer s H vs Q E hr h => ?_)
  · obtain ⟨l, x, rfl, _⟩ := h; rfl
  · obtain ⟨l1, x, rfl, e1, tx, k1, k2⟩ := h
    refine cutC (ps_if (PW.pt (pw_or (pt_cmpR op_ne (pe_callB (cI_lenK K rfl) rfl T.no_len (by rfl) (pa_cons (pv 0) pa_nil)) pe_int (nomark _)) (pw_or1 (pt_cmpR (op_ninT hr.units) (pe_ix (ix_listK K rfl) (pv 0) pe_int (fun _ _ => rfl)) (pe_tup (pa_cons pe_str (pa_cons pe_str pa_nil))) rfl)))) (pss_one (ps_ret pe_non)) pss_nil) fun _ _ => cutC (ps_set (i := 1) sc_Lclothwords.nd rfl (Or.inl rfl) (pe_call G_Lbitsword (hr.mono (by first | decide | omega)) rfl T.mg_Lbitsword T.F_Lbitsword.kp T.b_Lbitsword .nil pass0 (pa_cons (pe_ix (ix_listK K rfl) (pv 0) pe_int (fun _ _ => rfl)) pa_nil))) fun _ _ => cutC (ps_set (i := 2) sc_Lclothwords.nd rfl (Or.inl rfl) (pe_call G_Lbitsword (hr.mono (by first | decide | omega)) rfl T.mg_Lbitsword T.F_Lbitsword.kp T.b_Lbitsword .nil pass0 (pa_cons (pe_ix (ix_listK K rfl) (pv 0) pe_int (fun _ _ => rfl)) pa_nil))) fun _ _ => cutC (ps_if (PW.pt (pw_or (pt_cmpR op_isN (pv 1) pe_non (nomark _)) (pw_or1 (pt_cmpR op_isN (pv 2) pe_non (nomark _))))) (pss_one (ps_ret pe_non)) pss_nil) fun _ _ => cutE (ps_ret (pe_tup (pa_cons (pe_callTy cI_intT rfl T.no_int (by rfl) (pa_cons (pe_ix (ix_listK K rfl) (pv 0) pe_int (fun _ _ => rfl)) pa_nil)) (pa_cons (pv 1) (pa_cons (pv 2) pa_nil))))) fun _ _ => ?_
    walk_at "rd"
    refine rd_lenL e1 ?_
    rw [List.length_map]
    walk_at "rd"
    by_cases c3 : (Txt.split x " ").length = 3
    · rw [decide_eq_true (show (((Txt.split x " ").length : Nat) : Int) = 3 by omega)]
      obtain ⟨a, b, c, hq⟩ := three c3
      have w1 : Tx a := tx.word (y := " ") (by rw [hq]; simp)
      have w2 : Tx b := tx.word (y := " ") (by rw [hq]; simp)
      have w3 : Tx c := tx.word (y := " ") (by rw [hq]; simp)
      rw [hq] at e1
      have rd3 := rdW_3 hq
      walk_at "rd"
      refine rd_ixL (SqL.of e1) (v := .str a) rfl ?_
      walk_at "rd"
      refine ⟨by show 2 ≤ sizeLine; decide, fun tp ntp => ?_⟩
      have stp := Same.new (o := HO.tup [V.str "0", V.str "1"]) ntp
      have etp := upd_same (H := H) (a := tp) (o := HO.tup [V.str "0", V.str "1"])
      generalize upd H tp (HO.tup [V.str "0", V.str "1"]) = H2 at stp etp ⊢
      walk_at "rd"
      refine rd_ninT2 etp (by decide +kernel) (by decide +kernel) w1.ok ?_
      by_cases ca : a = "0" ∨ a = "1"
      · rw [show (!(decide ("0" = a) || decide ("1" = a))) = false by rcases ca with rfl | rfl <;> decide +kernel]
        rw [if_pos ca] at rd3
        walk_at "rd"
        have e2 := stp _ _ e1
        refine rd_ixL (SqL.of e2) (v := .str b) rfl ?_
        walk_at "rd"
        refine ⟨b, rfl, w2, fun hb H3 s3 => ?_, fun cs hb lc H3 s3 ec => ?_⟩
        · walk_at "rd"
          refine rd_ixL (SqL.of (s3 _ _ e2)) (v := .str c) rfl ?_
          walk_at "rd"
          rw [hb] at rd3
          refine ⟨c, rfl, w3, fun hc H4 s4 => ?_, fun rs hc lr H4 s4 er => ?_⟩
          · walk_at "rd"
            refine ⟨rfl, _, rfl, ?_⟩
            rw [decide_eq_true rfl]
            walk_at "rd"
            exact k1 rd3 _ ((stp.trans s3).trans s4)
          · walk_at "rd"
            refine ⟨rfl, _, rfl, ?_⟩
            rw [decide_eq_true rfl]
            walk_at "rd"
            exact k1 rd3 _ ((stp.trans s3).trans s4)
        · walk_at "rd"
          refine rd_ixL (SqL.of (s3 _ _ e2)) (v := .str c) rfl ?_
          walk_at "rd"
          rw [hb] at rd3
          refine ⟨c, rfl, w3, fun hc H4 s4 => ?_, fun rs hc lr H4 s4 er => ?_⟩
          · rw [hc] at rd3
            walk_at "rd"
            refine ⟨rfl, _, rfl, ?_⟩
            rw [decide_eq_false (by intro z; cases z)]
            walk_at "rd"
            refine ⟨rfl, _, rfl, ?_⟩
            rw [decide_eq_true rfl]
            walk_at "rd"
            exact k1 rd3 _ ((stp.trans s3).trans s4)
          · rw [hc] at rd3
            walk_at "rd"
            refine ⟨rfl, _, rfl, ?_⟩
            rw [decide_eq_false (by intro z; cases z)]
            walk_at "rd"
            refine ⟨rfl, _, rfl, ?_⟩
            rw [decide_eq_false (by intro z; cases z)]
            walk_at "rd"
            have e4 := (s3.trans s4) _ _ e2
            refine rd_ixL (SqL.of e4) (v := .str a) rfl ?_
            walk_at "rd"
            refine ⟨a, _, rfl, (int_01 ca).1, (int_01 ca).2, ?_⟩
            generalize (if a = "0" then (0 : Int) else 1) = sv at rd3 ⊢
            walk_at "rd"
            refine ⟨by show 3 ≤ sizeLine; decide, fun tq ntq => ?_⟩
            have stq := Same.new (o := HO.tup [V.int sv, V.ref lc, V.ref lr]) ntq
            have etq := upd_same (H := H4) (a := tq) (o := HO.tup [V.int sv, V.ref lc, V.ref lr])
            generalize upd H4 tq (HO.tup [V.int sv, V.ref lc, V.ref lr]) = H5 at stq etq ⊢
            exact k2 sv cs rs rd3 tq lc lr H5 (((stp.trans s3).trans s4).trans stq) etq (stq _ _ (s4 _ _ ec)) (stq _ _ er)
      · rw [show (!(decide ("0" = a) || decide ("1" = a))) = true by
          rw [decide_eq_false (fun z => ca (.inl z.symm)), decide_eq_false (fun z => ca (.inr z.symm))]; rfl]
        rw [if_neg ca] at rd3
        walk_at "rd"
        exact k1 rd3 _ stp
    · rw [decide_eq_false (show ¬ (((Txt.split x " ").length : Nat) : Int) = 3 by omega)]
      walk_at "rd"
      exact k1 (rdW_n c3) _ (Same.refl _)
def dueD (x : Str) : PyData := match rdW x with
 | none => .tuple [.bool true, .bool false, .bool true]
 | some (s, cs, rs) => planD s cs rs
theorem due_no {x : Str} (h : rdW x = none) : dueD x = .tuple [.bool true, .bool false, .bool true] := by unfold dueD; rw [h]
theorem due_some {x : Str} {s : Int} {cs rs : List Int} (h : rdW x = some (s, cs, rs)) : dueD x = planD s cs rs := by unfold dueD; rw [h]
theorem lw_bits {x : Str} {bs : List Int} (h : lw x = some bs) : Bits bs := by
 unfold lw at h
 cases hb : bitW x with
 | none => rw [hb] at h; cases h
 | some cs =>
  rw [hb] at h
  dsimp only at h
  by_cases c : cs.length ≤ 39
  ·rw [if_pos c] at h; cases h; exact ⟨c, (bitW_bits hb).1⟩
  ·rw [if_neg c] at h; cases h
theorem rdW_bits {x : Str} {s : Int} {cs rs : List Int} (h : rdW x = some (s, cs, rs)) : Bits cs ∧ Bits rs := by
 by_cases c3 : (Txt.split x " ").length = 3
 ·obtain ⟨a, b, c, hq⟩ := three c3
  rw [rdW_3 hq] at h
  by_cases ca : a = "0" ∨ a = "1"
  ·rw [if_pos ca] at h
   cases hb : lw b with
   | none => rw [hb] at h; cases h
   | some u =>
    cases hc : lw c with
    | none => rw [hb, hc] at h; cases h
    | some v => rw [hb, hc] at h; cases h; exact ⟨lw_bits hb, lw_bits hc⟩
  ·rw [if_neg ca] at h; cases h
 ·rw [rdW_n c3] at h; cases h
theorem due_ok (x : Str) : Ok3 (dueD x) := by
 cases h : rdW x with
 | none =>
  rw [due_no h]
  refine .inr (.inr ⟨_, rfl, by show 3 ≤ 1000; decide, fun e he => ?_⟩)
  simp only [List.mem_cons, List.not_mem_nil, or_false] at he
  rcases he with rfl | rfl | rfl <;> exact .inl (.inr (.inl ⟨_, rfl⟩))
 | some q =>
  obtain ⟨s, cs, rs⟩ := q
  rw [due_some h]
  exact planD_ok (rdW_bits h).1 (rdW_bits h).2
theorem rep_tft {H : Hp} {tp : Addr} (h : H tp = some (.tup [.bl true, .bl false, .bl true])) : Rep H (.tuple [.bool true, .bool false, .bool true]) (.ref tp) := by
 simp only [Rep, RepL]
 exact ⟨tp, _, rfl, h, _, _, rfl, rfl, _, _, rfl, rfl, _, _, rfl, rfl, rfl⟩
def sp_Ldueread : Sp := fun vs H Q _ => ∃ x : Str, vs = [.str x] ∧ Tx x ∧ ∀ tp H', Same H H' → Rep H' (dueD x) (.ref tp) → Q (.ref tp) H'
theorem ok_Ldueread (T : Txt K mg t) : FnOk P w K mg base CX0 3 t.f_Ldueread t.d_Ldueread ["_law_text_here"] sp_Ldueread := by
 have G_Lclothwords := ok_Lclothwords (P := P) (w := w) (base := base) T
 refine T.F_Ldueread.ok sc_Ldueread (fun vs H Q E h => ?_) (fun cdv A outer s H vs Q E hr h => ?_)
 ·obtain ⟨x, rfl, _⟩ := h; rfl
 ·obtain ⟨x, rfl, tx, k⟩ := h
  refine cutC (ps_set (i := 1) sc_Ldueread.nd rfl (Or.inl rfl) (pe_call G_Lclothwords (hr.mono (by first | decide | omega)) rfl T.mg_Lclothwords T.F_Lclothwords.kp T.b_Lclothwords .nil pass0 (pa_cons (pe_bm PySem.F.plainAttrs_str PySem.F.slot_str_split PySem.F.type_str_split mt_split (pv 0) (pa_cons pe_str pa_nil)) pa_nil))) fun _ _ => cutC (ps_if (pt_cmpR op_isN (pv 1) pe_non (nomark _)) (pss_one (ps_ret (pe_tup (pa_cons pe_bl (pa_cons pe_bl (pa_cons pe_bl pa_nil)))))) pss_nil) fun _ _ => cutE (ps_ret (pv 1)) fun _ _ => ?_
  walk_at "rd"
  refine ⟨rfl, ?_⟩
  walk_at "rd"
  refine ⟨x, " ", rfl, rfl, by decide +kernel, by have := tx.1; omega, fun l1 n1 => ?_⟩
  have s1 := Same.new (o := HO.lst ((Txt.split x " ").map V.str)) n1
  have e1 := upd_same (H := H) (a := l1) (o := HO.lst ((Txt.split x " ").map V.str))
  generalize upd H l1 (HO.lst ((Txt.split x " ").map V.str)) = H1 at s1 e1 ⊢
  walk_at "rd"
  refine ⟨l1, x, rfl, e1, tx, fun hn H2 s2 => ?_, fun s cs rs hq tp c r H2 s2 et ec er => ?_⟩
  ·walk_at "rd"
   refine ⟨rfl, _, rfl, ?_⟩
   rw [decide_eq_true rfl]
   walk_at "rd"
   refine ⟨by show 3 ≤ sizeLine; decide, fun tq ntq => ?_⟩
   have stq := Same.new (o := HO.tup [V.bl true, V.bl false, V.bl true]) ntq
   have etq := upd_same (H := H2) (a := tq) (o := HO.tup [V.bl true, V.bl false, V.bl true])
   generalize upd H2 tq (HO.tup [V.bl true, V.bl false, V.bl true]) = H3 at stq etq ⊢
   exact k tq H3 ((s1.trans s2).trans stq) (by rw [due_no hn]; exact rep_tft etq)
  ·walk_at "rd"
   refine ⟨rfl, _, rfl, ?_⟩
   rw [decide_eq_false (by intro z; cases z)]
   walk_at "rd"
   exact k tp H2 (s1.trans s2) (by rw [due_some hq]; exact planD_rep et ec er)
def sp_Lread : Sp := fun vs H Q _ => ∃ x : Str, vs = [.str x] ∧ Tx x ∧ ∀ tp H', Same H H' → Rep H' (dueD x) (.ref tp) → Q (.ref tp) H'
theorem ok_Lread (T : Txt K mg t) : FnOk P w K mg base CX0 9 t.f_Lread t.d_Lread ["_law_text_here"] sp_Lread := by
 have GX_readcloth := okx_readcloth (P := P) (w := w) (base := base) T
 have G_Ltold := ok_Ltold (P := P) (w := w) (base := base) T
 refine T.F_Lread.ok sc_Lread (fun vs H Q E h => ?_) (fun cdv A outer s H vs Q E hr h => ?_)
 ·obtain ⟨x, rfl, _⟩ := h; rfl
 ·obtain ⟨x, rfl, tx, k⟩ := h
  refine ⟨_, (pss_cons (ps_try (i := 2) sc_Lread.nd rfl rfl rfl T.mg_SewError (fun _ _ => (pss_one (ps_set (i := 1) sc_Lread.nd rfl (Or.inl rfl) (pe_callS G_Ltold.up (hr.mono (by first | decide | omega)) rfl T.mg_Ltold T.F_Ltold.kp T.b_Ltold .nil passT (pa_cons (pe_callS GX_readcloth (hr.mono (by first | decide | omega)) rfl T.mg_readcloth T.F_readcloth.kp T.b_readcloth .nil passT (pa_cons (pv 0) pa_nil)) pa_nil))))) (fun _ => (pss_one (ps_set (i := 1) sc_Lread.nd rfl (Or.inl rfl) (pe_tup (pa_cons (pe_callB (cI_isinstXK K rfl) rfl T.no_isinstance (by rfl) (pa_cons (pv 2) (pa_cons (pe_glob (v := .ref _) rfl T.mg_BadText rfl) pa_nil))) (pa_cons (pe_or (pe_callB (cI_isinstXK K rfl) rfl T.no_isinstance (by rfl) (pa_cons (pv 2) (pa_cons (pe_glob (v := .ref _) rfl T.mg_BadBit rfl) pa_nil))) (pe_one (pe_callB (cI_isinstXK K rfl) rfl T.no_isinstance (by rfl) (pa_cons (pv 2) (pa_cons (pe_glob (v := .ref _) rfl T.mg_BadSize rfl) pa_nil))))) (pa_cons (pe_callB (cI_isinstXK K rfl) rfl T.no_isinstance (by rfl) (pa_cons (pv 2) (pa_cons (pe_bltn (v := .ty "ValueError") rfl T.no_ValueError (by rfl : bootBuiltins "ValueError" = some (.type "ValueError")) rfl) pa_nil))) pa_nil)))))))) (pss_one (ps_ret (pv 1)))), ?_⟩
  walk_at "rd"
  refine ⟨x, rfl, tx, ?_⟩
  cases hq : rdW x with
  | none =>
   refine .inl ⟨rfl, fun H1 s1 => ⟨t.a_BadText, rfl, T.cat_BadText, fun e he => ?_⟩⟩
   have s2 := Same.new (o := ExcX e t.a_BadText none) he
   have ee := upd_same (H := H1) (a := e) (o := ExcX e t.a_BadText none)
   generalize upd H1 e (ExcX e t.a_BadText none) = H2 at s2 ee ⊢
   walk_at "rd"
   refine rd_isiX ee T.xi_BadText T.kt_BadText_BadText ?_
   walk_at "rd"
   refine rd_isiX ee T.xi_BadText T.kt_BadText_BadBit ?_
   walk_at "rd"
   refine rd_isiX ee T.xi_BadText T.kt_BadText_BadSize ?_
   walk_at "rd"
   refine rd_isiXT ee T.xi_BadText T.kv_BadText ?_
   walk_at "rd"
   refine ⟨by show 3 ≤ sizeLine; decide, fun tq ntq => ?_⟩
   have stq := Same.new (o := HO.tup [V.bl true, V.bl false, V.bl true]) ntq
   have etq := upd_same (H := H2) (a := tq) (o := HO.tup [V.bl true, V.bl false, V.bl true])
   generalize upd H2 tq (HO.tup [V.bl true, V.bl false, V.bl true]) = H3 at stq etq ⊢
   dsimp only [Dh]
   walk_at "rd"
   exact k tq H3 ((s1.trans s2).trans stq) (by rw [due_no hq]; exact rep_tft etq)
  | some z =>
   obtain ⟨s, cs, rs⟩ := z
   refine .inr ⟨s, cs, rs, rfl, fun p H1 s1 hC => ?_⟩
   walk_at "rd"
   refine ⟨p, s, cs, rs, rfl, hC, fun tp c r H2 s2 et ec er => ?_⟩
   walk_at "rd"
   exact k tp H2 (s1.trans s2) (by rw [due_some hq]; exact planD_rep et ec er)
end
section
variable {P : Program} {w : World} {K : PySem.W.Frag} {mg : Str → Option Value} {base : Heap} {t : Ad}
theorem ix_strK {X : Cx} (K : PySem.W.Frag) (h : X.K = K) : IxR X rIxS := ix_str
theorem sl_textK {X : Cx} (K : PySem.W.Frag) (h : X.K = K) : SlR X rSlX := sl_text
def TxN (n : Nat) (x : Str) : Prop := x.length ≤ n ∧ ∀ c ∈ x.cps.toList, c < 128
theorem TxN.tx {n : Nat} {x : Str} (h : TxN n x) (hn : n ≤ 1000) : Tx x := ⟨Nat.le_trans h.1 hn, h.2⟩
theorem sl_mem {x : Str} {lo hi : Option Int} {c : Nat} (h : c ∈ (Txt.slice x lo hi).cps.toList) : c ∈ x.cps.toList := by
 unfold Txt.slice at h
 split at h
 ·exact h
 ·rw [List.toList_toArray] at h
  obtain ⟨i, _, e⟩ := List.mem_filterMap.mp h
  rw [← Array.getElem?_toList] at e
  exact List.mem_of_getElem? e
theorem TxN.sl {n : Nat} {x : Str} (h : TxN n x) (lo hi : Option Int) : TxN n (Txt.slice x lo hi) := ⟨Nat.le_trans (Txt.slice_le x lo hi) h.1, fun c hc => h.2 c (sl_mem hc)⟩
theorem TxN.cat {n m : Nat} {x y : Str} (h : TxN n x) (h' : TxN m y) : TxN (n + m) (x ++ y) := by
 refine ⟨by rw [strLen_append]; exact Nat.add_le_add h.1 h'.1, fun c hc => ?_⟩
 rw [catX] at hc
 rcases List.mem_append.mp hc with z | z
 ·exact h.2 c z
 ·exact h'.2 c z
theorem TxN.sg {c : Nat} (h : c < 128) : TxN 1 (sgn c) := ⟨Nat.le_refl _, fun d hd => by
 have : d = c := by simpa [sgn] using hd
 rw [this]; exact h⟩
def wts (ps : List Str) : Nat := (ps.map (·.length)).sum + ps.length
theorem wts_app (a b : List Str) : wts (a ++ b) = wts a + wts b := by unfold wts; rw [List.map_append, List.sum_append, List.length_append]; omega
theorem wts_split (ps : List Str) (p : Nat) : wts (ps.take p) + wts (ps.drop p) = wts ps := by rw [← wts_app, List.take_append_drop]
theorem wts_mem {ps : List Str} {q : Str} (h : q ∈ ps) : wts [q] ≤ wts ps := by
 obtain ⟨a, b, rfl⟩ := List.append_of_mem h
 rw [show a ++ q :: b = a ++ ([q] ++ b) from rfl, wts_app, wts_app]; omega
theorem wts_one {ps : List Str} {q : Str} (h : q ∈ ps) : q.length + 1 ≤ wts ps := by
 have := wts_mem h
 have e : wts [q] = q.length + 1 := by unfold wts; simp
 omega
theorem wts_ge {ps : List Str} : ps.length ≤ wts ps := by unfold wts; omega
theorem join_wt {s : Str} (hs : s.length = 1) : ∀ {ps : List Str}, ps ≠ [] → (Str.join s ps).length + 1 = wts ps
 | [a], _ => by show a.length + 1 = _; unfold wts; simp
 | a :: b :: r, _ => by
  have ih := join_wt hs (ps := b :: r) (by simp)
  have e : (Str.join s (a :: b :: r)).length = a.length + s.length + (Str.join s (b :: r)).length := by
   show (a ++ s ++ Str.join s (b :: r)).length = _
   rw [strLen_append, strLen_append]
  rw [show a :: b :: r = [a] ++ (b :: r) from rfl, wts_app, ← ih]
  rw [show [a] ++ (b :: r) = a :: b :: r from rfl, e, hs]
  unfold wts
  simp
  omega
theorem join_wt_le {s : Str} (hs : s.length = 1) {ps : List Str} : (Str.join s ps).length ≤ wts ps := by
 cases ps with
 | nil => exact Nat.zero_le _
 | cons a r => have := join_wt hs (ps := a :: r) (by simp); omega
theorem join_inv {s : Str} {c : Nat} : ∀ {ps : List Str}, c ∈ (Str.join s ps).cps.toList → c ∈ s.cps.toList ∨ ∃ p ∈ ps, c ∈ p.cps.toList
 | [], h => by cases h
 | [a], h => .inr ⟨a, List.mem_cons_self, h⟩
 | a :: b :: r, h => by
  rw [join_cons2] at h
  rcases List.mem_append.mp h with z | z
  ·rcases List.mem_append.mp z with z | z
   ·exact .inr ⟨a, List.mem_cons_self, z⟩
   ·exact .inl z
  ·rcases join_inv z with q | ⟨p, hp, q⟩
   ·exact .inl q
   ·exact .inr ⟨p, List.mem_cons_of_mem _ hp, q⟩
def SmS (ps : List Str) : Prop := ∀ p ∈ ps, ∀ c ∈ p.cps.toList, c < 128
theorem txJoin {s : Str} {n : Nat} {ps : List Str} (hs : TxN 1 s) (h1 : s.length = 1) (hp : SmS ps) (hw : wts ps ≤ n) : TxN n (Txt.join s ps) := by
 rw [TxtJoin]
 refine ⟨Nat.le_trans (join_wt_le h1) hw, fun c hc => ?_⟩
 rcases join_inv hc with z | ⟨p, hp', z⟩
 ·exact hs.2 c z
 ·exact hp p hp' c z
theorem okJoin {s : Str} {ps : List Str} (h1 : s.length = 1) (hw : wts ps ≤ 700) : JoinOk s ps = true := by
 refine joinOk_of 700 (fun y hy => ?_) ?_
 ·have := wts_one hy
  omega
 ·have := wts_ge (ps := ps)
  rw [h1]
  have : ps.length ≤ 700 := by omega
  omega
theorem wts_of {x s : Str} (h1 : s.length = 1) : wts (Txt.split x s) = x.length + 1 := by
 have := join_wt h1 (ps := Txt.split x s) (split_ne _ _)
 rw [StrLaws.join_split] at this
 omega
theorem sms_of {x s : Str} {n : Nat} (h : TxN n x) : SmS (Txt.split x s) := fun p hp c hc => h.2 c (split_mem hp c hc)
theorem cutS_take {ws : List Str} {p : Nat} : cutV (ws.map V.str) none (some (p : Int)) = (ws.take p).map V.str := by rw [cutV_takeG, List.map_take]
theorem cutS_drop {ws : List Str} {p : Nat} : cutV (ws.map V.str) (some (p : Int)) none = (ws.drop p).map V.str := by rw [cutV_dropG, List.map_drop]
theorem rd_ixSg {H : Hp} {Q : VK} {z : Str} {i : Int} (hl : z.length ≤ sizeLine) (h0 : 0 ≤ i) (h1 : i < z.length) (ha : z.cps.toList.all (fun c => decide (c < 128)) = true) (q : ∀ c, c < 128 → Q (.str (sgn c)) H) : rIxS (.str z) (.int i) H Q := by
 obtain ⟨n, rfl⟩ : ∃ n : Nat, i = n := ⟨i.toNat, by omega⟩
 have hz : n < z.cps.toList.length := by rw [Array.length_toList]; show n < z.length; omega
 refine ⟨z, _, z.cps.toList[n], rfl, rfl, hl, atI_nat (List.getElem?_eq_getElem hz), q _ ?_⟩
 exact of_decide_eq_true (List.all_eq_true.mp ha _ (List.getElem_mem hz))
theorem md_ok {a : Int} {L : Nat} (h : 0 < L) : ∃ p : Nat, a % (L : Int) = (p : Int) ∧ p < L := by
 have h1 := Int.emod_nonneg a (show (L : Int) ≠ 0 by omega)
 have h2 := Int.emod_lt_of_pos a (show (0 : Int) < L by omega)
 exact ⟨(a % (L : Int)).toNat, by omega, by omega⟩
def sp_Lspoilt : Sp := fun vs H Q _ => ∃ (x : Str) (l : Addr) (zs : List Int), vs = [.str x, .ref l] ∧ TxN 200 x ∧ H l = some (.lst (zs.map V.int)) ∧ 4 ≤ zs.length ∧ ∀ y H', Tx y → Same H H' → Q (.str y) H'
theorem ok_Lspoilt (T : Txt K mg t) : FnOk P w K mg base CX0 1 t.f_Lspoilt t.d_Lspoilt ["_law_text_here", "_law_some"] sp_Lspoilt := by
 refine T.F_Lspoilt.ok sc_Lspoilt (fun vs H Q E h => ?_) (fun cdv A outer s H vs Q E hr h => ?_)
 ·obtain ⟨x, l, zs, rfl, _⟩ := h; rfl
 ·obtain ⟨x, l, zs, rfl, tx, el, hz, k⟩ := h
  refine cutC (ps_set (i := 2) sc_Lspoilt.nd rfl (Or.inl rfl) pe_str) fun _ _ => cutC (ps_set (i := 3) sc_Lspoilt.nd rfl (Or.inl rfl) (pe_op op_mod (pe_callB cI_abs rfl T.no_abs (by rfl) (pa_cons (pe_ix (ix_listK K rfl) (pv 1) pe_int (fun _ _ => rfl)) pa_nil)) (pe_op op_add (pe_callB cI_lenX rfl T.no_len (by rfl) (pa_cons (pv 0) pa_nil)) pe_int))) fun _ _ => cutC (ps_set (i := 4) sc_Lspoilt.nd rfl (Or.inl rfl) (pe_ix (ix_strK K rfl) (pv 2) (pe_op op_mod (pe_callB cI_abs rfl T.no_abs (by rfl) (pa_cons (pe_ix (ix_listK K rfl) (pv 1) pe_int (fun _ _ => rfl)) pa_nil)) (pe_callB cI_lenX rfl T.no_len (by rfl) (pa_cons (pv 2) pa_nil))) (fun _ _ => rfl))) fun _ _ => cutC (ps_join (ps_if (pt_cmpR op_eq (pe_op op_mod (pe_ix (ix_listK K rfl) (pv 1) pe_int (fun _ _ => rfl)) pe_int) pe_int (nomark _)) (pss_one (ps_set (i := 4) sc_Lspoilt.nd rfl (Or.inl rfl) (pe_ix (ix_strK K rfl) pe_str (pe_op op_mod (pe_callB cI_abs rfl T.no_abs (by rfl) (pa_cons (pe_ix (ix_listK K rfl) (pv 1) pe_int (fun _ _ => rfl)) pa_nil)) pe_int) (fun _ _ => rfl)))) pss_nil)) fun _ _ => cutC (ps_set (i := 5) sc_Lspoilt.nd rfl (Or.inl rfl) (pe_bm PySem.F.plainAttrs_str PySem.F.slot_str_split PySem.F.type_str_split mt_split (pv 0) (pa_cons pe_str pa_nil))) fun _ _ => cutC (ps_set (i := 6) sc_Lspoilt.nd rfl (Or.inl rfl) (pe_op op_mod (pe_callB cI_abs rfl T.no_abs (by rfl) (pa_cons (pe_ix (ix_listK K rfl) (pv 1) pe_int (fun _ _ => rfl)) pa_nil)) (pe_callB (cI_lenK K rfl) rfl T.no_len (by rfl) (pa_cons (pv 5) pa_nil)))) fun _ _ => cutC (ps_set (i := 7) sc_Lspoilt.nd rfl (Or.inl rfl) (pe_op op_mod (pe_ix (ix_listK K rfl) (pv 1) pe_int (fun _ _ => rfl)) pe_int)) fun _ _ => cutC (ps_if (pt_cmpR op_eq (pv 7) pe_int (nomark _)) (pss_one (ps_ret (pe_op op_add_str (pe_op op_add_str (pe_slice (sl_textK K rfl) (pv 0) po_none (po_some (pv 3))) (pv 4)) (pe_slice (sl_textK K rfl) (pv 0) (po_some (pv 3)) po_none)))) pss_nil) fun _ _ => cutC (ps_if (pt_cmpR op_eq (pv 7) pe_int (nomark _)) (pss_one (ps_ret (pe_op op_add_str (pe_slice (sl_textK K rfl) (pv 0) po_none (po_some (pv 3))) (pe_slice (sl_textK K rfl) (pv 0) (po_some (pe_op op_add (pv 3) pe_int)) po_none)))) pss_nil) fun _ _ => cutC (ps_if (pt_cmpR op_eq (pv 7) pe_int (nomark _)) (pss_one (ps_ret (pe_op op_add_str (pe_op op_add_str (pe_slice (sl_textK K rfl) (pv 0) po_none (po_some (pv 3))) (pv 4)) (pe_slice (sl_textK K rfl) (pv 0) (po_some (pe_op op_add (pv 3) pe_int)) po_none)))) pss_nil) fun _ _ => cutC (ps_if (pt_cmpR op_eq (pv 7) pe_int (nomark _)) (pss_one (ps_ret (pe_bm PySem.F.plainAttrs_str PySem.F.slot_str_join PySem.F.type_str_join mt_join pe_str (pa_cons (pe_op op_cat (pe_slice (sl_listK K rfl) (pv 5) po_none (po_some (pv 6))) (pe_slice (sl_listK K rfl) (pv 5) (po_some (pe_op op_add (pv 6) pe_int)) po_none)) pa_nil)))) pss_nil) fun _ _ => cutC (ps_if (pt_cmpR op_eq (pv 7) pe_int (nomark _)) (pss_one (ps_ret (pe_bm PySem.F.plainAttrs_str PySem.F.slot_str_join PySem.F.type_str_join mt_join pe_str (pa_cons (pe_op op_cat (pe_op op_cat (pe_slice (sl_listK K rfl) (pv 5) po_none (po_some (pv 6))) (pe_lst (pa_cons (pe_ix (ix_listK K rfl) (pv 5) (pv 6) (fun _ _ => rfl)) pa_nil))) (pe_slice (sl_listK K rfl) (pv 5) (po_some (pv 6)) po_none)) pa_nil)))) pss_nil) fun _ _ => cutC (ps_if (pt_cmpR op_eq (pv 7) pe_int (nomark _)) (pss_one (ps_ret (pe_bm PySem.F.plainAttrs_str PySem.F.slot_str_join PySem.F.type_str_join mt_join pe_str (pa_cons (pe_op op_cat (pe_slice (sl_listK K rfl) (pv 5) (po_some (pv 6)) po_none) (pe_slice (sl_listK K rfl) (pv 5) po_none (po_some (pv 6)))) pa_nil)))) pss_nil) fun _ _ => cutC (ps_set (i := 8) sc_Lspoilt.nd rfl (Or.inl rfl) (pe_bm PySem.F.plainAttrs_str PySem.F.slot_str_split PySem.F.type_str_split mt_split (pv 0) (pa_cons pe_str pa_nil))) fun _ _ => cutC (ps_set (i := 9) sc_Lspoilt.nd rfl (Or.inl rfl) (pe_op op_mod (pe_callB cI_abs rfl T.no_abs (by rfl) (pa_cons (pe_ix (ix_listK K rfl) (pv 1) pe_int (fun _ _ => rfl)) pa_nil)) (pe_callB (cI_lenK K rfl) rfl T.no_len (by rfl) (pa_cons (pv 8) pa_nil)))) fun _ _ => cutC (ps_if (pt_cmpR op_eq (pv 7) pe_int (nomark _)) (pss_one (ps_ret (pe_bm PySem.F.plainAttrs_str PySem.F.slot_str_join PySem.F.type_str_join mt_join pe_str (pa_cons (pe_op op_cat (pe_slice (sl_listK K rfl) (pv 8) po_none (po_some (pv 9))) (pe_slice (sl_listK K rfl) (pv 8) (po_some (pe_op op_add (pv 9) pe_int)) po_none)) pa_nil)))) pss_nil) fun _ _ => cutE (ps_ret (pe_bm PySem.F.plainAttrs_str PySem.F.slot_str_join PySem.F.type_str_join mt_join pe_str (pa_cons (pe_op op_cat (pe_op op_cat (pe_slice (sl_listK K rfl) (pv 8) po_none (po_some (pv 9))) (pe_lst (pa_cons (pe_ix (ix_listK K rfl) (pv 8) (pv 9) (fun _ _ => rfl)) pa_nil))) (pe_slice (sl_listK K rfl) (pv 8) (po_some (pv 9)) po_none)) pa_nil))) fun _ _ => ?_
  have xl := tx.1
  have xline : x.length ≤ sizeLine := Nat.le_trans xl (by decide)
  have big : (1000 : Nat) ≤ sizeLine := by decide
  have I0 : atI (zs.map V.int) 0 = _ := atI_ints (by decide) (by omega)
  have I1 : atI (zs.map V.int) 1 = _ := atI_ints (by decide) (by omega)
  have I2 : atI (zs.map V.int) 2 = _ := atI_ints (by decide) (by omega)
  have I3 : atI (zs.map V.int) 3 = _ := atI_ints (by decide) (by omega)
  generalize zs.getD (0 : Int).toNat 0 = z0 at I0
  generalize zs.getD (1 : Int).toNat 0 = z1 at I1
  generalize zs.getD (2 : Int).toNat 0 = z2 at I2
  generalize zs.getD (3 : Int).toNat 0 = z3 at I3
  walk_at "rd"
  refine rd_ixL (SqL.of el) I1 ?_
  walk_at "rd"
  refine rd_lenX xline ?_
  walk_at "rd"
  refine rd_I (by omega) ?_
  generalize (if z1 < 0 then -z1 else z1) = a1
  obtain ⟨p, ep, hp⟩ := md_ok (a := a1) (L := x.length + 1) (by omega)
  rw [show (((x.length : Nat) : Int) + 1) = ((x.length + 1 : Nat) : Int) by omega, ep]
  walk_at "rd"
  refine rd_ixL (SqL.of el) I2 ?_
  walk_at "rd"
  refine rd_lenX (by decide +kernel) ?_
  walk_at "rd"
  refine rd_I (by decide +kernel) ?_
  walk_at "rd"
  refine rd_ixSg (by decide +kernel) (Int.emod_nonneg _ (by decide +kernel)) (Int.emod_lt_of_pos _ (by decide +kernel)) (by decide +kernel) fun c hc => ?_
  generalize (" !\"#$&'()*+,-./0123456789:;<=>?@ABCDEFGHIJKLMNOPQRSTUVWXYZ[]^_`abcdefghijklmnopqrstuvwxyz{|}~\n" : Str) = SG
  walk_at "rd"
  refine rd_join (fun σ' H' => ∃ c, c < 128 ∧ σ' = [some (.str x), some (.ref l), some (.str SG), some (.int (p : Nat)), some (.str (sgn c)), none, none, none, none, none] ∧ H' = H) ?_ ?_
  ·walk_at "rd"
   refine rd_ixL (SqL.of el) I3 ?_
   walk_at "rd"
   refine rd_I (by decide) ?_
   walk_at "rd"
   by_cases h3 : z3 % 2 = 0
   ·rw [decide_eq_true h3]
    walk_at "rd"
    refine rd_ixL (SqL.of el) I2 ?_
    walk_at "rd"
    refine rd_I (by decide) ?_
    walk_at "rd"
    refine rd_ixSg (by decide +kernel) (Int.emod_nonneg _ (by decide)) (Int.lt_of_lt_of_le (Int.emod_lt_of_pos _ (show (0 : Int) < 6 by decide)) (by decide +kernel)) (by decide +kernel) fun c2 hc2 => ?_
    walk_at "rd"
    exact ⟨c2, hc2, rfl, rfl⟩
   ·rw [decide_eq_false h3]
    walk_at "rd"
    exact ⟨c, hc, rfl, rfl⟩
  clear hc c
  rintro σ' H' ⟨c, hc, rfl, eH⟩
  rw [eH]
  clear eH H'
  have tc := TxN.sg hc
  have lsg : (sgn c).length = 1 := rfl
  walk_at "rd"
  refine ⟨rfl, ?_⟩
  walk_at "rd"
  refine ⟨x, "\n", rfl, rfl, by decide +kernel, by omega, fun lr nr => ?_⟩
  have s1 := Same.new (o := HO.lst ((Txt.split x "\n").map V.str)) nr
  have e1 := upd_same (H := H) (a := lr) (o := HO.lst ((Txt.split x "\n").map V.str))
  generalize upd H lr (HO.lst ((Txt.split x "\n").map V.str)) = H1 at s1 e1 ⊢
  have el := s1 _ _ el
  have w1 : ("\n" : Str).length = 1 := by decide +kernel
  have w2 : (" " : Str).length = 1 := by decide +kernel
  have t1 : TxN 1 "\n" := ⟨by decide +kernel, by decide +kernel⟩
  have t2 : TxN 1 " " := ⟨by decide +kernel, by decide +kernel⟩
  have wr := wts_of (x := x) w1
  have sr := sms_of (s := "\n") tx
  have ne1 := List.length_pos_iff.mpr (split_ne x "\n")
  generalize Txt.split x "\n" = ws at e1 wr sr ne1
  walk_at "rd"
  refine rd_ixL (SqL.of el) I1 ?_
  walk_at "rd"
  refine rd_lenL e1 ?_
  rw [List.length_map]
  walk_at "rd"
  refine rd_I (by omega) ?_
  generalize (if z1 < 0 then -z1 else z1) = a2
  obtain ⟨q, eq, hq⟩ := md_ok (a := a2) (L := ws.length) ne1
  rw [eq]
  walk_at "rd"
  refine rd_ixL (SqL.of el) I0 ?_
  walk_at "rd"
  refine rd_I (by decide) ?_
  generalize z0 % 8 = wy
  walk_at "rd"
  by_cases w0k : wy = 0
  ·rw [decide_eq_true w0k]
   walk_at "rd"
   refine ⟨x, rfl, xline, ?_⟩
   walk_at "rd"
   have q1 := (tx.sl none (some ((p : Nat) : Int))).cat tc
   refine ⟨_, _, rfl, rfl, by have := (tx.sl none (some ((p : Nat) : Int))).1; omega, ?_⟩
   walk_at "rd"
   refine ⟨x, rfl, xline, ?_⟩
   walk_at "rd"
   have q2 := q1.cat (tx.sl (some ((p : Nat) : Int)) none)
   refine ⟨_, _, rfl, rfl, by have := q1.1; have := (tx.sl (some ((p : Nat) : Int)) none).1; omega, ?_⟩
   walk_at "rd"
   exact k _ _ (q2.tx (by decide)) s1
  rw [decide_eq_false w0k]
  walk_at "rd"
  by_cases w1k : wy = 1
  ·rw [decide_eq_true w1k]
   walk_at "rd"
   refine ⟨x, rfl, xline, ?_⟩
   walk_at "rd"
   refine ⟨x, rfl, xline, ?_⟩
   walk_at "rd"
   have q2 := (tx.sl none (some ((p : Nat) : Int))).cat (tx.sl (some (((p : Nat) : Int) + 1)) none)
   refine ⟨_, _, rfl, rfl, by have := (tx.sl none (some ((p : Nat) : Int))).1; have := (tx.sl (some (((p : Nat) : Int) + 1)) none).1; omega, ?_⟩
   walk_at "rd"
   exact k _ _ (q2.tx (by decide)) s1
  rw [decide_eq_false w1k]
  walk_at "rd"
  by_cases w2k : wy = 2
  ·rw [decide_eq_true w2k]
   walk_at "rd"
   refine ⟨x, rfl, xline, ?_⟩
   walk_at "rd"
   have q1 := (tx.sl none (some ((p : Nat) : Int))).cat tc
   refine ⟨_, _, rfl, rfl, by have := (tx.sl none (some ((p : Nat) : Int))).1; omega, ?_⟩
   walk_at "rd"
   refine ⟨x, rfl, xline, ?_⟩
   walk_at "rd"
   have q2 := q1.cat (tx.sl (some (((p : Nat) : Int) + 1)) none)
   refine ⟨_, _, rfl, rfl, by have := q1.1; have := (tx.sl (some (((p : Nat) : Int) + 1)) none).1; omega, ?_⟩
   walk_at "rd"
   exact k _ _ (q2.tx (by decide)) s1
  rw [decide_eq_false w2k]
  walk_at "rd"
  by_cases w3k : wy = 3
  ·rw [decide_eq_true w3k]
   walk_at "rd"
   refine ⟨rfl, ?_⟩
   walk_at "rd"
   refine rd_slL (e1) fun l2 n2 => ?_
   have s2 := Same.new (o := HO.lst (cutV (ws.map V.str) none (some ((q : Nat) : Int)))) n2
   have e2 := upd_same (H := H1) (a := l2) (o := HO.lst (cutV (ws.map V.str) none (some ((q : Nat) : Int))))
   generalize upd H1 l2 (HO.lst (cutV (ws.map V.str) none (some ((q : Nat) : Int)))) = H2 at s2 e2 ⊢
   rw [cutS_take] at e2
   walk_at "rd"
   rw [show (((q : Nat) : Int) + 1) = ((q + 1 : Nat) : Int) by omega]
   refine rd_slL (s2 _ _ (e1)) fun l3 n3 => ?_
   have s3 := Same.new (o := HO.lst (cutV (ws.map V.str) (some ((q + 1 : Nat) : Int)) none)) n3
   have e3 := upd_same (H := H2) (a := l3) (o := HO.lst (cutV (ws.map V.str) (some ((q + 1 : Nat) : Int)) none))
   generalize upd H2 l3 (HO.lst (cutV (ws.map V.str) (some ((q + 1 : Nat) : Int)) none)) = H3 at s3 e3 ⊢
   rw [cutS_drop] at e3
   walk_at "rd"
   have ww := wts_split ws q
   have wv := wts_split ws (q + 1)
   have hw : wts (ws.take q ++ ws.drop (q + 1)) ≤ 500 := by rw [wts_app]; omega
   have hlen := wts_ge (ps := ws.take q ++ ws.drop (q + 1))
   refine rd_catS (s3 _ _ e2) e3 (by rw [List.length_map, List.length_map, ← List.length_append]; omega) fun l4 H4 s4 _ e4 => ?_
   rw [← List.map_append] at e4
   walk_at "rd"
   refine ⟨"\n", l4, _, rfl, rfl, e4, okJoin w1 (by omega), ?_⟩
   walk_at "rd"
   refine k _ _ ((txJoin t1 w1 (fun p hp => ?_) hw).tx (by decide)) ((s1.trans (s2.trans s3)).trans s4)
   rcases List.mem_append.mp hp with z | z
   ·exact sr p (List.mem_of_mem_take z)
   ·exact sr p (List.mem_of_mem_drop z)
  rw [decide_eq_false w3k]
  walk_at "rd"
  by_cases w4k : wy = 4
  ·rw [decide_eq_true w4k]
   walk_at "rd"
   refine ⟨rfl, ?_⟩
   walk_at "rd"
   refine rd_slL (e1) fun l2 n2 => ?_
   have s2 := Same.new (o := HO.lst (cutV (ws.map V.str) none (some ((q : Nat) : Int)))) n2
   have e2 := upd_same (H := H1) (a := l2) (o := HO.lst (cutV (ws.map V.str) none (some ((q : Nat) : Int))))
   generalize upd H1 l2 (HO.lst (cutV (ws.map V.str) none (some ((q : Nat) : Int)))) = H2 at s2 e2 ⊢
   rw [cutS_take] at e2
   walk_at "rd"
   have eb := s2 _ _ (e1)
   refine rd_ixL (SqL.of eb) (v := .str ws[q]) (atI_nat (by rw [List.getElem?_map, List.getElem?_eq_getElem hq]; rfl)) ?_
   walk_at "rd"
   refine ⟨by show 1 ≤ sizeLine; decide, fun ln nln => ?_⟩
   have sln := Same.new (o := HO.lst [V.str ws[q]]) nln
   have eln := upd_same (H := H2) (a := ln) (o := HO.lst [V.str ws[q]])
   generalize upd H2 ln (HO.lst [V.str ws[q]]) = H3 at sln eln ⊢
   walk_at "rd"
   have ww := wts_split ws q
   have wo := wts_mem (List.getElem_mem hq : ws[q] ∈ ws)
   have hw1 : wts (ws.take q ++ [ws[q]]) ≤ 500 := by rw [wts_app]; omega
   have hw : wts (ws.take q ++ [ws[q]] ++ ws.drop q) ≤ 500 := by rw [wts_app, wts_app]; omega
   have hlen1 := wts_ge (ps := ws.take q ++ [ws[q]])
   have hlen := wts_ge (ps := ws.take q ++ [ws[q]] ++ ws.drop q)
   refine rd_catS (sln _ _ e2) eln (by rw [List.length_map]; rw [List.length_append] at hlen1; show _ + 1 ≤ _; have : ([ws[q]] : List Str).length = 1 := rfl; omega) fun l4 H4 s4 _ e4 => ?_
   rw [show (ws.take q).map V.str ++ [V.str ws[q]] = (ws.take q ++ [ws[q]]).map V.str by rw [List.map_append]; rfl] at e4
   walk_at "rd"
   refine rd_slL (s4 _ _ (sln _ _ eb)) fun l5 n5 => ?_
   have s5 := Same.new (o := HO.lst (cutV (ws.map V.str) (some ((q : Nat) : Int)) none)) n5
   have e5 := upd_same (H := H4) (a := l5) (o := HO.lst (cutV (ws.map V.str) (some ((q : Nat) : Int)) none))
   generalize upd H4 l5 (HO.lst (cutV (ws.map V.str) (some ((q : Nat) : Int)) none)) = H5 at s5 e5 ⊢
   rw [cutS_drop] at e5
   walk_at "rd"
   refine rd_catS (s5 _ _ e4) e5 (by rw [List.length_map, List.length_map, ← List.length_append]; omega) fun l6 H6 s6 _ e6 => ?_
   rw [← List.map_append] at e6
   walk_at "rd"
   refine ⟨"\n", l6, _, rfl, rfl, e6, okJoin w1 (by omega), ?_⟩
   walk_at "rd"
   refine k _ _ ((txJoin t1 w1 (fun p hp => ?_) hw).tx (by decide)) ((((s1.trans (s2.trans sln)).trans s4).trans s5).trans s6)
   rcases List.mem_append.mp hp with z | z
   ·rcases List.mem_append.mp z with z | z
    ·exact sr p (List.mem_of_mem_take z)
    ·rw [List.mem_singleton.mp z]; exact sr _ (List.getElem_mem hq)
   ·exact sr p (List.mem_of_mem_drop z)
  rw [decide_eq_false w4k]
  walk_at "rd"
  by_cases w5k : wy = 5
  ·rw [decide_eq_true w5k]
   walk_at "rd"
   refine ⟨rfl, ?_⟩
   walk_at "rd"
   refine rd_slL (e1) fun l2 n2 => ?_
   have s2 := Same.new (o := HO.lst (cutV (ws.map V.str) (some ((q : Nat) : Int)) none)) n2
   have e2 := upd_same (H := H1) (a := l2) (o := HO.lst (cutV (ws.map V.str) (some ((q : Nat) : Int)) none))
   generalize upd H1 l2 (HO.lst (cutV (ws.map V.str) (some ((q : Nat) : Int)) none)) = H2 at s2 e2 ⊢
   rw [cutS_drop] at e2
   walk_at "rd"
   refine rd_slL (s2 _ _ (e1)) fun l3 n3 => ?_
   have s3 := Same.new (o := HO.lst (cutV (ws.map V.str) none (some ((q : Nat) : Int)))) n3
   have e3 := upd_same (H := H2) (a := l3) (o := HO.lst (cutV (ws.map V.str) none (some ((q : Nat) : Int))))
   generalize upd H2 l3 (HO.lst (cutV (ws.map V.str) none (some ((q : Nat) : Int)))) = H3 at s3 e3 ⊢
   rw [cutS_take] at e3
   walk_at "rd"
   have ww := wts_split ws q
   have hw : wts (ws.drop q ++ ws.take q) ≤ 500 := by rw [wts_app]; omega
   have hlen := wts_ge (ps := ws.drop q ++ ws.take q)
   refine rd_catS (s3 _ _ e2) e3 (by rw [List.length_map, List.length_map, ← List.length_append]; omega) fun l4 H4 s4 _ e4 => ?_
   rw [← List.map_append] at e4
   walk_at "rd"
   refine ⟨"\n", l4, _, rfl, rfl, e4, okJoin w1 (by omega), ?_⟩
   walk_at "rd"
   refine k _ _ ((txJoin t1 w1 (fun p hp => ?_) hw).tx (by decide)) ((s1.trans (s2.trans s3)).trans s4)
   rcases List.mem_append.mp hp with z | z
   ·exact sr p (List.mem_of_mem_drop z)
   ·exact sr p (List.mem_of_mem_take z)
  rw [decide_eq_false w5k]
  walk_at "rd"
  refine ⟨rfl, ?_⟩
  walk_at "rd"
  refine ⟨x, " ", rfl, rfl, by decide +kernel, by omega, fun lv nv => ?_⟩
  have s1b := s1.trans (Same.new (o := HO.lst ((Txt.split x " ").map V.str)) nv)
  have el := Same.new (o := HO.lst ((Txt.split x " ").map V.str)) nv _ _ el
  have e7 := upd_same (H := H1) (a := lv) (o := HO.lst ((Txt.split x " ").map V.str))
  generalize upd H1 lv (HO.lst ((Txt.split x " ").map V.str)) = H7 at s1b e7 el ⊢
  have wr2 := wts_of (x := x) w2
  have sr2 := sms_of (s := " ") tx
  have ne2 := List.length_pos_iff.mpr (split_ne x " ")
  generalize Txt.split x " " = vs at e7 wr2 sr2 ne2
  walk_at "rd"
  refine rd_ixL (SqL.of el) I1 ?_
  walk_at "rd"
  refine rd_lenL e7 ?_
  rw [List.length_map]
  walk_at "rd"
  refine rd_I (by omega) ?_
  generalize (if z1 < 0 then -z1 else z1) = a3
  obtain ⟨r, er, hr2⟩ := md_ok (a := a3) (L := vs.length) ne2
  rw [er]
  walk_at "rd"
  by_cases w6k : wy = 6
  ·rw [decide_eq_true w6k]
   walk_at "rd"
   refine ⟨rfl, ?_⟩
   walk_at "rd"
   refine rd_slL (e7) fun l2 n2 => ?_
   have s2 := Same.new (o := HO.lst (cutV (vs.map V.str) none (some ((r : Nat) : Int)))) n2
   have e2 := upd_same (H := H7) (a := l2) (o := HO.lst (cutV (vs.map V.str) none (some ((r : Nat) : Int))))
   generalize upd H7 l2 (HO.lst (cutV (vs.map V.str) none (some ((r : Nat) : Int)))) = H2 at s2 e2 ⊢
   rw [cutS_take] at e2
   walk_at "rd"
   rw [show (((r : Nat) : Int) + 1) = ((r + 1 : Nat) : Int) by omega]
   refine rd_slL (s2 _ _ (e7)) fun l3 n3 => ?_
   have s3 := Same.new (o := HO.lst (cutV (vs.map V.str) (some ((r + 1 : Nat) : Int)) none)) n3
   have e3 := upd_same (H := H2) (a := l3) (o := HO.lst (cutV (vs.map V.str) (some ((r + 1 : Nat) : Int)) none))
   generalize upd H2 l3 (HO.lst (cutV (vs.map V.str) (some ((r + 1 : Nat) : Int)) none)) = H3 at s3 e3 ⊢
   rw [cutS_drop] at e3
   walk_at "rd"
   have ww := wts_split vs r
   have wv := wts_split vs (r + 1)
   have hw : wts (vs.take r ++ vs.drop (r + 1)) ≤ 500 := by rw [wts_app]; omega
   have hlen := wts_ge (ps := vs.take r ++ vs.drop (r + 1))
   refine rd_catS (s3 _ _ e2) e3 (by rw [List.length_map, List.length_map, ← List.length_append]; omega) fun l4 H4 s4 _ e4 => ?_
   rw [← List.map_append] at e4
   walk_at "rd"
   refine ⟨" ", l4, _, rfl, rfl, e4, okJoin w2 (by omega), ?_⟩
   walk_at "rd"
   refine k _ _ ((txJoin t2 w2 (fun p hp => ?_) hw).tx (by decide)) ((s1b.trans (s2.trans s3)).trans s4)
   rcases List.mem_append.mp hp with z | z
   ·exact sr2 p (List.mem_of_mem_take z)
   ·exact sr2 p (List.mem_of_mem_drop z)
  rw [decide_eq_false w6k]
  walk_at "rd"
  refine ⟨rfl, ?_⟩
  walk_at "rd"
  refine rd_slL (e7) fun l2 n2 => ?_
  have s2 := Same.new (o := HO.lst (cutV (vs.map V.str) none (some ((r : Nat) : Int)))) n2
  have e2 := upd_same (H := H7) (a := l2) (o := HO.lst (cutV (vs.map V.str) none (some ((r : Nat) : Int))))
  generalize upd H7 l2 (HO.lst (cutV (vs.map V.str) none (some ((r : Nat) : Int)))) = H2 at s2 e2 ⊢
  rw [cutS_take] at e2
  walk_at "rd"
  have eb := s2 _ _ (e7)
  refine rd_ixL (SqL.of eb) (v := .str vs[r]) (atI_nat (by rw [List.getElem?_map, List.getElem?_eq_getElem hr2]; rfl)) ?_
  walk_at "rd"
  refine ⟨by show 1 ≤ sizeLine; decide, fun ln nln => ?_⟩
  have sln := Same.new (o := HO.lst [V.str vs[r]]) nln
  have eln := upd_same (H := H2) (a := ln) (o := HO.lst [V.str vs[r]])
  generalize upd H2 ln (HO.lst [V.str vs[r]]) = H3 at sln eln ⊢
  walk_at "rd"
  have ww := wts_split vs r
  have wo := wts_mem (List.getElem_mem hr2 : vs[r] ∈ vs)
  have hw1 : wts (vs.take r ++ [vs[r]]) ≤ 500 := by rw [wts_app]; omega
  have hw : wts (vs.take r ++ [vs[r]] ++ vs.drop r) ≤ 500 := by rw [wts_app, wts_app]; omega
  have hlen1 := wts_ge (ps := vs.take r ++ [vs[r]])
  have hlen := wts_ge (ps := vs.take r ++ [vs[r]] ++ vs.drop r)
  refine rd_catS (sln _ _ e2) eln (by rw [List.length_map]; rw [List.length_append] at hlen1; show _ + 1 ≤ _; have : ([vs[r]] : List Str).length = 1 := rfl; omega) fun l4 H4 s4 _ e4 => ?_
  rw [show (vs.take r).map V.str ++ [V.str vs[r]] = (vs.take r ++ [vs[r]]).map V.str by rw [List.map_append]; rfl] at e4
  walk_at "rd"
  refine rd_slL (s4 _ _ (sln _ _ eb)) fun l5 n5 => ?_
  have s5 := Same.new (o := HO.lst (cutV (vs.map V.str) (some ((r : Nat) : Int)) none)) n5
  have e5 := upd_same (H := H4) (a := l5) (o := HO.lst (cutV (vs.map V.str) (some ((r : Nat) : Int)) none))
  generalize upd H4 l5 (HO.lst (cutV (vs.map V.str) (some ((r : Nat) : Int)) none)) = H5 at s5 e5 ⊢
  rw [cutS_drop] at e5
  walk_at "rd"
  refine rd_catS (s5 _ _ e4) e5 (by rw [List.length_map, List.length_map, ← List.length_append]; omega) fun l6 H6 s6 _ e6 => ?_
  rw [← List.map_append] at e6
  walk_at "rd"
  refine ⟨" ", l6, _, rfl, rfl, e6, okJoin w2 (by omega), ?_⟩
  walk_at "rd"
  refine k _ _ ((txJoin t2 w2 (fun p hp => ?_) hw).tx (by decide)) ((((s1b.trans (s2.trans sln)).trans s4).trans s5).trans s6)
  rcases List.mem_append.mp hp with z | z
  ·rcases List.mem_append.mp z with z | z
   ·exact sr2 p (List.mem_of_mem_take z)
   ·rw [List.mem_singleton.mp z]; exact sr2 _ (List.getElem_mem hr2)
  ·exact sr2 p (List.mem_of_mem_drop z)
end
section
def strOf : Expr → Option Str
 | .Constant (.str x) _ _ => some x
 | _ => none
def strsOf : List Expr → Option (List Str)
 | [] => some []
 | e :: es => (strOf e).bind fun x => (strsOf es).map (x :: ·)
def tStrs (xs : List Str) : TA := fun _ H Q => Q (xs.map V.str) H
theorem pa_strs {X : Cx} : ∀ {es : List Expr} {xs : List Str}, strsOf es = some xs → PA X es (tStrs xs)
 | [], xs, h => by cases h; exact pa_nil
 | e :: es, xs, h => by
  unfold strsOf at h
  cases e with
  | Constant k j pos =>
   cases k with
   | str x =>
    cases e1 : strsOf es with
    | none => rw [e1] at h; cases h
    | some ys =>
     rw [e1] at h; cases h
     exact pa_cons (t := tStrs ys) pe_str (pa_strs e1) rfl
   | _ => cases h
  | _ => cases h
structure PSW (X : Cx) (st : Stmt) (t : TS) : Prop where
 h : PS X st t
theorem cutCW {X : Cx} {s : Stmt} {ss : List Stmt} {r : TS} {C : TS → Prop} (d : PSW X s r) (k : ∀ r', r' = r → ∃ ts, PSs X ss ts ∧ C (tSeq r' ts)) : ∃ ts, PSs X (s :: ss) ts ∧ C ts := cutC d.h k
theorem ps_setStrs {X : Cx} {i : Nat} {x : Str} {es : List Expr} {xs : List Str} {p1 p2 p3 : Pos} (hN : X.N.Nodup) (hi : X.N[i]? = some x) (hx : Loc X.env.scope x) (h : strsOf es = some xs) (hf : X.fn x = true ∨ X.env.scope.names.lookup x = some .local := by first | exact .inl rfl | exact .inr rfl | assumption) :
  PSW X (.Assign [.Name x p1] (.List es p2) p3) (tAsg (tLst (tStrs xs)) (gName i)) := ⟨ps_set hN hi hx (pe_lst (pa_strs h)) rfl hf⟩
theorem rd_strs {xs : List Str} {ys : List V} {σ : L2.St} {H : Hp} {Q : List V → Hp → Prop} (e : xs.map V.str = ys) (q : Q ys H) : tStrs xs σ H Q := by subst e; exact q
end
section
variable {P : Program} {w : World} {K : PySem.W.Frag} {mg : Str → Option Value} {base : Heap} {t : Ad}
theorem ne32_wd {bs : List Int} : 32 ∉ (wd bs).cps.toList := by
 unfold wd
 split
 ·decide +kernel
 ·rw [List.toList_toArray]
  unfold dgs
  intro h
  obtain ⟨b, _, e⟩ := List.mem_map.mp h
  omega
theorem ne32_sh {s : Int} : 32 ∉ (sh s).cps.toList := by
 unfold sh sgn
 simp
theorem lw_wd {bs : List Int} (h : Bits bs) : lw (wd bs) = some bs := by
 refine lw_of ?_ h.1
 cases bs with
 | nil => unfold bitW wd; rw [if_pos rfl, if_pos rfl]
 | cons b r =>
  have hb := h.2 b List.mem_cons_self
  have ew : wd (b :: r) = ⟨(dgs (b :: r)).toArray⟩ := by unfold wd; rw [if_neg (by simp)]
  have n1 : ¬ (⟨(dgs (b :: r)).toArray⟩ : Str) = "-" := fun z => by
   have := congrArg (fun x : Str => x.cps.toList) z
   have e : ("-" : Str).cps.toList = [45] := by decide +kernel
   rw [e] at this
   unfold dgs at this
   simp at this <;> omega
  have n2 : hasS (⟨(dgs (b :: r)).toArray⟩ : Str) "01" = true := by
   unfold hasS
   rw [List.toList_toArray, Bool.and_eq_true, List.all_eq_true]
   refine ⟨rfl, fun c hc => decide_eq_true ?_⟩
   unfold dgs at hc
   obtain ⟨z, hz, rfl⟩ := List.mem_map.mp hc
   have e : ("01" : Str).cps.toList = [48, 49] := by decide +kernel
   rw [e]
   rcases h.2 z hz with rfl | rfl <;> decide
  rw [ew]
  unfold bitW
  rw [if_neg n1, if_pos n2, List.toList_toArray]
  congr 1
  unfold dgs
  rw [List.map_map]
  exact (List.map_congr_left fun z hz => by
   show ((z.toNat + 48 : Nat) : Int) - 48 = z
   rcases h.2 z hz with rfl | rfl <;> rfl).trans (List.map_id _)
theorem rd_txt {s : Int} {cs rs : List Int} (hs : s = 0 ∨ s = 1) (bc : Bits cs) (br : Bits rs) : rdW (txt s cs rs) = some (s, cs, rs) := by
 have e : Txt.split (txt s cs rs) " " = [sh s, wd cs, wd rs] := split_join (c := 32) (by simp) fun a ha => by
  simp only [List.mem_cons, List.not_mem_nil, or_false] at ha
  rcases ha with rfl | rfl | rfl
  ·exact ne32_sh
  ·exact ne32_wd
  ·exact ne32_wd
 rw [rdW_3 e, lw_wd bc, lw_wd br]
 rcases hs with rfl | rfl
 ·rw [if_pos (by decide +kernel)]; rfl
 ·rw [if_pos (by decide +kernel)]; rfl
theorem tx_txt {s : Int} {cs rs : List Int} (hs : s = 0 ∨ s = 1) (lc : cs.length ≤ 60) (lr : rs.length ≤ 60) (bc : B01 cs) (br : B01 rs) : TxN 200 (txt s cs rs) := by
 have hw : ∀ {bs : List Int}, B01 bs → ∀ c ∈ (wd bs).cps.toList, c < 128 := fun {bs} hb => by
  unfold wd
  split
  ·decide +kernel
  ·intro c hc
   rw [List.toList_toArray] at hc
   unfold dgs at hc
   obtain ⟨z, hz, rfl⟩ := List.mem_map.mp hc
   rcases hb z hz with rfl | rfl <;> decide
 have h1 : TxN 1 (sh s) := TxN.sg (by rcases hs with rfl | rfl <;> decide)
 have h2 : TxN 60 (wd cs) := ⟨wd_len 60 lc (by decide), hw bc⟩
 have h3 : TxN 60 (wd rs) := ⟨wd_len 60 lr (by decide), hw br⟩
 have sp : TxN 1 " " := ⟨by decide +kernel, by decide +kernel⟩
 have q := (h1.cat sp).cat ((h2.cat sp).cat h3)
 exact ⟨Nat.le_trans q.1 (by decide), q.2⟩
def nearA : List Str := ["", " ", "0", "0 -", "0 - -", "1 - 1", "0  -", "2 - -", "0 -- -", "00 - -", "0 - - ", "0 - -\n"]
def nearB : List Str := ["0 2 -", "0 -1 -", "- - -"]
theorem near_tx : ∀ x ∈ nearA ++ nearB, Tx x := by
 have h : ((nearA ++ nearB).all fun x => decide (x.length ≤ 1000) && x.cps.toList.all fun c => decide (c < 128)) = true := by decide +kernel
 intro x hx
 have := List.all_eq_true.mp h x hx
 rw [Bool.and_eq_true, List.all_eq_true] at this
 exact ⟨of_decide_eq_true this.1, fun c hc => of_decide_eq_true (this.2 c hc)⟩
def sp_law (K : PySem.W.Frag) : Sp := fun vs H Q _ => ∃ (a : Addr) (ns : List Int), vs = [.ref a] ∧ SqL K H a (ns.map V.int) ∧ ns.length ≤ 63 ∧ ∀ H', Q (.bl true) H'
theorem ok_law (T : Txt K mg t) : FnOk P w K mg base CX0 14 t.f_law t.d_law ["_law_script"] (sp_law K) := by
  have G_Ldraws := ok_Ldraws (P := P) (w := w) (base := base) T
  have G_Lplan := ok_Lplan (P := P) (w := w) (base := base) T
  have G_Lrow := ok_Lrow (P := P) (w := w) (base := base) T
  have G_Lmade := ok_Lmade (P := P) (w := w) (base := base) T
  have G_clothtext := ok_clothtext (P := P) (w := w) (base := base) T
  have G_Lsame := ok_Lsame (P := P) (w := w) (base := base) T
  have G_Ltext := ok_Ltext (P := P) (w := w) (base := base) T
  have G_Lread := ok_Lread (P := P) (w := w) (base := base) T
  have G_Ldueread := ok_Ldueread (P := P) (w := w) (base := base) T
  have G_Lspoilt := ok_Lspoilt (P := P) (w := w) (base := base) T
  refine T.F_law.ok sc_law (fun vs H Q E h => ?_) (fun cdv A outer s H vs Q E hr h => ?_)
  · obtain ⟨a, ns, rfl, _⟩ := h; rfl
  · obtain ⟨a, ns, rfl, hS, hl, z⟩ := h
    refine cutC (ps_set (i := 1) sc_law.nd rfl (Or.inr rfl) (pe_call G_Ldraws (hr.mono (by first | decide | omega)) rfl T.mg_Ldraws T.F_Ldraws.kp T.b_Ldraws .nil pass0 (pa_cons (pv 0) (pa_cons pe_int pa_nil)))) fun _ _ => cutC (ps_set (i := 2) sc_law.nd rfl (Or.inl rfl) (pe_call G_Lplan (hr.mono (by first | decide | omega)) rfl T.mg_Lplan T.F_Lplan.kp T.b_Lplan .nil pass0 (pa_cons (pv 1) pa_nil))) fun _ _ => cutC (ps_set (i := 3) sc_law.nd rfl (Or.inr rfl) (pe_call G_clothtext (hr.mono (by first | decide | omega)) rfl T.mg_clothtext T.F_clothtext.kp T.b_clothtext .nil pass0 (pa_cons (pe_call G_Lmade (hr.mono (by first | decide | omega)) rfl T.mg_Lmade T.F_Lmade.kp T.b_Lmade .nil pass0 (pa_cons (pv 2) pa_nil)) pa_nil))) fun _ _ => cutC (ps_if (PW.pt (pw_or (pt_not (pt_val (pe_call G_Lsame (hr.mono (by first | decide | omega)) rfl T.mg_Lsame T.F_Lsame.kp T.b_Lsame .nil pass0 (pa_cons (pv 3) (pa_cons (pe_call G_Ltext (hr.mono (by first | decide | omega)) rfl T.mg_Ltext T.F_Ltext.kp T.b_Ltext .nil pass0 (pa_cons (pv 2) pa_nil)) pa_nil))))) (pw_or1 (pt_not (pt_val (pe_call G_Lsame (hr.mono (by first | decide | omega)) rfl T.mg_Lsame T.F_Lsame.kp T.b_Lsame .nil pass0 (pa_cons (pe_call G_Lread (hr.mono (by first | decide | omega)) rfl T.mg_Lread T.F_Lread.kp T.b_Lread .nil pass0 (pa_cons (pv 3) pa_nil)) (pa_cons (pv 2) pa_nil)))))))) (pss_one (ps_ret pe_bl)) pss_nil) fun _ _ => cutC (ps_set (i := 4) sc_law.nd rfl (Or.inr rfl) (pe_call G_Ltext (hr.mono (by first | decide | omega)) rfl T.mg_Ltext T.F_Ltext.kp T.b_Ltext .nil pass0 (pa_cons (pe_tup (pa_cons (pe_ix (ix_tupK K rfl) (pv 2) pe_int (fun _ _ => rfl)) (pa_cons (pe_call G_Lrow (hr.mono (by first | decide | omega)) rfl T.mg_Lrow T.F_Lrow.kp T.b_Lrow .nil pass0 (pa_cons (pe_slice (sl_listK K rfl) (pv 1) (po_some pe_int) po_none) (pa_cons (pe_op op_mod (pe_ix (ix_listK K rfl) (pv 1) pe_int (fun _ _ => rfl)) pe_int) pa_nil))) (pa_cons (pe_call G_Lrow (hr.mono (by first | decide | omega)) rfl T.mg_Lrow T.F_Lrow.kp T.b_Lrow .nil pass0 (pa_cons (pe_slice (sl_listK K rfl) (pv 1) (po_some pe_int) po_none) (pa_cons (pe_op op_mod (pe_ix (ix_listK K rfl) (pv 1) pe_int (fun _ _ => rfl)) pe_int) pa_nil))) pa_nil)))) pa_nil))) fun _ _ => cutCW (ps_setStrs (i := 5) (xs := ["", " ", "0", "0 -", "0 - -", "1 - 1", "0  -", "2 - -", "0 -- -", "00 - -", "0 - - ", "0 - -\n"]) sc_law.nd rfl (Or.inl rfl) rfl) fun _ _ => cutC (ps_set (i := 5) sc_law.nd rfl (Or.inl rfl) (pe_op op_cat (pv 5) (pe_lst (pa_cons pe_str (pa_cons pe_str (pa_cons pe_str pa_nil)))))) fun _ _ => cutC (ps_setC (i := 6) sc_law.nd rfl (Or.inl rfl) (N := ["_law_k", "_law_some", "_law_text_here", "_law_more"]) (cap := [none, some 1, some 3, some 4]) rfl ⟨rfl, rfl, rfl, rfl, rfl, rfl⟩ (pi_range1 rfl T.no_range (pa_cons pe_int pa_nil)) (fun _ _ _ => (pg_name (i := 0) (show (["_law_k", "_law_some", "_law_text_here", "_law_more"] : List Str).Nodup by decide +kernel) rfl (Or.inl rfl))) (fun _ _ _ => pts_nil) (fun _ _ _ => (pe_call G_Lspoilt (hr.mono (by first | decide | omega)) rfl T.mg_Lspoilt T.F_Lspoilt.kp T.b_Lspoilt .nil pass0 (pa_cons (pe_ix (ix_listK K rfl) (pe_lst (pa_cons (pv 2) (pa_cons (pv 3) pa_nil))) (pe_op op_mod (pv 0) pe_int) (fun _ _ => rfl)) (pa_cons (pe_slice (sl_listK K rfl) (pv 1) (po_some (pe_op op_add pe_int (pe_op op_mul pe_int (pv 0)))) po_none) pa_nil)))) (by rfl)) fun _ _ => cutE (ps_ret (pe_callB (cI_allK K rfl rfl) rfl T.no_all (by rfl) (pa_cons (pe_comp (N := ["_law_one"]) (cap := [none]) rfl ⟨rfl, rfl, rfl, rfl, rfl, rfl⟩ (pi_list (pe_op op_cat (pe_op op_cat (pv 5) (pv 6)) (pe_lst (pa_cons (pv 4) pa_nil)))) (fun _ _ _ => (pg_name (i := 0) (show (["_law_one"] : List Str).Nodup by decide +kernel) rfl (Or.inl rfl))) (fun _ _ _ => pts_nil) (fun _ _ _ => (pe_call G_Lsame (hr.mono (by first | decide | omega)) rfl T.mg_Lsame T.F_Lsame.kp T.b_Lsame .nil pass0 (pa_cons (pe_call G_Lread (hr.mono (by first | decide | omega)) rfl T.mg_Lread T.F_Lread.kp T.b_Lread .nil pass0 (pa_cons (pv 0) pa_nil)) (pa_cons (pe_call G_Ldueread (hr.mono (by first | decide | omega)) rfl T.mg_Ldueread T.F_Ldueread.kp T.b_Ldueread .nil pass0 (pa_cons (pv 0) pa_nil)) pa_nil))))) pa_nil))) fun _ _ => ?_
    walk_at "rd"
    refine ⟨a, 50, ns, rfl, hS, hl, by decide, fun ls zs H1 s1 es lz _ sm => ?_⟩
    walk_at "rd"
    refine ⟨ls, zs, rfl, es, by omega, fun pp s cs rs H2 s2 pl => ?_⟩
    walk_at "rd"
    refine ⟨pp, true, s, cs, rs, rfl, pl, fun p H3 s3 hC => ?_⟩
    obtain ⟨⟨c, r, hp, hc, hr'⟩, hs, bc, br⟩ := id pl
    have lc := bc.1
    have lr := br.1
    have tn := tx_txt hs (by omega) (by omega) bc.2 br.2
    have tt := tn.tx (by decide)
    walk_at "rd"
    refine ⟨p, s, cs, rs, rfl, hC, hs, bc, br, fun H4 s4 => ?_⟩
    walk_at "rd"
    have s24 := s3.trans s4
    refine ⟨pp, c, r, s, cs, rs, rfl, s24 _ _ hp, s24 _ _ hc, s24 _ _ hr', hs, bc.2, br.2, by omega, by omega, fun H5 s5 => ?_⟩
    walk_at "rd"
    refine ⟨_, _, .str (txt s cs rs), rfl, okS_str tt.ok, by simp only [Rep], by simp only [Rep], fun H6 s6 => ?_⟩
    walk_at "rd"
    refine ⟨txt s cs rs, rfl, tt, fun tp H7 s7 rep => ?_⟩
    have s27 := ((s24.trans s5).trans s6).trans s7
    walk_at "rd"
    rw [due_some (rd_txt hs bc br)] at rep
    refine ⟨.ref tp, .ref pp, _, rfl, planD_ok bc br, rep, planD_rep (s27 _ _ hp) (s27 _ _ hc) (s27 _ _ hr'), fun H8 s8 => ?_⟩
    have s28 := s27.trans s8
    walk_at "rd"
    have es8 := s28 _ _ (s2 _ _ es)
    have I12 : atI (zs.map V.int) 12 = _ := atI_ints (by decide) (by omega)
    have I13 : atI (zs.map V.int) 13 = _ := atI_ints (by decide) (by omega)
    generalize zs.getD (12 : Int).toNat 0 = z12 at I12
    generalize zs.getD (13 : Int).toNat 0 = z13 at I13
    obtain ⟨m1, em1, hm1⟩ := md_ok (a := z12) (L := 44) (by decide)
    obtain ⟨m2, em2, hm2⟩ := md_ok (a := z13) (L := 44) (by decide)
    have em1 : z12 % 44 = (m1 : Int) := em1
    have em2 : z13 % 44 = (m2 : Int) := em2
    refine rd_ixT (SqT.of (s28 _ _ hp)) (v := .int s) rfl ?_
    walk_at "rd"
    refine rd_slL es8 fun l3 n3 => ?_
    have s9 := Same.new (o := HO.lst (cutV (zs.map V.int) (some 4) none)) n3
    have e9 := upd_same (H := H8) (a := l3) (o := HO.lst (cutV (zs.map V.int) (some 4) none))
    generalize upd H8 l3 (HO.lst (cutV (zs.map V.int) (some 4) none)) = H9 at s9 e9 ⊢
    walk_at "rd"
    refine rd_ixL (SqL.of (s9 _ _ es8)) I12 ?_
    walk_at "rd"
    refine rd_I (by decide) ?_
    rw [em1]
    walk_at "rd"
    refine ⟨l3, m1, zs.drop 4, rfl, e9.trans (congrArg (fun x => some (HO.lst x)) (cutV_drop (k := 4))), by rw [List.length_drop]; omega, by omega, fun c2 cs2 H10 s10 ec2 lc2 bc2 => ?_⟩
    walk_at "rd"
    have es10 := (s9.trans s10) _ _ es8
    refine rd_slL es10 fun l5 n5 => ?_
    have s11 := Same.new (o := HO.lst (cutV (zs.map V.int) (some 8) none)) n5
    have e11 := upd_same (H := H10) (a := l5) (o := HO.lst (cutV (zs.map V.int) (some 8) none))
    generalize upd H10 l5 (HO.lst (cutV (zs.map V.int) (some 8) none)) = H11 at s11 e11 ⊢
    walk_at "rd"
    refine rd_ixL (SqL.of (s11 _ _ es10)) I13 ?_
    walk_at "rd"
    refine rd_I (by decide) ?_
    rw [em2]
    walk_at "rd"
    refine ⟨l5, m2, zs.drop 8, rfl, e11.trans (congrArg (fun x => some (HO.lst x)) (cutV_drop (k := 8))), by rw [List.length_drop]; omega, by omega, fun r2 rs2 H12 s12 er2 lr2 br2 => ?_⟩
    walk_at "rd"
    refine ⟨by show 3 ≤ sizeLine; decide, fun tq ntq => ?_⟩
    have stq := Same.new (o := HO.tup [V.int s, V.ref c2, V.ref r2]) ntq
    have etq := upd_same (H := H12) (a := tq) (o := HO.tup [V.int s, V.ref c2, V.ref r2])
    generalize upd H12 tq (HO.tup [V.int s, V.ref c2, V.ref r2]) = H13 at stq etq ⊢
    walk_at "rd"
    have tn2 := tx_txt (s := s) (cs := cs2) (rs := rs2) hs (by omega) (by omega) bc2 br2
    refine ⟨tq, c2, r2, s, cs2, rs2, rfl, etq, stq _ _ (s12 _ _ (s11 _ _ ec2)), stq _ _ er2, hs, bc2, br2, by omega, by omega, fun H14 s14 => ?_⟩
    have es14 := ((s11.trans s12).trans (stq.trans s14)) _ _ es10
    generalize txt s cs2 rs2 = more at tn2 ⊢
    clear s9 s10 s11 s12 stq s14 er2 ec2 e11 e9 etq es10
    generalize txt s cs rs = tx at tn tt rep ⊢
    walk_at "rd"
    refine rd_strs (ys := nearA.map V.str) rfl ?_
    refine ⟨by show 12 ≤ sizeLine; decide, fun la na => ?_⟩
    have sa := Same.new (o := HO.lst (nearA.map V.str)) na
    have ea := upd_same (H := H14) (a := la) (o := HO.lst (nearA.map V.str))
    generalize upd H14 la (HO.lst (nearA.map V.str)) = H15 at sa ea ⊢
    walk_at "rd"
    refine ⟨by show 3 ≤ sizeLine; decide, fun lb nlb => ?_⟩
    have slb := Same.new (o := HO.lst [V.str "0 2 -", V.str "0 -1 -", V.str "- - -"]) nlb
    have elb := upd_same (H := H15) (a := lb) (o := HO.lst [V.str "0 2 -", V.str "0 -1 -", V.str "- - -"])
    generalize upd H15 lb (HO.lst [V.str "0 2 -", V.str "0 -1 -", V.str "- - -"]) = H16 at slb elb ⊢
    walk_at "rd"
    refine rd_catS (slb _ _ ea) elb (by show 12 + 3 ≤ sizeLine; decide) fun ln H17 s17 _ en => ?_
    have en : H17 ln = some (.lst ((nearA ++ nearB).map V.str)) := en
    have es17 := s17 _ _ (slb _ _ (sa _ _ es14))
    clear elb ea slb sa s17 es14
    walk_at "rd"
    refine ⟨8, rfl, by decide, by decide, fun lk nk => ?_⟩
    refine compW_rangeR (fun i v H' => ∃ y : Str, v = .str y ∧ Tx y) (by decide) nk (fun i v H1 H2 _ h => h) (fun i o H' Q' hi s' _ q => ?_) (fun ys H18 s18 e18 ly hR => ?_)
    · have hi8 : i < 8 := hi
      walk_at "rd"
      refine ⟨by show 2 ≤ sizeLine; decide, fun lt nlt => ?_⟩
      have slt := Same.new (o := HO.lst [V.str tx, V.str more]) nlt
      have elt := upd_same (H := H') (a := lt) (o := HO.lst [V.str tx, V.str more])
      generalize upd H' lt (HO.lst [V.str tx, V.str more]) = Hb at slt elt ⊢
      walk_at "rd"
      refine rd_I (by decide) ?_
      walk_at "rd"
      obtain ⟨u, hu, ttu⟩ : ∃ u, atI [V.str tx, V.str more] (((0 : Int) + (i : Nat)) % 2) = some (.str u) ∧ TxN 200 u := by
        rcases Int.emod_two_eq ((0 : Int) + (i : Nat)) with h | h
        · rw [h]; exact ⟨tx, rfl, tn⟩
        · rw [h]; exact ⟨more, rfl, tn2⟩
      refine rd_ixL (SqL.of elt) hu ?_
      walk_at "rd"
      refine rd_I (by first | trivial | (unfold CMul; omega)) ?_
      walk_at "rd"
      rw [show (14 : Int) + 4 * ((0 : Int) + (i : Nat)) = ((14 + 4 * i : Nat) : Int) by omega]
      refine rd_slL (slt _ _ (s' _ _ es17)) fun lz nz => ?_
      have sz := Same.new (o := HO.lst (cutV (zs.map V.int) (some ((14 + 4 * i : Nat) : Int)) none)) nz
      have ez := upd_same (H := Hb) (a := lz) (o := HO.lst (cutV (zs.map V.int) (some ((14 + 4 * i : Nat) : Int)) none))
      generalize upd Hb lz (HO.lst (cutV (zs.map V.int) (some ((14 + 4 * i : Nat) : Int)) none)) = Hc at sz ez ⊢
      walk_at "rd"
      exact ⟨u, lz, zs.drop (14 + 4 * i), rfl, ttu, ez.trans (congrArg (fun x => some (HO.lst x)) cutV_drop), by rw [List.length_drop]; omega, fun y H5 ty s5 => q _ _ ((slt.trans sz).trans s5) ⟨y, rfl, ty⟩⟩
    · have ly : ys.length = 8 := ly
      walk_at "rd"
      refine rd_catS (s18 _ _ en) e18 (by rw [ly]; show 15 + 8 ≤ sizeLine; decide) fun lp H19 s19 _ e19 => ?_
      walk_at "rd"
      refine ⟨by show 1 ≤ sizeLine; decide, fun lm nlm => ?_⟩
      have slm := Same.new (o := HO.lst [V.str more]) nlm
      have elm := upd_same (H := H19) (a := lm) (o := HO.lst [V.str more])
      generalize upd H19 lm (HO.lst [V.str more]) = H20 at slm elm ⊢
      walk_at "rd"
      refine rd_catS (slm _ _ e19) elm (by rw [List.length_append, ly]; show 15 + 8 + 1 ≤ sizeLine; decide) fun lx H21 s21 _ e21 => ?_
      walk_at "rd"
      refine ⟨⟨_, SqL.of e21⟩, fun lw nw => ?_⟩
      refine compW_list (fun _ => .bl true) (SqL.of e21) (by rw [List.length_append, List.length_append, ly]; show 15 + 8 + 1 ≤ 1000; decide) nw (fun v o H' Q' hv s' q => ?_) (fun H22 s22 e22 => ?_)
      · obtain ⟨y, rfl, ty⟩ : ∃ y, v = .str y ∧ Tx y := by
          rcases List.mem_append.mp hv with h | h
          · rcases List.mem_append.mp h with h | h
            · obtain ⟨y, hy, rfl⟩ := List.mem_map.mp h
              exact ⟨y, rfl, near_tx y hy⟩
            · obtain ⟨i, hi⟩ := List.getElem?_of_mem h
              exact hR i v hi
          · exact ⟨more, List.mem_singleton.mp h, tn2.tx (by decide)⟩
        walk_at "rd"
        refine ⟨y, rfl, ty, fun t1 Ha sa r1 => ?_⟩
        walk_at "rd"
        refine ⟨y, rfl, ty, fun t2 Hb sb r2 => ?_⟩
        walk_at "rd"
        exact ⟨.ref t1, .ref t2, dueD y, rfl, due_ok y, r1.mono sb, r2, fun Hc sc => q _ ((sa.trans sb).trans sc)⟩
      · walk_at "rd"
        generalize (nearA ++ nearB).map V.str ++ ys ++ [V.str more] = L at e22
        have e22 : H22 lw = some (.lst ((L.map fun _ => true).map V.bl)) := by rw [e22, List.map_map]; rfl
        refine rd_all e22 ?_
        rw [List.all_map, show L.all (id ∘ fun _ => true) = true from List.all_eq_true.mpr fun _ _ => rfl]
        exact z _
end
end My
set_option Elab.async false
set_option linter.all false
set_option maxRecDepth 100000
namespace PySem.W.Fast
theorem tw15458853001380892150:True:=⟨⟩
theorem tw13918592499067519422:True:=⟨⟩
theorem tw6424725523277944096:True:=⟨⟩
theorem tw6333816269192776994:True:=⟨⟩
theorem tw5455223541210931733:True:=⟨⟩
theorem tw10529514565080057184:True:=⟨⟩
theorem tw1005494026686568395:True:=⟨⟩
theorem tw7417433261710530058:True:=⟨⟩
theorem tw10126177503694445033:True:=⟨⟩
theorem tw18061548333658639932:True:=⟨⟩
theorem tw15916435287236409501:True:=⟨⟩
theorem tw10720901169349765089:True:=⟨⟩
theorem tw5533133953363166907:True:=⟨⟩
theorem tw8642236226531670118:True:=⟨⟩
theorem tw6922620215391424885:True:=⟨⟩
theorem tw7609360142606386778:True:=⟨⟩
theorem tw17900263362748927801:True:=⟨⟩
theorem tw8599799657277140317:True:=⟨⟩
theorem tw7072674011824463260:True:=⟨⟩
theorem tw13392521560582597374:True:=⟨⟩
theorem tw6326372345386360886:True:=⟨⟩
theorem tw1212474246933640628:True:=⟨⟩
theorem tw886815741852202768:True:=⟨⟩
theorem tw11250449966500140012:True:=⟨⟩
theorem tw2499791043947425936:True:=⟨⟩
theorem tw4741238588753270205:True:=⟨⟩
theorem tw15488462552744315314:True:=⟨⟩
theorem tw1383921514640381051:True:=⟨⟩
theorem tw17033266661955518907:True:=⟨⟩
theorem tw6073029629525919216:True:=⟨⟩
theorem tw3848016492437684810:True:=⟨⟩
theorem tw5378979661725403412:True:=⟨⟩
theorem tw2659850608318323862:True:=⟨⟩
theorem tw10665342026060431809:True:=⟨⟩
theorem tw13995975115172163165:True:=⟨⟩
theorem tw7037699969797146480:True:=⟨⟩
theorem tw10571281521553408418:True:=⟨⟩
theorem tw13290405255769924604:True:=⟨⟩
theorem tw8625420988600402176:True:=⟨⟩
theorem tw12696716682468439287:True:=⟨⟩
theorem tw6968886912804710338:True:=⟨⟩
theorem tw7461696379963861846:True:=⟨⟩
theorem tw15201658796289627889:True:=⟨⟩
theorem tw8930451206478075277:True:=⟨⟩
theorem tw13780354537223047030:True:=⟨⟩
theorem tw16782652936875481669:True:=⟨⟩
theorem tw9331499717123337503:True:=⟨⟩
theorem tw5818460924906755823:True:=⟨⟩
theorem tw12455725031113507156:True:=⟨⟩
theorem tw17481081317151623290:True:=⟨⟩
theorem tw4293154161985371975:True:=⟨⟩
theorem tw12936255742049919641:True:=⟨⟩
theorem tw13424579328533362271:True:=⟨⟩
theorem tw11656411347012013818:True:=⟨⟩
theorem tw328318378832107307:True:=⟨⟩
theorem tw12108511489765065393:True:=⟨⟩
theorem tw1550866740695715010:True:=⟨⟩
theorem tw48921100951556615:True:=⟨⟩
theorem tw12689684141596250237:True:=⟨⟩
theorem tw6073475227694148129:True:=⟨⟩
theorem tw14300913026460055161:True:=⟨⟩
theorem tw15037703651149158418:True:=⟨⟩
theorem tw3073775810648277758:True:=⟨⟩
theorem tw438357836011686754:True:=⟨⟩
theorem tw16368731404927592487:True:=⟨⟩
theorem tw2054658442421615747:True:=⟨⟩
theorem tw5976059136117432426:True:=⟨⟩
theorem tw1865802643539990928:True:=⟨⟩
theorem tw11204439808233030560:True:=⟨⟩
theorem tw10941689470900546185:True:=⟨⟩
theorem tw16591007099986698742:True:=⟨⟩
theorem tw5958210648505329594:True:=⟨⟩
theorem tw10321793568127588159:True:=⟨⟩
theorem tw12366350855185192187:True:=⟨⟩
theorem tw1173227676839989214:True:=⟨⟩
theorem tw7093513576213719011:True:=⟨⟩
theorem tw358892710220536860:True:=⟨⟩
theorem tw10366451969631674191:True:=⟨⟩
theorem tw14862008936844347771:True:=⟨⟩
theorem tw10189912661811303979:True:=⟨⟩
theorem tw12660121173007157775:True:=⟨⟩
theorem tw10829692911900253260:True:=⟨⟩
theorem tw17359499288914686067:True:=⟨⟩
theorem tw2233481365736126209:True:=⟨⟩
theorem tw7288504297546184126:True:=⟨⟩
theorem tw2122287425568096249:True:=⟨⟩
theorem tw909799864048867726:True:=⟨⟩
theorem tw2894089249731480307:True:=⟨⟩
theorem tw17619645848432202839:True:=⟨⟩
theorem tw2283754483148575289:True:=⟨⟩
theorem tw4253524700547390497:True:=⟨⟩
theorem tw11745660073330510081:True:=⟨⟩
theorem tw11252155737556960298:True:=⟨⟩
theorem tw6966030178353075625:True:=⟨⟩
theorem tw340855723667594282:True:=⟨⟩
theorem tw5914231322004969067:True:=⟨⟩
theorem tw14570442292854729989:True:=⟨⟩
theorem tw8994576119198675494:True:=⟨⟩
theorem tw4939637832393575385:True:=⟨⟩
theorem tw10043929446201660430:True:=⟨⟩
theorem tw10590918661850344555:True:=⟨⟩
theorem tw9089687360084932132:True:=⟨⟩
theorem tw8212804448237620229:True:=⟨⟩
theorem tw13492830205339825767:True:=⟨⟩
theorem tw8924054371017888811:True:=⟨⟩
theorem tw3216583122334723701:True:=⟨⟩
theorem tw12872489552533251707:True:=⟨⟩
theorem tw6032546693118208795:True:=⟨⟩
theorem tw7289011837120158984:True:=⟨⟩
theorem tw2894864480660952852:True:=⟨⟩
theorem tw2274709884569992243:True:=⟨⟩
theorem tw16527123681233852986:True:=⟨⟩
theorem tw16794081154347885283:True:=⟨⟩
theorem tw7616661219387667217:True:=⟨⟩
theorem tw8840142610486214220:True:=⟨⟩
theorem tw8143573728145399049:True:=⟨⟩
theorem tw3912656229873656608:True:=⟨⟩
theorem tw9084697144105049340:True:=⟨⟩
theorem tw17831620761853664202:True:=⟨⟩
theorem tw6873905523010525211:True:=⟨⟩
theorem tw14903433156923583405:True:=⟨⟩
theorem tw9772833589580132433:True:=⟨⟩
theorem tw12352865385737039219:True:=⟨⟩
theorem tw4704471612493696754:True:=⟨⟩
theorem tw12374851586992750434:True:=⟨⟩
theorem tw14039824929767630518:True:=⟨⟩
theorem tw10767947535873296901:True:=⟨⟩
theorem tw3320783502752898167:True:=⟨⟩
theorem tw13262621111902634139:True:=⟨⟩
theorem tw12248167798039988738:True:=⟨⟩
theorem tw16958137698939241084:True:=⟨⟩
theorem tw8874267372143280172:True:=⟨⟩
theorem tw17267922055541233032:True:=⟨⟩
theorem tw4126510559986350735:True:=⟨⟩
theorem tw3192950661989875145:True:=⟨⟩
theorem tw4897750728771883815:True:=⟨⟩
theorem tw1808304004778709047:True:=⟨⟩
theorem tw17761562065918828394:True:=⟨⟩
theorem tw4412725122954327232:True:=⟨⟩
theorem tw3184602469794553517:True:=⟨⟩
theorem tw14921297729347131389:True:=⟨⟩
theorem tw3481653710283312508:True:=⟨⟩
theorem tw14791572160916464548:True:=⟨⟩
theorem tw17341448509086407724:True:=⟨⟩
theorem tw11311954217992687714:True:=⟨⟩
theorem tw1902513587238813025:True:=⟨⟩
theorem tw17677222542622413440:True:=⟨⟩
theorem tw14741537270826959842:True:=⟨⟩
theorem tw14883083520935212832:True:=⟨⟩
theorem tw5525630326425902353:True:=⟨⟩
theorem tw13614477299443366947:True:=⟨⟩
theorem tw5241591982019084611:True:=⟨⟩
theorem tw13023781530661529581:True:=⟨⟩
theorem tw11343412532407384907:True:=⟨⟩
theorem tw5842151429021252668:True:=⟨⟩
theorem tw17117059871988761307:True:=⟨⟩
theorem tw6452209307084931859:True:=⟨⟩
theorem tw12434355629133542544:True:=⟨⟩
theorem tw7698985004478219419:True:=⟨⟩
theorem tw4243549129276274535:True:=⟨⟩
theorem tw2909304191931520516:True:=⟨⟩
theorem tw4448965628291113135:True:=⟨⟩
theorem tw8713802484443656939:True:=⟨⟩
theorem tw75853190686185992:True:=⟨⟩
theorem tw13652662135900895218:True:=⟨⟩
theorem tw5760117514524493837:True:=⟨⟩
theorem tw10571959777732848894:True:=⟨⟩
theorem tw2424425906039008371:True:=⟨⟩
theorem tw4343923561646159946:True:=⟨⟩
theorem tw5277054022048410688:True:=⟨⟩
theorem tw57270646710728163:True:=⟨⟩
theorem tw6808465100525092065:True:=⟨⟩
theorem tw13210932187762144794:True:=⟨⟩
theorem tw2071189717215127697:True:=⟨⟩
theorem tw1362942186576206128:True:=⟨⟩
theorem tw12751248459887269179:True:=⟨⟩
theorem tw4953717612562369178:True:=⟨⟩
theorem tw13595572542691877058:True:=⟨⟩
theorem tw9513629114905377064:True:=⟨⟩
theorem tw6541180278528914719:True:=⟨⟩
theorem tw17426447159861316535:True:=⟨⟩
theorem tw7536196728833291617:True:=⟨⟩
theorem tw699496937828550959:True:=⟨⟩
theorem tw8122871925462782802:True:=⟨⟩
theorem tw11097682037868008768:True:=⟨⟩
theorem tw4426924924980396669:True:=⟨⟩
theorem tw12529708018071578168:True:=⟨⟩
theorem tw2496451716034644742:True:=⟨⟩
theorem tw5286467390951251844:True:=⟨⟩
theorem tw9920377306319657532:True:=⟨⟩
theorem tw10865459617397836487:True:=⟨⟩
theorem tw12106942056921091431:True:=⟨⟩
theorem tw6970100309003946587:True:=⟨⟩
theorem tw6912854825257110938:True:=⟨⟩
theorem tw1439005043396556116:True:=⟨⟩
theorem tw7146848582548712881:True:=⟨⟩
theorem tw14855961057397239395:True:=⟨⟩
theorem tw17899409800062046046:True:=⟨⟩
theorem tw5058273671709681648:True:=⟨⟩
theorem tw513873183520884317:True:=⟨⟩
theorem tw482746786409551489:True:=⟨⟩
theorem tw8978646752304249239:True:=⟨⟩
theorem tw6961557315367304083:True:=⟨⟩
theorem tw9381669262427430713:True:=⟨⟩
theorem tw17181470387162991389:True:=⟨⟩
theorem tw4148646460014065267:True:=⟨⟩
theorem tw16838442404516630405:True:=⟨⟩
theorem tw3551807620536333967:True:=⟨⟩
theorem tw623132787391776063:True:=⟨⟩
theorem tw2998744433260323260:True:=⟨⟩
theorem tw7622000616302692475:True:=⟨⟩
theorem tw5628033116646434211:True:=⟨⟩
theorem tw10699356940287129066:True:=⟨⟩
theorem tw5120462655530493709:True:=⟨⟩
theorem tw15682293302664250532:True:=⟨⟩
theorem tw14621784933255225014:True:=⟨⟩
theorem tw4060292901876488298:True:=⟨⟩
theorem tw16853441511375652079:True:=⟨⟩
theorem tw14278437719548905:True:=⟨⟩
theorem tw12803265657187077487:True:=⟨⟩
theorem tw5164201187417090934:True:=⟨⟩
theorem tw17829604188485921282:True:=⟨⟩
theorem tw5556387079874485506:True:=⟨⟩
theorem tw6952112989440466554:True:=⟨⟩
theorem tw2896565072028865588:True:=⟨⟩
theorem tw10364506958837664643:True:=⟨⟩
theorem tw3502045059285803096:True:=⟨⟩
theorem tw14128675521758273366:True:=⟨⟩
theorem tw5335082311643081532:True:=⟨⟩
theorem tw8910918952548690219:True:=⟨⟩
theorem tw6512778561244544373:True:=⟨⟩
theorem tw16736900760150442187:True:=⟨⟩
theorem tw443511808773655118:True:=⟨⟩
theorem tw3620448393540791562:True:=⟨⟩
theorem tw15030334992862442280:True:=⟨⟩
theorem tw5310159408314334140:True:=⟨⟩
theorem tw9443912113364346197:True:=⟨⟩
theorem tw9642043432173927229:True:=⟨⟩
theorem tw40870469163584930:True:=⟨⟩
theorem tw15004414927669788385:True:=⟨⟩
theorem tw14931962276174446892:True:=⟨⟩
theorem tw8382568279819886304:True:=⟨⟩
theorem tw935185627209359231:True:=⟨⟩
theorem tw6459882786470060662:True:=⟨⟩
theorem tw9206613422758288766:True:=⟨⟩
theorem tw15638446921246083519:True:=⟨⟩
theorem tw339815808006528765:True:=⟨⟩
theorem tw14230244294260932154:True:=⟨⟩
theorem tw14622170808805281090:True:=⟨⟩
theorem tw9597703997052463446:True:=⟨⟩
theorem tw8273303578725688363:True:=⟨⟩
theorem tw7713107256802019967:True:=⟨⟩
theorem tw17566967216323890236:True:=⟨⟩
theorem tw12393624937031678781:True:=⟨⟩
theorem tw12968020292433451960:True:=⟨⟩
theorem tw17435520478112725187:True:=⟨⟩
theorem tw7430667314158314134:True:=⟨⟩
theorem tw7423898931648915693:True:=⟨⟩
theorem tw2260260764253625195:True:=⟨⟩
theorem tw17047928886429148089:True:=⟨⟩
theorem tw6392501830515185463:True:=⟨⟩
theorem tw14552089295223283214:True:=⟨⟩
theorem tw269502836934686675:True:=⟨⟩
theorem tw1530995437975581844:True:=⟨⟩
theorem tw14806805581271739314:True:=⟨⟩
theorem tw12195665998218630644:True:=⟨⟩
theorem tw1460822884642474875:True:=⟨⟩
theorem tw15705498395258347859:True:=⟨⟩
theorem tw3046523127155124381:True:=⟨⟩
theorem tw7426169640512666611:True:=⟨⟩
theorem tw55569448915581793:True:=⟨⟩
theorem tw8463925488355170656:True:=⟨⟩
theorem tw12961052289190312130:True:=⟨⟩
theorem tw13547015998146762882:True:=⟨⟩
theorem tw5273886615219920998:True:=⟨⟩
theorem tw11419098571892157455:True:=⟨⟩
theorem tw1881049077801203439:True:=⟨⟩
theorem tw10557582168741287860:True:=⟨⟩
theorem tw10366948994133970119:True:=⟨⟩
theorem tw11400808940703517748:True:=⟨⟩
theorem tw6898953942577361187:True:=⟨⟩
theorem tw8275876669801375666:True:=⟨⟩
theorem tw9806949170857300009:True:=⟨⟩
theorem tw2984746572076093268:True:=⟨⟩
theorem tw876902274982764683:True:=⟨⟩
theorem tw8701383302111859708:True:=⟨⟩
theorem tw4261891558699884406:True:=⟨⟩
theorem tw1949010697188542848:True:=⟨⟩
theorem tw7756914784978144931:True:=⟨⟩
theorem tw15050298876458312572:True:=⟨⟩
theorem tw7395725502903042259:True:=⟨⟩
theorem tw3174184203513459176:True:=⟨⟩
theorem tw17089928938307331483:True:=⟨⟩
theorem tw2264728461042087112:True:=⟨⟩
theorem tw2917368182828503161:True:=⟨⟩
theorem tw11544629058753232033:True:=⟨⟩
theorem tw2671419016680939283:True:=⟨⟩
theorem tw3193329422247890163:True:=⟨⟩
theorem tw17383654716715112618:True:=⟨⟩
theorem tw9188563828851083585:True:=⟨⟩
theorem tw35784970190041868:True:=⟨⟩
theorem tw10770069789655827739:True:=⟨⟩
theorem tw15022148121148856828:True:=⟨⟩
theorem tw16822265278118921922:True:=⟨⟩
theorem tw6687366279013401162:True:=⟨⟩
theorem tw8717865608637422706:True:=⟨⟩
theorem tw636775179763222231:True:=⟨⟩
theorem tw10065604966964861061:True:=⟨⟩
theorem tw2393894364204226658:True:=⟨⟩
theorem tw14655043132761926561:True:=⟨⟩
theorem tw2206938598625711688:True:=⟨⟩
theorem tw12872712183125087911:True:=⟨⟩
theorem tw8723702439114066790:True:=⟨⟩
theorem tw11346902933149423500:True:=⟨⟩
theorem tw12316504068317748889:True:=⟨⟩
theorem tw4748025337826156919:True:=⟨⟩
theorem tw15584690728957160088:True:=⟨⟩
theorem tw11399408609089941474:True:=⟨⟩
theorem tw3515508446008975556:True:=⟨⟩
theorem tw8254765945311473335:True:=⟨⟩
theorem tw11751835495593746170:True:=⟨⟩
theorem tw8417354281403715990:True:=⟨⟩
theorem tw8392660655813286599:True:=⟨⟩
theorem tw4687677784566508875:True:=⟨⟩
theorem tw9171026935764112868:True:=⟨⟩
theorem tw7293157415980751077:True:=⟨⟩
theorem tw17702589667571164737:True:=⟨⟩
theorem tw12102614585931743814:True:=⟨⟩
theorem tw11247275367389460992:True:=⟨⟩
theorem tw4597359698750371508:True:=⟨⟩
theorem tw14680216108755991467:True:=⟨⟩
theorem tw7438252942464371200:True:=⟨⟩
theorem tw4670417984204799260:True:=⟨⟩
theorem tw9703930597028122056:True:=⟨⟩
theorem tw9495583043454216097:True:=⟨⟩
theorem tw10082106026679823987:True:=⟨⟩
theorem tw16132357654276959373:True:=⟨⟩
theorem tw1306981012062833340:True:=⟨⟩
theorem tw8398391048588418296:True:=⟨⟩
theorem tw15217583564910422017:True:=⟨⟩
theorem tw6341604404491676407:True:=⟨⟩
theorem tw13799944320188558051:True:=⟨⟩
theorem tw14012447555185936071:True:=⟨⟩
end PySem.W.Fast
open PySem PySem.W PyProof.Rows
set_option maxRecDepth 100000 in
set_option maxHeartbeats 0 in
theorem PySem.Challenge.cw_sashiko_k54_cloths_as_texts_holds : PySem.Challenge.rw_sashiko_k54_cloths_as_texts.Holds := by
 w_on; o_law; k_head; (case hw => w_witness2)
 k_fill
 refine L2.walk_ofK (l := PySem.Challenge.rw_sashiko_k54_cloths_as_texts) (n := 63) (k := 14) (x := "_law_script") (CX := L2.CX0) (sp := My.sp_law) rfl (by decide) rfl ⟨rfl, by decide, by decide⟩ (fun w h Y => PySem.W.kIn_of Y) ?F ?S ?C
 case F =>
  intro w mg fa h KX G hmg
  have T : ∃ t : My.Ad, My.Txt (L2.KOf KX) mg t := by
   dsimp only [L2.KOf]
   refine' My.txt_mk KX G ?aC_Board ?ga_Board ?rd_Board ?aC_Cloth ?pg_Cloth ?hd_Cloth ?po_Cloth ?sa_Cloth ?mk_Cloth ?kc_Cloth ?na_columns_count ?na_rows_count ?na_col_bits ?na_row_bits ?na_first_colour ?a_isnumber ?F_isnumber ?a_isbelow ?F_isbelow ?a_isbit ?F_isbit ?a_allbits ?F_allbits ?a_isside ?F_isside ?fc_BoardInit ?F_BoardInit ?a_ClothInit ?i_ClothInit ?F_ClothInit ?a_Clothshade ?i_Clothshade ?F_Clothshade ?a_Clothcols ?i_Clothcols ?F_Clothcols ?a_Clothrows ?i_Clothrows ?F_Clothrows ?a_bitstext ?F_bitstext ?a_clothtext ?F_clothtext ?a_hassigns ?F_hassigns ?a_readbits ?F_readbits ?a_readcloth ?F_readcloth ?a_Ltold ?F_Ltold ?a_Lbitsword ?F_Lbitsword ?a_Lclothwords ?F_Lclothwords ?a_Ldraws ?F_Ldraws ?a_Lbits ?F_Lbits ?a_Lrow ?F_Lrow ?a_Lplan ?F_Lplan ?a_Lmade ?F_Lmade ?a_Lsame ?F_Lsame ?a_Ltext ?F_Ltext ?a_Lspoilt ?F_Lspoilt ?a_Lread ?F_Lread ?a_Ldueread ?F_Ldueread ?a_law ?F_law ?aX_SewError ?aX_BadSize ?aX_BadBit ?aX_BadText ?bb ?bm ?bt ?ogs ?otk ?x_BadSize ?xg_BadSize ?sb_BadSize ?kt_BadSize_BadText ?kt_BadSize_BadBit ?kt_BadSize_BadSize ?kv_BadSize ?x_BadBit ?xg_BadBit ?sb_BadBit ?kt_BadBit_BadText ?kt_BadBit_BadBit ?kt_BadBit_BadSize ?kv_BadBit ?x_BadText ?xg_BadText ?sb_BadText ?kt_BadText_BadText ?kt_BadText_BadBit ?kt_BadText_BadSize ?kv_BadText ?v_LONGEST_SIDE ?z_isinstance ?z_int ?z_bool ?z_all ?z_len ?z_tuple ?z_list ?z_range ?z_abs ?z_str ?z_zip ?z_ValueError
   (case aC_Board | aC_Cloth | aX_SewError | aX_BadSize | aX_BadBit | aX_BadText | a_isnumber | a_isbelow | a_isbit | a_allbits | a_isside | a_bitstext | a_clothtext | a_hassigns | a_readbits | a_readcloth | a_Ltold | a_Lbitsword | a_Lclothwords | a_Ldraws | a_Lbits | a_Lrow | a_Lplan | a_Lmade | a_Lsame | a_Ltext | a_Lspoilt | a_Lread | a_Ldueread | a_law => (unfold My.QNs; k_is))
   (case z_isinstance | z_int | z_bool | z_all | z_len | z_tuple | z_list | z_range | z_abs | z_str | z_zip | z_ValueError => (unfold My.QNn; k_is))
   (case a_ClothInit | a_Clothshade | a_Clothcols | a_Clothrows => (unfold My.QFi; k_is))
   (case ga_Board | rd_Board | pg_Cloth | hd_Cloth | po_Cloth | sa_Cloth | mk_Cloth | kc_Cloth | fc_BoardInit | bb | bm | bt | ogs | otk | sb_BadSize | sb_BadBit | sb_BadText | v_LONGEST_SIDE => k_is)
   (case na_columns_count | na_rows_count | na_col_bits | na_row_bits | na_first_colour => (unfold My.QFn; k_is))
   (case i_ClothInit | i_Clothshade | i_Clothcols | i_Clothrows => (unfold My.QIf; k_is))
   (case kt_BadSize_BadText | kt_BadSize_BadBit | kt_BadSize_BadSize | kt_BadBit_BadText | kt_BadBit_BadBit | kt_BadBit_BadSize | kt_BadText_BadText | kt_BadText_BadBit | kt_BadText_BadSize => (unfold My.QKt; kit_is))
   (case x_BadSize | x_BadBit | x_BadText => (unfold My.QXc; k_exc))
   (case F_isnumber | F_isbelow | F_isbit | F_allbits | F_isside | F_BoardInit | F_ClothInit | F_Clothshade | F_Clothcols | F_Clothrows | F_bitstext | F_clothtext | F_hassigns | F_readbits | F_readcloth | F_Ltold | F_Lbitsword | F_Lclothwords | F_Ldraws | F_Lbits | F_Lrow | F_Lplan | F_Lmade | F_Lsame | F_Ltext | F_Lspoilt | F_Lread | F_Ldueread | F_law => exact L2.fun_mk (by k_is) (by k_is) (by k_is))
   (case xg_BadSize | xg_BadBit | xg_BadText => exact ⟨by k_is, by k_is, by k_is, by k_is, by k_is⟩)
   (case kv_BadSize | kv_BadBit | kv_BadText => kit_is)
  obtain ⟨t, T⟩ := T
  have e0 := hmg.symm.trans T.mg_law
  cases e0
  exact ⟨t.d_law, T.F_law.bl fun _ _ _ _ _ _ _ => rfl, fun base _ _ => My.ok_law T⟩
 case S => exact fun K H a ns hl _ hS => ⟨a, ns, rfl, hS, hl, fun _ => rfl⟩
 case C => exact fun _ _ _ _ z => z
