import PyProof.Rows.All
import Wide.All
import OpenK.AllK
import Wide.FinOn
import Lean
import PyProof.EqAt
import PyProof.EqKinds
import PyProof.TupleCall
import KE.KSortTup
import KE.KItemsList
import KE.KPairComp
import KE.KDictOf
import PyProof.AttrMissHeap
import PySem.Challenge.RW_sashiko_k33_rounds_of_a_ring
set_option Elab.async false
set_option linter.all false
set_option maxRecDepth 100000
namespace L2
open PySem PySem.Spec PyProof.Rows
abbrev Key := Sum Int Str
def keyIs : Key → Value → Bool
 | .inl k, v => Value.isInt k v
 | .inr x, v => Value.isStrOf x v
def keyH (w : World) : Key → Int
 | .inl k => hashInt k
 | .inr x => hashStr w x
theorem keyIs_shape : ∀ {k : Key} {v : Value}, keyIs k v = true → (∃ i t, k = Sum.inl i ∧ v = Value.int i t) ∨ (∃ x t, k = Sum.inr x ∧ v = Value.str x t)
 | .inl i, v, h => by
  obtain ⟨t, e⟩ := Value.isInt_shape (k := i) (v := v) h
  exact .inl ⟨i, t, rfl, e⟩
 | .inr x, v, h => by
  obtain ⟨t, e⟩ := Value.isStrOf_shape (x := x) (v := v) h
  exact .inr ⟨x, t, rfl, e⟩
theorem keyIs_int (i : Int) (t : Tok) : keyIs (.inl i) (.int i t) = true := by simp [keyIs, Value.isInt]
theorem keyIs_str (x : Str) (t : Tok) : keyIs (.inr x) (.str x t) = true := by simp [keyIs, Value.isStrOf]
theorem key_ll (a b : Int) : decide ((Sum.inl a : Key) = Sum.inl b) = (a == b) := by
 by_cases e : a = b
 ·subst e; simp
 ·have h : ¬ (Sum.inl a : Key) = Sum.inl b := fun q => e (Sum.inl.inj q)
  rw [decide_eq_false h]
  exact (beq_eq_false_iff_ne.mpr e).symm
theorem key_rr (a b : Str) : decide ((Sum.inr a : Key) = Sum.inr b) = decide (a = b) := by
 by_cases e : a = b
 ·subst e; simp
 ·have h : ¬ (Sum.inr a : Key) = Sum.inr b := fun q => e (Sum.inr.inj q)
  rw [decide_eq_false h, decide_eq_false e]
theorem key_lr (a : Int) (b : Str) : decide ((Sum.inl a : Key) = Sum.inr b) = false := decide_eq_false (fun q => nomatch q)
theorem key_rl (a : Str) (b : Int) : decide ((Sum.inr a : Key) = Sum.inl b) = false := decide_eq_false (fun q => nomatch q)
def mixKind (prog : Program) (w : World) : PySem.KeyKind prog w Key where
 is := keyIs
 hash := keyH w
 inj := fun v a b ha hb => by
  rcases keyIs_shape ha with ⟨i, t, rfl, rfl⟩ | ⟨x, t, rfl, rfl⟩
  ·rcases keyIs_shape hb with ⟨j, u, rfl, e⟩ | ⟨y, u, rfl, e⟩
   ·injection e with e1 _; rw [e1]
   ·exact nomatch e
  ·rcases keyIs_shape hb with ⟨j, u, rfl, e⟩ | ⟨y, u, rfl, e⟩
   ·exact nomatch e
   ·injection e with e1 _; rw [e1]
 byValue := fun k v h => by
  rcases keyIs_shape h with ⟨i, t, rfl, rfl⟩ | ⟨x, t, rfl, rfl⟩ <;> rfl
 pyHash := fun hv h => by
  rcases keyIs_shape hv with ⟨i, t, rfl, rfl⟩ | ⟨x, t, rfl, rfl⟩
  ·exact wpAny_pyHash_int h
  ·exact wpAny_pyHash_str h
 eqBool := fun hu hv h => by
  rcases keyIs_shape hu with ⟨i, t, rfl, rfl⟩ | ⟨x, t, rfl, rfl⟩
  ·rcases keyIs_shape hv with ⟨j, u, rfl, rfl⟩ | ⟨y, u, rfl, rfl⟩
   ·rw [key_ll] at h; exact wpAny_eqBool_int h
   ·rw [key_lr] at h; exact SeqAt.EqAt.int_str i t y u _ _ _ _ h
  ·rcases keyIs_shape hv with ⟨j, u, rfl, rfl⟩ | ⟨y, u, rfl, rfl⟩
   ·rw [key_rl] at h; exact SeqAt.EqAt.str_int x t j u _ _ _ _ h
   ·rw [key_rr] at h; exact wpAny_eqBool_str h
 «strs» := fun k x t v h => by
  rcases keyIs_shape h with ⟨i, u, rfl, e⟩ | ⟨y, u, rfl, e⟩
  ·exact nomatch e
  ·injection e with e1 _
   subst e1
   cases v <;> rfl
theorem mixKind_int (prog : Program) (w : World) (i : Int) (t : Tok) : (mixKind prog w).is (.inl i) (.int i t) = true := keyIs_int i t
theorem mixKind_str (prog : Program) (w : World) (x : Str) (t : Tok) : (mixKind prog w).is (.inr x) (.str x t) = true := keyIs_str x t
end L2
namespace L2
open PySem PySem.Spec PyProof.Rows
inductive V where
 | non | bl (b : Bool) | int (i : Int) | str (x : Str) | byt (b : Array UInt8) | flt (b : UInt64) | ref (a : Addr) | ty (n : String)
 deriving DecidableEq
def RelV : V → Value → Prop
 | .non, u => u = Value.none
 | .bl b, u => u = Value.bool b
 | .int i, u => ∃ t, u = Value.int i t
 | .str x, u => ∃ t, u = Value.str x t
 | .byt b, u => ∃ t, u = Value.bytes b t
 | .flt b, u => ∃ t, u = Value.float b t
 | .ref a, u => u = Value.ref a
 | .ty n, u => u = Value.type n
abbrev Vals : List V → List Value → Prop := Paired RelV
theorem Vals.length {xs : List V} {us : List Value} (r : Vals xs us) : xs.length = us.length := Paired.length r
theorem Vals.get : ∀ {xs : List V} {us : List Value} {i : Nat} {x : V}, Vals xs us → xs[i]? = some x → ∃ u, us[i]? = some u ∧ RelV x u
 | _, _, _, _, .nil, e => by simp at e
 | _, _, 0, _, .cons r _, e => by simp at e; subst e; exact ⟨_, rfl, r⟩
 | _, _, i + 1, x, .cons _ t, e => by
  obtain ⟨u, h1, h2⟩ := Vals.get (i := i) (x := x) t (by simpa using e)
  exact ⟨u, by simpa using h1, h2⟩
theorem Vals.append : ∀ {xs ys : List V} {us ws : List Value}, Vals xs us → Vals ys ws → Vals (xs ++ ys) (us ++ ws)
 | _, _, _, _, .nil, s => s
 | _, _, _, _, .cons r t, s => .cons r (Vals.append t s)
theorem Vals.take : ∀ {xs : List V} {us : List Value} (n : Nat), Vals xs us → Vals (xs.take n) (us.take n)
 | _, _, 0, _ => .nil
 | _, _, _ + 1, .nil => .nil
 | _, _, n + 1, .cons r t => .cons r (Vals.take n t)
theorem Vals.drop : ∀ {xs : List V} {us : List Value} (n : Nat), Vals xs us → Vals (xs.drop n) (us.drop n)
 | _, _, 0, r => r
 | _, _, _ + 1, .nil => .nil
 | _, _, n + 1, .cons _ t => Vals.drop n t
def RelO : Option V → Option Value → Prop
 | some v, some u => RelV v u
 | none, none => True
 | _, _ => False
def KV {κ : Type} : List (κ × V) → List (κ × Value) → Prop := Paired fun (p : κ × V) (q : κ × Value) => p.1 = q.1 ∧ RelV p.2 q.2
def kV : Key → V
 | .inl i => .int i
 | .inr x => .str x
inductive HO where
 | lst (xs : List V)
 | tup (xs : List V)
 | dK (kvs : List (Key × V)) | dT (kvs : List (List Key × V))
 | set (S : Int → Bool) (n : Nat)
 | ins (C dx : Addr) (fs : List (Str × V))
 | own (x : Addr)
 | xd (fs : List (Str × V))
 | met (f x : Addr)
 | rng (lo hi : Int)
 | frz (o : Obj) (u : HO)
 | tbl (ps : Array Value)
 | ext (φ : Heap → Prop)
abbrev Hp := Addr → Option HO
def upd (H : Hp) (a : Addr) (o : HO) : Hp := fun b => if b = a then some o else H b
theorem upd_same {H : Hp} {a : Addr} {o : HO} : upd H a o a = some o := by unfold upd; rw [if_pos rfl]
theorem upd_ne {H : Hp} {a b : Addr} {o : HO} (h : b ≠ a) : upd H a o b = H b := by unfold upd; rw [if_neg h]
theorem upd_upd {H : Hp} {a : Addr} {o u : HO} : upd (upd H a o) a u = upd H a u := by
 funext b; unfold upd; split <;> rfl
theorem ne_of {H : Hp} {a b : Addr} {o u : HO} (h : H a = some o) (h' : H b = some u) (d : o ≠ u) : a ≠ b := by
 intro e; subst e; rw [h] at h'; exact d (Option.some.inj h')
theorem ne_of_none {H : Hp} {a b : Addr} {o : HO} (h : H a = some o) (h' : H b = none) : a ≠ b := by
 intro e; subst e; rw [h] at h'; cases h'
section
variable (P : Program) (w : World)
def ObjOk (H : Hp) (h : Heap) (a : Addr) : HO → Prop
  | .lst xs => xs.length ≤ sizeLine ∧ ∃ (its : List Value) (n : Nat), Vals xs its ∧ h.get? a = some { cls := .type "list", data := .seq its.toArray n }
  | .tup xs => xs.length ≤ sizeLine ∧ ∃ its : List Value, Vals xs its ∧ IsTup h a its.toArray
  | .dK kvs => kvs.length ≤ sizeLine ∧ (a == sysModules) = false ∧ ∃ vs, KV kvs vs ∧ h.DictOf (mixKind P w) a vs
  | .dT kvs => kvs.length ≤ sizeLine ∧ (a == sysModules) = false ∧ ∃ xs : List (List Key × Addr × Value),
      Paired (fun (p : List Key × V) (q : List Key × Addr × Value) => p.1 = q.1 ∧ H q.2.1 = some (.tup (p.1.map kV)) ∧ RelV p.2 q.2.2) kvs xs ∧
      ∃ o es ep, h.get? a = some o ∧ o.ExactDict ∧ o.data = .dict es ep ∧ es.toList = xs.map (entryOfKey (tupleKind (mixKind P w))) ∧ (xs.map (·.1)).Nodup
  | .set S n => h.SetOf (intKind P w) a S n
  | .ins C dx fs => H dx = some (.own a) ∧ fs.length ≤ 1000 ∧ dx ≠ a ∧ h.get? a = some (PySem.W.instObj C dx) ∧
      ∃ mA, h.Ns1 dx mA ∧ (∀ f, RelO (fs.lookup f) (mA f)) ∧ PySem.Within mA (fs.map (·.1))
  | .own _ => ∃ o, h.get? a = some o
  | .xd fs => ∃ mA, h.Ns1 a mA ∧ ∀ f, RelO (fs.lookup f) (mA f)
  | .rng lo hi => ∃ t u v, h.get? a = some { cls := .type "range", data := .fields #[.int lo t, .int hi u, .int 1 v] }
  | .frz o u => h.get? a = some o ∧ ObjOk H h a u
  | .tbl ps => h.get? a = some { cls := .none, data := .fields ps }
  | .met f x => h.get? a = some (PySem.W.methodObj (.ref f) (.ref x))
  | .ext φ => φ h ∧ (∃ o, h.get? a = some o) ∧ ∀ h1 h2 : Heap, φ h1 → (∀ o, h1.get? a = some o → h2.get? a = some o) → φ h2
def HOk (H : Hp) (h : Heap) : Prop := ∀ a o, H a = some o → ObjOk P w H h a o
end
section
variable {P : Program} {w : World} {H H' : Hp} {h h' : Heap} {a : Addr} {o : HO}
theorem ObjOk.lt (x : ObjOk P w H h a o) : a < h.objs.size := by
 cases o with
 | lst xs => obtain ⟨_, _, _, _, e⟩ := x; exact Heap.lt_size e
 | tup xs => obtain ⟨_, _, _, p⟩ := x; exact p.lt
 | dK kvs => obtain ⟨_, _, _, _, o, _, _, e, _⟩ := x; exact Heap.lt_size e
 | dT kvs => obtain ⟨_, _, _, _, o, _, _, e, _⟩ := x; exact Heap.lt_size e
 | set S n => obtain ⟨o, _, _, _, e, _⟩ := x; exact Heap.lt_size e
 | ins C dx fs => obtain ⟨_, _, _, e, _⟩ := x; exact Heap.lt_size e
 | own y => obtain ⟨_, e⟩ := x; exact Heap.lt_size e
 | xd fs => obtain ⟨_, ⟨_, _, _, e, _⟩, _⟩ := x; exact Heap.lt_size e
 | rng lo hi => obtain ⟨_, _, _, e⟩ := x; exact Heap.lt_size e
 | frz ob u => obtain ⟨e, _⟩ := x; exact Heap.lt_size e
 | tbl ps => exact Heap.lt_size (show h.get? a = some _ from x)
 | met f y => exact Heap.lt_size (show h.get? a = some _ from x)
 | ext φ => obtain ⟨_, ⟨_, e⟩, _⟩ := x; exact Heap.lt_size e
theorem Paired.mapP {α β : Type} {F G : α → β → Prop} : ∀ {l₁ : List α} {l₂ : List β}, Paired F l₁ l₂ → (∀ a b, F a b → G a b) → Paired G l₁ l₂
 | _, _, .nil, _ => .nil
 | _, _, .cons r t, f => .cons (f _ _ r) (Paired.mapP t f)
theorem ObjOk.stay (x : ObjOk P w H h a o) (k : ∀ b u, (b = a ∨ H b = some (.own a)) → h.get? b = some u → h'.get? b = some u)
  (ho : ∀ b, H b = some (.own a) → H' b = some (.own a)) (ht : ∀ b xs, H b = some (.tup xs) → H' b = some (.tup xs)) : ObjOk P w H' h' a o := by
 induction o with
 | lst xs => obtain ⟨z, its, n, r, e⟩ := x; exact ⟨z, its, n, r, k _ _ (.inl rfl) e⟩
 | tup xs => obtain ⟨z, its, r, ob, e, c⟩ := x; exact ⟨z, its, r, ob, k _ _ (.inl rfl) e, c⟩
 | dK kvs => obtain ⟨z, y, vs, r, ob, es, ep, e, c⟩ := x; exact ⟨z, y, vs, r, ob, es, ep, k _ _ (.inl rfl) e, c⟩
 | dT kvs =>
  obtain ⟨z, y, xs, r, ob, es, ep, e, c⟩ := x
  exact ⟨z, y, xs, Paired.mapP r fun p q z => ⟨z.1, ht _ _ z.2.1, z.2.2⟩, ob, es, ep, k _ _ (.inl rfl) e, c⟩
 | set S n => obtain ⟨ob, es, ep, t, e, c⟩ := x; exact ⟨ob, es, ep, t, k _ _ (.inl rfl) e, c⟩
 | ins C dx fs =>
  obtain ⟨d, z, ne, e, mA, ⟨od, es, ep, e2, c⟩, r⟩ := x
  exact ⟨ho _ d, z, ne, k _ _ (.inl rfl) e, mA, ⟨od, es, ep, k _ _ (.inr d) e2, c⟩, r⟩
 | own y => obtain ⟨ob, e⟩ := x; exact ⟨ob, k _ _ (.inl rfl) e⟩
 | xd fs => obtain ⟨mA, ⟨od, es, ep, e, c⟩, r⟩ := x; exact ⟨mA, ⟨od, es, ep, k _ _ (.inl rfl) e, c⟩, r⟩
 | rng lo hi => obtain ⟨t, u, v, e⟩ := x; exact ⟨t, u, v, k _ _ (.inl rfl) e⟩
 | frz ob u ih => obtain ⟨e, q⟩ := x; exact ⟨k _ _ (.inl rfl) e, ih q⟩
 | tbl ps =>
  have e : h.get? a = some { cls := .none, data := .fields ps } := x
  show h'.get? a = some { cls := .none, data := .fields ps }
  exact k a _ (.inl rfl) e
 | met f y =>
  have e : h.get? a = some (PySem.W.methodObj (.ref f) (.ref y)) := x
  show h'.get? a = some (PySem.W.methodObj (.ref f) (.ref y))
  exact k a _ (.inl rfl) e
 | ext φ => obtain ⟨p, ⟨o, e⟩, st⟩ := x; exact ⟨st _ _ p fun o q => k _ _ (.inl rfl) q, ⟨o, k _ _ (.inl rfl) e⟩, st⟩
theorem HOk.lt (x : HOk P w H h) (e : H a = some o) : a < h.objs.size := (x a o e).lt
theorem HOk.fresh (x : HOk P w H h) (e : h.objs.size ≤ a) : H a = none := by
 cases q : H a with
 | none => rfl
 | some u => exact absurd (Nat.lt_of_lt_of_le (x.lt q) e) (Nat.lt_irrefl _)
theorem HOk.kept (x : HOk P w H h) (k : ∀ b u, h.get? b = some u → h'.get? b = some u) : HOk P w H h' := fun a o e =>
 (x a o e).stay (fun b u _ q => k b u q) (fun _ q => q) fun _ _ q => q
theorem HOk.laid (x : HOk P w H h) (k : ∀ b u, h.get? b = some u → h'.get? b = some u) (hp : h.objs.size ≤ a) (new : ObjOk P w (upd H a o) h' a o) : HOk P w (upd H a o) h' := fun b u e => by
 have hn := x.fresh hp
 by_cases hb : b = a
 ·subst hb; rw [upd_same] at e; cases e; exact new
 ·rw [upd_ne hb] at e
  exact (x b u e).stay (fun c v _ q => k c v q) (fun c q => by rw [upd_ne (ne_of_none q hn)]; exact q) fun c xs q => by rw [upd_ne (ne_of_none q hn)]; exact q
end
def Rd (H : Hp) (a : Addr) (u : HO) : Prop := H a = some u ∨ ∃ o, H a = some (.frz o u)
theorem Rd.ok {P : Program} {w : World} {H : Hp} {h : Heap} {a : Addr} {u : HO} (r : Rd H a u) (x : HOk P w H h) : ObjOk P w H h a u := by
 rcases r with r | ⟨o, r⟩
 ·exact x a u r
 ·obtain ⟨_, q⟩ := x a _ r
  exact q
def Mut : Option HO → Prop
 | some (.lst _) => True
 | some (.dK _) => True
 | some (.dT _) => True
 | some (.set _ _) => True
 | some (.ins _ _ _) => True
 | some (.ext _) => True
 | _ => False
section
variable {P : Program} {w : World} {H : Hp} {h h' : Heap} {x e : Addr} {o' : HO}
theorem HOk.write (ok : HOk P w H h) (mu : Mut (H x)) (he : e = x ∨ H e = some (.own x)) (k : ∀ b u, b ≠ e → h.get? b = some u → h'.get? b = some u) (heo : ∃ u, h'.get? e = some u)
    (new : ObjOk P w (upd H x o') h' x o') : HOk P w (upd H x o') h' := fun b u q => by
  have nown : ∀ c y, H c = some (.own y) → c ≠ x := fun c y r z => by subst z; rw [r] at mu; exact mu
  have ntup : ∀ c xs, H c = some (.tup xs) → c ≠ x := fun c xs r z => by subst z; rw [r] at mu; exact mu
  by_cases hb : b = x
  · subst hb; rw [upd_same] at q; cases q; exact new
  · rw [upd_ne hb] at q
    by_cases hbe : b = e
    · have q' : H b = some (.own x) := by
        rcases he with z | z
        · exact absurd (hbe.trans z) hb
        · rw [hbe]; exact z
      rw [q] at q'; cases q'
      obtain ⟨v, hv⟩ := heo
      exact ⟨v, by rw [hbe]; exact hv⟩
    · refine (ok b u q).stay (fun c v hc r => k c v ?_ r) (fun c r => by rw [upd_ne (nown c b r)]; exact r) fun c xs r => by rw [upd_ne (ntup c xs r)]; exact r
      rcases hc with rfl | hc
      · exact hbe
      · rintro rfl
        rcases he with z | z
        · exact nown c b hc z
        · rw [hc] at z; cases z; exact hb rfl
end
structure Un (fs ex : List Addr) (H H' : Hp) (h h' : Heap) : Prop where
 keep : ∀ b o, h.get? b = some o → H b = none → b ∉ fs → b ∉ ex → h'.get? b = some o
 slot : ∀ b o, h.get? b = some o → H b = none → b ∈ fs → b ∉ ex → ∃ sl, h'.get? b = some { o with slots := sl }
 free : ∀ b o, h.get? b = some o → H b = none → b ∉ ex → H' b = none
 there : ∀ b o, h.get? b = some o → b ∉ ex → ∃ o', h'.get? b = some o'
 tups : ∀ b xs, H b = some (.tup xs) → H' b = some (.tup xs)
 frzs : ∀ b o u, H b = some (.frz o u) → H' b = some (.frz o u)
 tbls : ∀ b ps, H b = some (.tbl ps) → ∃ more, H' b = some (.tbl (ps ++ more))
section
variable {fs fs' ex ex' : List Addr} {H H1 H2 : Hp} {h h1 h2 h' : Heap} {a x e : Addr} {o : HO}
theorem Un.any (u : Un fs ex H H1 h h1) {b : Addr} {ob : Obj} (q : h.get? b = some ob) (n : H b = none) (hx : b ∉ ex) : ∃ sl, h1.get? b = some { ob with slots := sl } := by
 by_cases hb : b ∈ fs
 ·exact u.slot b ob q n hb hx
 ·exact ⟨ob.slots, u.keep b ob q n hb hx⟩
theorem Un.kept (k : ∀ b u, h.get? b = some u → h'.get? b = some u) : Un fs ex H H h h' :=
 ⟨fun b ob q _ _ _ => k b ob q, fun b ob q _ _ _ => ⟨ob.slots, k b ob q⟩, fun _ _ _ n _ => n, fun b ob q _ => ⟨ob, k b ob q⟩, fun _ _ q => q, fun _ _ _ q => q, fun _ ps q => ⟨#[], by rw [q]; simp⟩⟩
theorem Un.refl : Un fs ex H H h h := Un.kept fun _ _ q => q
theorem Un.laid (k : ∀ b u, h.get? b = some u → h'.get? b = some u) (hp : h.objs.size ≤ a) (hn : H a = none) : Un fs ex H (upd H a o) h h' where
 keep := fun b u q _ _ _ => k b u q
 slot := fun b u q _ _ _ => ⟨u.slots, k b u q⟩
 free := fun b u q n _ => by rw [upd_ne (Nat.ne_of_lt (Nat.lt_of_lt_of_le (Heap.lt_size q) hp))]; exact n
 there := fun b u q _ => ⟨u, k b u q⟩
 tups := fun b xs q => by rw [upd_ne (ne_of_none q hn)]; exact q
 frzs := fun b u xs q => by rw [upd_ne (ne_of_none q hn)]; exact q
 tbls := fun b ps q => ⟨#[], by rw [upd_ne (ne_of_none q hn), q]; simp⟩
theorem Un.write (mu : Mut (H x)) (he : e = x ∨ H e = some (.own x)) (k : ∀ b u, b ≠ e → h.get? b = some u → h'.get? b = some u) (heo : ∃ u, h'.get? e = some u) : Un fs ex H (upd H x o) h h' := by
 have hx : ∀ b, H b = none → b ≠ x := fun b n z => by subst z; rw [n] at mu; exact mu
 have hb : ∀ b, H b = none → b ≠ e := fun b n z => by
  subst z
  rcases he with r | r
  ·exact hx b n r
  ·rw [n] at r; cases r
 have hm : ∀ b u, H b = some u → ¬ Mut (some u) → b ≠ x := fun b u q nm z => by subst z; rw [q] at mu; exact nm mu
 refine ⟨fun b u q n _ _ => k b u (hb b n) q, fun b u q n _ _ => ⟨u.slots, k b u (hb b n) q⟩, fun b u q n _ => by rw [upd_ne (hx b n)]; exact n, fun b u q _ => ?_,
  fun b xs q => by rw [upd_ne (hm b _ q fun z => z)]; exact q, fun b u xs q => by rw [upd_ne (hm b _ q fun z => z)]; exact q, fun b ps q => ⟨#[], by rw [upd_ne (hm b _ q fun z => z), q]; simp⟩⟩
 by_cases hbe : b = e
 ·subst hbe; exact heo
 ·exact ⟨u, k b u hbe q⟩
end
def trk (h : Heap) (H : Hp) : List Addr := (List.range h.objs.size).filter fun a => (H a).isSome
def hidT (h : Heap) (H : Hp) : Heap := PySem.W.hideAll h (trk h H)
theorem hidT_size (h : Heap) (H : Hp) : (hidT h H).objs.size = h.objs.size := PySem.W.hideAll_size _ _
theorem hidT_get {h : Heap} {H : Hp} {b : Addr} {o : Obj} (e : h.get? b = some o) (n : H b = none) : (hidT h H).get? b = some o :=
 PySem.W.hideAll_get _ e fun hm => by
  have q : (H b).isSome = true := (List.mem_filter.mp hm).2
  rw [n] at q; simp at q
theorem of_hidT {h : Heap} {H : Hp} {b : Addr} {o : Obj} (e : (hidT h H).get? b = some o) : h.get? b = some o ∧ H b = none := by
 have e' : h.get? b = some o := PySem.W.of_hideAll (trk h H) e
 refine ⟨e', ?_⟩
 cases q : H b with
 | none => rfl
 | some x =>
  have hm : b ∈ trk h H := List.mem_filter.mpr ⟨List.mem_range.mpr (Heap.lt_size e'), by simp [q]⟩
  have z : (hidT h H).get? b = none := PySem.W.hideAll_none (trk h H) hm
  rw [z] at e; cases e
def allNews (g h : Heap) (L : Addr) : List (Addr × Obj) := (List.range h.objs.size).filterMap fun a => if a = L ∨ (g.get? a).isSome = true then none else (h.get? a).map fun o => (a, o)
def rest (g h : Heap) (L d : Addr) : List (Addr × Obj) := (allNews g h L).filter fun p => decide (p.1 ≠ d)
end L2
namespace L2
open PySem PySem.Spec PyProof.Rows
structure Mod (K : PySem.W.Frag) (mg : Str → Option Value) (base : Heap) : Prop where
 kin : K.In base
 glob : base.Ns mainGlobals mg
 blt : ∃ mb, base.Ns builtinsNs mb ∧ ∀ x : Str, x ≠ "__name__" → mb x = bootBuiltins x
 nolimit : base.NoLimit
structure Cx where
 prog : Program
 w : World
 K : PySem.W.Frag
 mg : Str → Option Value
 base : Heap
 A : Around
 N : List Str
 s₀ : Shared
 H₀ : Hp
 env : Env
 outer : List Env
 stack : List Env
 ex : List Addr
 fn : Str → Bool
 calm : Bool
 pn : List (Addr × Obj)
 xe : Value → Shared → Prop
def frs (l : List Env) : List Addr := l.filterMap (·.frame)
abbrev Cx.fs (X : Cx) : List Addr := frs X.outer
def Vis (sc : Scope) (x : Str) : Prop := sc.names.lookup x = some .local ∨ sc.names.lookup x = some .cell ∨ sc.names.lookup x = some .free
def Loc (sc : Scope) (x : Str) : Prop := sc.names.lookup x = some .local ∨ sc.names.lookup x = some .cell
def Look (env : Env) (h : Heap) (m : Str → Option Value) (x : Str) (u : Value) : Prop :=
 (env.kindOf x = some .local ∧ m x = some u) ∨ ((env.kindOf x = some .cell ∨ env.kindOf x = some .free) ∧ ∃ c, env.cells.lookup x = some c ∧ h.IsCell c (some u))
structure Cx.Ok (X : Cx) : Prop where
 mod : Mod X.K X.mg X.base
 kind : X.env.scope.kind = .function
 glob : X.env.globals = mainGlobals
 blt : X.env.builtins = builtinsNs
 above : X.s₀.heap.objs.size ≤ X.env.locals
 inj : ∀ x y c, X.env.cells.lookup x = some c → X.env.cells.lookup y = some c → x = y
 has : ∀ x, (X.env.kindOf x = some .cell ∨ X.env.kindOf x = some .free) → ∃ c, X.env.cells.lookup x = some c
 cab : ∀ x c, X.fn x = true → X.env.cells.lookup x = some c → X.s₀.heap.objs.size ≤ c
 hd : X.calm = true → X.A.handled = none
 frames : X.A.frames = some X.stack
 stk : X.stack = X.outer ∨ (X.stack = X.env :: X.outer ∧ X.env.frame = some X.env.locals)
 exf : ∀ b ∈ X.ex, b ≠ X.env.locals ∧ ∀ x c, X.env.cells.lookup x = some c → c ≠ b
 bs : ∀ b o, X.base.get? b = some o → X.s₀.heap.get? b = some o ∧ X.H₀ b = none
 bsz : X.base.objs.size ≤ X.s₀.heap.objs.size
 noex : ∀ b o, X.base.get? b = some o → b ∉ X.ex
 exfs : ∀ b ∈ X.ex, b ∉ X.fs
 funs : X.s₀.heap.FunFrames X.base X.outer
 frf : ∀ b ∈ X.fs, X.H₀ b = none
structure Inv (X : Cx) (pins : List (Addr × Obj)) (σ : List (Option V)) (H : Hp) (s : Shared) : Prop where
 ok : X.Ok
 os : s.os = X.s₀.os
 bare : AllBare s.gens
 base : Un X.fs X.ex X.H₀ H X.s₀.heap s.heap
 loc : ∃ m, s.heap.Ns X.env.locals m ∧ ∀ (i : Nat) (x : Str) (v : V), X.N[i]? = some x → σ[i]? = some (some v) → Vis X.env.scope x → ∃ u, RelV v u ∧ Look X.env s.heap m x u
 cell : ∀ x c, X.env.cells.lookup x = some c → ∃ v, s.heap.IsCell c v
 free : H X.env.locals = none
 freeC : ∀ x c, X.env.cells.lookup x = some c → H c = none
 pin : ∀ p ∈ X.pn ++ pins, s.heap.get? p.1 = some p.2 ∧ H p.1 = none ∧ p.1 ≠ X.env.locals ∧ p.1 ∉ X.fs ∧ ∀ v, p.2.data ≠ .cell v
 hok : HOk X.prog X.w H s.heap
 len : σ.length = X.N.length
section
variable {X : Cx} {pins : List (Addr × Obj)} {σ : List (Option V)} {H H' : Hp} {s : Shared} {h' : Heap}
theorem Cx.Ok.nofr (ok : X.Ok) {b : Addr} {o : Obj} (e : X.base.get? b = some o) : b ∉ X.fs := fun hb => by
 have := (ok.funs.mem hb).1
 rw [e] at this; cases this
theorem Inv.bs (I : Inv X pins σ H s) : ∀ b o, X.base.get? b = some o → s.heap.get? b = some o ∧ H b = none := fun b o e =>
 ⟨I.base.keep b o (I.ok.bs b o e).1 (I.ok.bs b o e).2 (I.ok.nofr e) (I.ok.noex b o e), I.base.free b o (I.ok.bs b o e).1 (I.ok.bs b o e).2 (I.ok.noex b o e)⟩
theorem Inv.bk (I : Inv X pins σ H s) : ∀ b o, X.base.get? b = some o → s.heap.get? b = some o := fun b o e => (I.bs b o e).1
theorem Inv.mod (I : Inv X pins σ H s) : Mod X.K X.mg X.base := I.ok.mod
theorem Inv.kIn (I : Inv X pins σ H s) : X.K.In s.heap := I.ok.mod.kin.keeps I.bk
theorem Inv.lt (I : Inv X pins σ H s) : X.env.locals < s.heap.objs.size := let ⟨_, hn, _⟩ := I.loc; hn.lt
theorem Inv.sz (I : Inv X pins σ H s) : X.s₀.heap.objs.size ≤ s.heap.objs.size := Nat.le_trans I.ok.above (Nat.le_of_lt I.lt)
theorem Inv.nofs (I : Inv X pins σ H s) {a : Addr} (h : s.heap.objs.size ≤ a) : a ∉ X.fs := fun hb => by
 obtain ⟨_, o, ho, _⟩ := I.ok.funs.mem hb
 exact absurd (Nat.lt_of_lt_of_le (Heap.lt_size ho) (Nat.le_trans I.sz h)) (Nat.lt_irrefl _)
theorem Inv.cne (I : Inv X pins σ H s) : ∀ x c, X.env.cells.lookup x = some c → c ≠ X.env.locals := fun x c e z => by
 obtain ⟨v, o, ho, hd⟩ := I.cell x c e
 obtain ⟨m, ⟨o', es, ep, ho', hd', _⟩, _⟩ := I.loc
 rw [z, ho'] at ho; cases ho; rw [hd'] at hd; cases hd
theorem Inv.funs (I : Inv X pins σ H s) : s.heap.FunFrames X.base X.outer := by
 have all : ∀ (l : List Env), (∀ b ∈ frs l, b ∈ X.fs) → X.s₀.heap.FunFrames X.base l → s.heap.FunFrames X.base l := by
  intro l
  induction l with
  | nil => intro _ _; trivial
  | cons env r ih =>
   intro hs hl
   obtain ⟨hk, ⟨L, o, hf, hn, ho, hd⟩, hr⟩ := hl
   have hL : L ∈ X.fs := hs L (by unfold frs; rw [List.filterMap_cons, hf]; exact List.mem_cons_self)
   obtain ⟨sl, e⟩ := I.base.slot L o ho (I.ok.frf L hL) hL fun z => I.ok.exfs L z hL
   exact ⟨hk, ⟨L, _, hf, hn, e, hd⟩, ih (fun b hb => hs b (by unfold frs; rw [List.filterMap_cons, hf]; exact List.mem_cons_of_mem _ hb)) hr⟩
 exact all X.outer (fun _ hb => hb) I.ok.funs
theorem Inv.stack (I : Inv X pins σ H s) : s.heap.FunFrames X.base X.stack := by
 rcases I.ok.stk with e | ⟨e, hf⟩
 ·rw [e]; exact I.funs
 ·rw [e]
  obtain ⟨m, hn, _⟩ := I.loc
  refine .cons (by rw [I.ok.kind]; decide) hf hn ?_ I.funs
  exact Heap.get?_none_of_le (Nat.le_trans I.ok.bsz I.ok.above)
theorem Inv.stkSub (I : Inv X pins σ H s) : ∀ b ∈ frs X.stack, b ∈ X.env.locals :: X.fs := fun b hb => by
 rcases I.ok.stk with e | ⟨e, hf⟩
 ·rw [e] at hb; exact List.mem_cons_of_mem _ hb
 ·rw [e] at hb
  unfold frs at hb
  rw [List.filterMap_cons, hf] at hb
  exact hb
theorem Inv.stkFree (I : Inv X pins σ H s) : ∀ b ∈ frs X.stack, H b = none := fun b hb => by
 rcases List.mem_cons.mp (I.stkSub b hb) with e | hb
 ·rw [e]; exact I.free
 ·obtain ⟨_, o, ho, _⟩ := I.ok.funs.mem hb
  exact I.base.free b o ho (I.ok.frf b hb) fun z => I.ok.exfs b z hb
theorem Inv.step {g' : Array GenState} {t' : Nat} {d' : Drawn} {ch : List Addr} (I : Inv X pins σ H s)
  (hch : ∀ b ∈ ch, (b ∈ X.ex ∨ X.s₀.heap.objs.size ≤ b) ∧ b ≠ X.env.locals ∧ (∀ x c, X.env.cells.lookup x = some c → c ≠ b) ∧ ∀ p ∈ X.pn ++ pins, p.1 ≠ b)
  (keep : ∀ b o, b ≠ X.env.locals → b ∉ X.fs → b ∉ ch → s.heap.get? b = some o → H b = none → h'.get? b = some o)
  (slot : ∀ b o, b ≠ X.env.locals → b ∈ X.fs → b ∉ ch → s.heap.get? b = some o → H b = none → ∃ sl, h'.get? b = some { o with slots := sl }) (free : ∀ b o, b ∉ ch → s.heap.get? b = some o → H b = none → H' b = none)
  (there : ∀ b o, b ∉ ch → s.heap.get? b = some o → ∃ o', h'.get? b = some o')
  (tups : ∀ b xs, H b = some (.tup xs) → H' b = some (.tup xs)) (frzs : ∀ b o u, H b = some (.frz o u) → H' b = some (.frz o u)) (tbls : ∀ b ps, H b = some (.tbl ps) → ∃ more, H' b = some (.tbl (ps ++ more)))
  (ns : ∀ m, s.heap.Ns X.env.locals m → h'.Ns X.env.locals m) (hok : HOk X.prog X.w H' h') (hg : AllBare g') :
  Inv X pins σ H' { s with heap := h', gens := g', drawn := d', toks := t' } := by
 have neL : ∀ b o, X.s₀.heap.get? b = some o → b ≠ X.env.locals := fun b o e => Nat.ne_of_lt (Nat.lt_of_lt_of_le (Heap.lt_size e) I.ok.above)
 have neC : ∀ b o, X.s₀.heap.get? b = some o → b ∉ X.ex → b ∉ ch := fun b o e hx hb => by
  rcases (hch b hb).1 with z | z
  ·exact hx z
  ·exact absurd (Nat.lt_of_lt_of_le (Heap.lt_size e) z) (Nat.lt_irrefl _)
 have cellK : ∀ x c, X.env.cells.lookup x = some c → ∀ v, s.heap.IsCell c v → h'.IsCell c v := fun x c e v ⟨o, ho, hd⟩ => by
  have nch : c ∉ ch := fun z => (hch c z).2.2.1 x c e rfl
  by_cases hc : c ∈ X.fs
  ·obtain ⟨sl, q⟩ := slot c o (I.cne x c e) hc nch ho (I.freeC x c e)
   exact ⟨_, q, hd⟩
  ·exact ⟨o, keep c o (I.cne x c e) hc nch ho (I.freeC x c e), hd⟩
 refine ⟨I.ok, I.os, hg, ⟨fun b o e n hb hx => ?_, fun b o e n hb hx => ?_, fun b o e n hx => ?_, fun b o e hx => ?_, fun b xs e => tups b xs (I.base.tups b xs e), fun b o xs e => frzs b o xs (I.base.frzs b o xs e), fun b ps e => ?_⟩, ?_, fun x c e => ?_, ?_, fun x c e => ?_, fun p hp => ?_, hok, I.len⟩
 ·exact keep b o (neL b o e) hb (neC b o e hx) (I.base.keep b o e n hb hx) (I.base.free b o e n hx)
 ·obtain ⟨sl, e1⟩ := I.base.slot b o e n hb hx
  obtain ⟨sl', e2⟩ := slot b _ (neL b o e) hb (neC b o e hx) e1 (I.base.free b o e n hx)
  exact ⟨sl', e2⟩
 ·obtain ⟨o', e1⟩ := I.base.there b o e hx
  exact free b o' (neC b o e hx) e1 (I.base.free b o e n hx)
 ·obtain ⟨o', e1⟩ := I.base.there b o e hx
  exact there b o' (neC b o e hx) e1
 ·obtain ⟨m1, e1⟩ := I.base.tbls b ps e
  obtain ⟨m2, e2⟩ := tbls b _ e1
  exact ⟨m1 ++ m2, by rw [e2, Array.append_assoc]⟩
 ·obtain ⟨m, hn, hl⟩ := I.loc
  refine ⟨m, ns m hn, fun i x v e1 e2 e3 => ?_⟩
  obtain ⟨u, r, l⟩ := hl i x v e1 e2 e3
  refine ⟨u, r, ?_⟩
  rcases l with l | ⟨k, c, e, z⟩
  ·exact .inl l
  ·exact .inr ⟨k, c, e, cellK x c e _ z⟩
 ·obtain ⟨v, z⟩ := I.cell x c e
  exact ⟨v, cellK x c e v z⟩
 ·obtain ⟨m, ⟨o, _, _, ho, _⟩, _⟩ := I.loc
  exact free _ o (fun z => (hch _ z).2.1 rfl) ho I.free
 ·obtain ⟨v, o, ho, hd⟩ := I.cell x c e
  exact free c o (fun z => (hch c z).2.2.1 x c e rfl) ho (I.freeC x c e)
 ·obtain ⟨e, n, ne, nf, d⟩ := I.pin p hp
  have nch : p.1 ∉ ch := fun z => (hch p.1 z).2.2.2 p hp rfl
  exact ⟨keep p.1 p.2 ne nf nch e n, free p.1 p.2 nch e n, ne, nf, d⟩
theorem Inv.un {t' : Nat} (I : Inv X pins σ H s) (u : Un X.fs [] H H' s.heap h') (hok : HOk X.prog X.w H' h') : Inv X pins σ H' { s with heap := h', toks := t' } := by
 obtain ⟨m, ⟨o, es, ep, ho, r⟩, _⟩ := id I.loc
 obtain ⟨sl, hL⟩ := u.any ho I.free (by simp)
 exact I.step (g' := s.gens) (d' := s.drawn) (ch := []) (fun _ z => nomatch z) (fun b o _ hb _ e n => u.keep b o e n hb (by simp)) (fun b o _ hb _ e n => u.slot b o e n hb (by simp)) (fun b o _ e n => u.free b o e n (by simp)) (fun b o _ e => u.there b o e (by simp)) u.tups u.frzs u.tbls (fun m' hm => by
  obtain ⟨o', es', ep', ho', r'⟩ := hm
  rw [ho] at ho'; cases ho'
  exact ⟨_, es', ep', hL, r'⟩) hok I.bare
theorem Inv.call {g' : Array GenState} {t' : Nat} {d' : Drawn} {ch : List Addr} (I : Inv X pins σ H s) (u : Un (frs X.stack) ch H H' s.heap h') (hok : HOk X.prog X.w H' h') (hg : AllBare g')
  (hch : ∀ b ∈ ch, (b ∈ X.ex ∨ X.s₀.heap.objs.size ≤ b) ∧ b ≠ X.env.locals ∧ (∀ x c, X.env.cells.lookup x = some c → c ≠ b) ∧ ∀ p ∈ X.pn ++ pins, p.1 ≠ b) :
  Inv X pins σ H' { s with heap := h', gens := g', drawn := d', toks := t' } := by
 obtain ⟨m, ⟨o, es, ep, ho, r⟩, _⟩ := id I.loc
 obtain ⟨sl, hL⟩ := u.any ho I.free fun z => (hch _ z).2.1 rfl
 exact I.step (ch := ch) hch (fun b o hL hb hc e n => u.keep b o e n (fun z => (List.mem_cons.mp (I.stkSub b z)).elim hL hb) hc) (fun b o _ _ hc e n => u.any e n hc) (fun b o hc e n => u.free b o e n hc) (fun b o hc e => u.there b o e hc) u.tups u.frzs u.tbls (fun m' hm => by
  obtain ⟨o', es', ep', ho', r'⟩ := hm
  rw [ho] at ho'; cases ho'
  exact ⟨_, es', ep', hL, r'⟩) hok hg
theorem Inv.turned {t' : Nat} {it : Addr} (I : Inv X pins σ H s) (k : ∀ b o, b ≠ it → s.heap.get? b = some o → h'.get? b = some o) (hn : H it = none) (hL : it ≠ X.env.locals)
  (h1 : it ∈ X.ex ∨ X.s₀.heap.objs.size ≤ it) (h2 : ∀ x c, X.env.cells.lookup x = some c → c ≠ it) (h3 : ∀ p ∈ X.pn ++ pins, p.1 ≠ it) : Inv X pins σ H { s with heap := h', toks := t' } := by
 have nit : ∀ b u, H b = some u → b ≠ it := fun b u e z => by rw [z, hn] at e; cases e
 refine I.step (g' := s.gens) (d' := s.drawn) (ch := [it]) (fun b hb => ?_) (fun b o _ _ hc e _ => k b o (fun z => hc (by simp [z])) e) (fun b o _ _ hc e _ => ⟨o.slots, k b o (fun z => hc (by simp [z])) e⟩) (fun _ _ _ _ n => n)
  (fun b o hc e => ⟨o, k b o (fun z => hc (by simp [z])) e⟩) (fun _ _ e => e) (fun _ _ _ e => e) (fun b ps e => ⟨#[], by rw [e]; simp⟩) (fun m hm => ?_) (fun b u e => ?_) I.bare
 ·have e : b = it := by simpa using hb
  subst e
  exact ⟨h1, hL, h2, h3⟩
 ·obtain ⟨o, es, ep, ho, r⟩ := hm
  exact ⟨o, es, ep, k _ o (Ne.symm hL) ho, r⟩
 ·refine (I.hok b u e).stay (fun c v hc q => k c v ?_ q) (fun _ q => q) fun _ _ q => q
  rcases hc with z | z
  ·rw [z]; exact nit b u e
  ·exact nit c _ z
theorem Inv.tok (I : Inv X pins σ H s) (t : Nat) : Inv X pins σ H { s with toks := t } := I.un (h' := s.heap) (t' := t) Un.refl I.hok
theorem Inv.kept {t' : Nat} (I : Inv X pins σ H s) (k : ∀ b u, s.heap.get? b = some u → h'.get? b = some u) : Inv X pins σ H { s with heap := h', toks := t' } := I.un (Un.kept k) (I.hok.kept k)
theorem Inv.laid {a : Addr} {o : HO} {t' : Nat} (I : Inv X pins σ H s) (k : ∀ b u, s.heap.get? b = some u → h'.get? b = some u) (hp : s.heap.objs.size ≤ a) (new : ObjOk X.prog X.w (upd H a o) h' a o) :
  Inv X pins σ (upd H a o) { s with heap := h', toks := t' } := I.un (Un.laid k hp (I.hok.fresh hp)) (I.hok.laid k hp new)
theorem Inv.write {x e : Addr} {o : HO} {t' : Nat} (I : Inv X pins σ H s) (mu : Mut (H x)) (he : e = x ∨ H e = some (.own x)) (k : ∀ b u, b ≠ e → s.heap.get? b = some u → h'.get? b = some u) (heo : ∃ u, h'.get? e = some u)
  (new : ObjOk X.prog X.w (upd H x o) h' x o) : Inv X pins σ (upd H x o) { s with heap := h', toks := t' } := I.un (Un.write mu he k heo) (I.hok.write mu he k heo new)
theorem Inv.pins_of {pins' : List (Addr × Obj)} (I : Inv X pins σ H s) (h : ∀ p ∈ pins', s.heap.get? p.1 = some p.2 ∧ H p.1 = none ∧ p.1 ≠ X.env.locals ∧ p.1 ∉ X.fs ∧ ∀ v, p.2.data ≠ .cell v) : Inv X pins' σ H s :=
 ⟨I.ok, I.os, I.bare, I.base, I.loc, I.cell, I.free, I.freeC, fun p hp => (List.mem_append.mp hp).elim (fun z => I.pin p (List.mem_append_left _ z)) (h p), I.hok, I.len⟩
theorem nodup_ix {N : List Str} (hN : N.Nodup) {i j : Nat} {x : Str} (a : N[i]? = some x) (b : N[j]? = some x) : i = j := by
 obtain ⟨h1, e1⟩ := List.getElem?_eq_some_iff.mp a
 obtain ⟨h2, e2⟩ := List.getElem?_eq_some_iff.mp b
 exact (List.getElem_inj hN).mp (e1.trans e2.symm)
theorem store_ok2 {M : Model} {A : Around} {E : Value → Shared → Prop} {i : Nat} {x : Str} {v : V} {u : Value} {Q : Unit → Shared → Prop} (I : Inv X pins σ H s) (hN : X.N.Nodup) (hi : X.N[i]? = some x) (hx : Loc X.env.scope x) (r : RelV v u)
    (h : ∀ s', Inv X pins (σ.set i (some v)) H s' → (∃ a, Heap.SameBut a s.heap s'.heap ∧ (a = X.env.locals ∨ X.env.cells.lookup x = some a)) → Q () s') (hf : X.fn x = true ∨ X.env.scope.names.lookup x = some .local := by first | exact .inl rfl | exact .inr rfl | assumption) : wpAny M A (storeName X.env x u) Q E s := by
  obtain ⟨m, hn, hl⟩ := id I.loc
  have hcls : (X.env.scope.kind == .class || (X.env.scope.kind == .module && X.env.locals != X.env.globals)) = false := by rw [I.ok.kind]; rfl
  have hiσ : i < σ.length := by rw [I.len]; exact (List.getElem?_eq_some_iff.mp hi).1
  have cne := I.cne
  have tracked : ∀ {a : Addr} {h' : Heap}, (∃ o, s.heap.get? a = some o ∧ H a = none) → Heap.SameBut a s.heap h' → HOk X.prog X.w H h' := fun {a h'} ha hs b ob e => by
    obtain ⟨_, _, hfree⟩ := ha
    refine (I.hok b ob e).stay (fun c w' hc q => (hs.2 c ?_).trans q) (fun _ q => q) fun _ _ q => q
    rintro rfl
    rcases hc with rfl | hc
    · rw [hfree] at e; cases e
    · rw [hfree] at hc; cases hc
  rcases hx with hk | hk
  · refine wpAny_storeName_local hk hn (fun h' hn' hs => ?_) hcls
    obtain ⟨oL, _, _, hoL, _⟩ := id hn
    refine h _ ⟨I.ok, I.os, I.bare, ⟨fun b o e n hb hx => ?_, fun b o e n hb hx => ?_, I.base.free, fun b o e hx => ?_, I.base.tups, I.base.frzs, I.base.tbls⟩, ⟨_, hn', fun j y v' e1 e2 e3 => ?_⟩, fun y c e => ?_, I.free, I.freeC, fun p hp => ?_, tracked ⟨oL, hoL, I.free⟩ hs, by simpa using I.len⟩ ⟨_, hs, .inl rfl⟩
    · exact (hs.2 b (Nat.ne_of_lt (Nat.lt_of_lt_of_le (Heap.lt_size e) I.ok.above))).trans (I.base.keep b o e n hb hx)
    · obtain ⟨sl, e1⟩ := I.base.slot b o e n hb hx
      exact ⟨sl, (hs.2 b (Nat.ne_of_lt (Nat.lt_of_lt_of_le (Heap.lt_size e) I.ok.above))).trans e1⟩
    · obtain ⟨o', e1⟩ := I.base.there b o e hx
      exact ⟨o', (hs.2 b (Nat.ne_of_lt (Nat.lt_of_lt_of_le (Heap.lt_size e) I.ok.above))).trans e1⟩
    · by_cases hj : j = i
      · subst hj
        rw [hi] at e1; cases e1
        rw [List.getElem?_set_self hiσ] at e2
        cases e2
        exact ⟨u, r, .inl ⟨hk, by simp⟩⟩
      · rw [List.getElem?_set_ne (Ne.symm hj)] at e2
        obtain ⟨u', r', q⟩ := hl j y v' e1 e2 e3
        refine ⟨u', r', ?_⟩
        rcases q with ⟨k, e⟩ | ⟨k, c, e, z⟩
        · refine .inl ⟨k, ?_⟩
          have : y ≠ x := fun e => hj (nodup_ix hN e1 (e ▸ hi))
          simp [this, e]
        · exact .inr ⟨k, c, e, z.sameBut hs (cne y c e)⟩
    · obtain ⟨w', z⟩ := I.cell y c e
      exact ⟨w', z.sameBut hs (cne y c e)⟩
    · obtain ⟨e, n, ne, nf, d⟩ := I.pin p hp
      exact ⟨(hs.2 p.1 ne).trans e, n, ne, nf, d⟩
  · have hfn : X.fn x = true := by
      rcases hf with z | z
      · exact z
      · rw [z] at hk; cases hk
    obtain ⟨c, hc⟩ := I.ok.has x (.inl hk)
    obtain ⟨w', z⟩ := I.cell x c hc
    refine wpAny_storeName_cell I.ok.kind hk hc z (fun h' hc' hs => ?_)
    obtain ⟨oc, hoc, hocd⟩ := id z
    refine h { s with heap := h' } ⟨I.ok, I.os, I.bare, ⟨fun b o e n hb hx => ?_, fun b o e n hb hx => ?_, I.base.free, fun b o e hx => ?_, I.base.tups, I.base.frzs, I.base.tbls⟩, ⟨m, hn.sameBut hs (Ne.symm (cne x c hc)), fun j y v' e1 e2 e3 => ?_⟩, fun y c' e => ?_, I.free, I.freeC, fun p hp => ?_, tracked ⟨oc, hoc, I.freeC x c hc⟩ hs, by simpa using I.len⟩ ⟨c, hs, .inr hc⟩
    · exact (hs.2 b (Nat.ne_of_lt (Nat.lt_of_lt_of_le (Heap.lt_size e) (I.ok.cab x c hfn hc)))).trans (I.base.keep b o e n hb hx)
    · obtain ⟨sl, e1⟩ := I.base.slot b o e n hb hx
      exact ⟨sl, (hs.2 b (Nat.ne_of_lt (Nat.lt_of_lt_of_le (Heap.lt_size e) (I.ok.cab x c hfn hc)))).trans e1⟩
    · obtain ⟨o', e1⟩ := I.base.there b o e hx
      exact ⟨o', (hs.2 b (Nat.ne_of_lt (Nat.lt_of_lt_of_le (Heap.lt_size e) (I.ok.cab x c hfn hc)))).trans e1⟩
    · by_cases hj : j = i
      · subst hj
        rw [hi] at e1; cases e1
        rw [List.getElem?_set_self hiσ] at e2
        cases e2
        exact ⟨u, r, .inr ⟨.inl hk, c, hc, hc'⟩⟩
      · rw [List.getElem?_set_ne (Ne.symm hj)] at e2
        obtain ⟨u', r', q⟩ := hl j y v' e1 e2 e3
        refine ⟨u', r', ?_⟩
        rcases q with q | ⟨k, c', e, z'⟩
        · exact .inl q
        · refine .inr ⟨k, c', e, z'.sameBut hs ?_⟩
          rintro rfl
          exact hj (nodup_ix hN e1 (I.ok.inj _ _ _ e hc ▸ hi))
    · by_cases hcc : c' = c
      · subst hcc; exact ⟨_, hc'⟩
      · obtain ⟨w2, z2⟩ := I.cell y c' e
        exact ⟨w2, z2.sameBut hs hcc⟩
    · obtain ⟨e, n, ne, nf, d⟩ := I.pin p hp
      refine ⟨(hs.2 p.1 ?_).trans e, n, ne, nf, d⟩
      intro q
      rw [q, hoc] at e
      have q' : oc = p.2 := Option.some.inj e
      exact d w' (by rw [← q']; exact hocd)
theorem store_ok {M : Model} {A : Around} {E : Value → Shared → Prop} {i : Nat} {x : Str} {v : V} {u : Value} {Q : Unit → Shared → Prop} (I : Inv X pins σ H s) (hN : X.N.Nodup) (hi : X.N[i]? = some x) (hx : Loc X.env.scope x) (r : RelV v u)
  (h : ∀ s', Inv X pins (σ.set i (some v)) H s' → Q () s') (hf : X.fn x = true ∨ X.env.scope.names.lookup x = some .local := by first | exact .inl rfl | exact .inr rfl | assumption) : wpAny M A (storeName X.env x u) Q E s :=
 store_ok2 I hN hi hx r (fun s' I' _ => h s' I') hf
theorem Inv.call' {s' : Shared} {ch : List Addr} (I : Inv X pins σ H s) (ho : s'.os = s.os) (u : Un (frs X.stack) ch H H' s.heap s'.heap) (hok : HOk X.prog X.w H' s'.heap) (hg : AllBare s'.gens)
  (hch : ∀ b ∈ ch, (b ∈ X.ex ∨ X.s₀.heap.objs.size ≤ b) ∧ b ≠ X.env.locals ∧ (∀ x c, X.env.cells.lookup x = some c → c ≠ b) ∧ ∀ p ∈ X.pn ++ pins, p.1 ≠ b) : Inv X pins σ H' s' := by
 obtain ⟨h', g', d', t', o'⟩ := s'
 have e : o' = s.os := ho
 subst e
 exact I.call (g' := g') (t' := t') (d' := d') u hok hg hch
end
abbrev XK := Value → Option Addr → Hp → Prop
abbrev St := List (Option V)
abbrev VK := V → Hp → Prop
abbrev TE := St → Hp → VK → Prop
abbrev TT := St → Hp → (Bool → Hp → Prop) → Prop
abbrev TA := St → Hp → (List V → Hp → Prop) → Prop
structure Ends where
 nx : St → Hp → Prop
 rt : VK
 bk : St → Hp → Prop := fun _ _ => False
 ct : St → Hp → Prop := fun _ _ => False
abbrev TS := Ends → St → Hp → Prop
def EP (X : Cx) (pins : List (Addr × Obj)) (σ : St) (Q : VK) (u : Value) (s' : Shared) : Prop := ∃ v H', Inv X pins σ H' s' ∧ RelV v u ∧ Q v H'
def TP (X : Cx) (pins : List (Addr × Obj)) (σ : St) (Q : Bool → Hp → Prop) (b : Bool) (s' : Shared) : Prop := ∃ H', Inv X pins σ H' s' ∧ Q b H'
def AP (X : Cx) (pins : List (Addr × Obj)) (σ : St) (Q : List V → Hp → Prop) (us : List Value) (s' : Shared) : Prop := ∃ vs H', Inv X pins σ H' s' ∧ Vals vs us ∧ Q vs H'
def SP (X : Cx) (pins : List (Addr × Obj)) (D : Ends) (f : Flow) (s' : Shared) : Prop :=
 match f with
 | .next => ∃ σ' H', Inv X pins σ' H' s' ∧ D.nx σ' H'
 | .brk => ∃ σ' H', Inv X pins σ' H' s' ∧ D.bk σ' H'
 | .cont => ∃ σ' H', Inv X pins σ' H' s' ∧ D.ct σ' H'
 | .ret u => ∃ v σ' H', Inv X pins σ' H' s' ∧ RelV v u ∧ D.rt v H'
def PE (X : Cx) (e : Expr) (t : TE) : Prop :=
 ∀ (pins : List (Addr × Obj)) (s : Shared) (σ : St) (H : Hp) (Q : VK), Inv X pins σ H s → t σ H Q → wpAny (model X.prog X.w) X.A (eval e X.env) (EP X pins σ Q) X.xe s
def PT (X : Cx) (e : Expr) (t : TT) : Prop :=
 ∀ (pins : List (Addr × Obj)) (s : Shared) (σ : St) (H : Hp) (Q : Bool → Hp → Prop), Inv X pins σ H s → t σ H Q → wpAny (model X.prog X.w) X.A (isTrue e X.env (eval e X.env)) (TP X pins σ Q) X.xe s
def PW (X : Cx) (e : Expr) (t : TT) : Prop :=
 ∀ (whole : Sem Value) (pins : List (Addr × Obj)) (s : Shared) (σ : St) (H : Hp) (Q : Bool → Hp → Prop), Inv X pins σ H s → t σ H Q → wpAny (model X.prog X.w) X.A (isTrue e X.env whole) (TP X pins σ Q) X.xe s
theorem PW.pt {X : Cx} {e : Expr} {t : TT} (h : PW X e t) : PT X e t := h _
def PA (X : Cx) (es : List Expr) (t : TA) : Prop :=
 ∀ (pos : Pos) (pins : List (Addr × Obj)) (s : Shared) (σ : St) (H : Hp) (Q : List V → Hp → Prop), Inv X pins σ H s → t σ H Q → wpAny (model X.prog X.w) X.A (spliced (backTo pos (starEach es X.env))) (AP X pins σ Q) X.xe s
def PS (X : Cx) (st : Stmt) (t : TS) : Prop :=
 ∀ (pins : List (Addr × Obj)) (s : Shared) (σ : St) (H : Hp) (D : Ends), Inv X pins σ H s → t D σ H → wpAny (model X.prog X.w) X.A (exec st X.env) (SP X pins D) X.xe s
def PSs (X : Cx) (st : List Stmt) (t : TS) : Prop :=
 ∀ (pins : List (Addr × Obj)) (s : Shared) (σ : St) (H : Hp) (D : Ends), Inv X pins σ H s → t D σ H → wpAny (model X.prog X.w) X.A (execs st X.env) (SP X pins D) X.xe s
theorem thn {α : Type} {t : Sem α} {Q Q' : α → Shared → Prop} {M : Model} {A : Around} {E : Value → Shared → Prop} {s : Shared} (h : wpAny M A t Q E s) (hQ : ∀ a s, Q a s → Q' a s) : wpAny M A t Q' E s := wpAny_mono h hQ fun _ _ x => x
end L2
namespace L2
open PySem PySem.Spec PyProof.Rows
section
variable {X : Cx}
def tVar (i : Nat) : TE := fun σ H Q => ∃ v, σ[i]? = some (some v) ∧ Q v H
def tC (v : V) : TE := fun _ H Q => Q v H
theorem pe_var {i : Nat} {x : Str} {pos : Pos} (hN : X.N[i]? = some x) (hv : Vis X.env.scope x) (hd : (x == ("__debug__" : Str)) = false := by decide) (hcd : (x == ("__classdict__" : Str)) = false := by decide) : PE X (.Name x pos) (tVar i) := by
 intro pins s σ H Q I h
 obtain ⟨v, e, h⟩ := h
 obtain ⟨m, hn, hl⟩ := I.loc
 obtain ⟨u, r, l⟩ := hl i x v hN e hv
 have fin : EP X pins σ Q u s := ⟨v, H, I, r, h⟩
 rcases l with ⟨hk, hm⟩ | ⟨hk, c, hc, hcell⟩
 ·exact wpAny_Name (wpAny_loadName_local I.ok.kind hk hn hm fin) hd
 ·rcases hk with hk | hk
  ·exact wpAny_Name (wpAny_loadName_cell I.ok.kind hk hc hcell fin) hd
  ·exact wpAny_Name (wpAny_loadName_free I.ok.kind hk hc hcell fin hcd) hd
theorem pe_int {i j pos} : PE X (.Constant (.int i) j pos) (tC (.int i)) := fun _ _ _ H _ I h => wpAny_Constant_int ⟨.int i, H, I.tok _, ⟨_, rfl⟩, h⟩
theorem pe_bl {b j pos} : PE X (.Constant (.bool b) j pos) (tC (.bl b)) := fun _ _ _ H _ I h => Constant_bool ⟨.bl b, H, I, rfl, h⟩
theorem pe_str {x j pos} : PE X (.Constant (.str x) j pos) (tC (.str x)) := fun _ _ _ H _ I h => Calls.Constant_str ⟨.str x, H, I.tok _, ⟨_, rfl⟩, h⟩
def Gl (X : Cx) (x : Str) : Prop := X.env.kindOf x = some .globalImplicit
theorem ld_glob {E : Value → Shared → Prop} {pins : List (Addr × Obj)} {s : Shared} {σ : St} {H : Hp} {x : Str} {u : Value} {pos : Pos} {Q : Value → Shared → Prop} (I : Inv X pins σ H s) (hg : Gl X x) (hm : X.mg x = some u) (h : Q u s)
  (hd : (x == ("__debug__" : Str)) = false := by decide) : wpAny (model X.prog X.w) X.A (eval (.Name x pos) X.env) Q E s :=
 Calls.Name_function_global I.ok.kind hg (Calls.loadGlobal_global (by rw [I.ok.glob]; exact I.mod.glob.keeps I.bk) hm h) hd
theorem ld_blt {E : Value → Shared → Prop} {pins : List (Addr × Obj)} {s : Shared} {σ : St} {H : Hp} {x : Str} {u : Value} {pos : Pos} {Q : Value → Shared → Prop} (I : Inv X pins σ H s) (hg : Gl X x) (hm : X.mg x = none) (hv : bootBuiltins x = some u) (h : Q u s)
  (hn : x ≠ "__name__" := by decide) (hd : (x == ("__debug__" : Str)) = false := by decide) : wpAny (model X.prog X.w) X.A (eval (.Name x pos) X.env) Q E s := by
 obtain ⟨mb, h1, h2⟩ := I.mod.blt
 exact Calls.Name_function_global I.ok.kind hg (Calls.loadGlobal_builtin (by rw [I.ok.glob]; exact I.mod.glob.keeps I.bk) hm (by rw [I.ok.blt]; exact h1.keeps I.bk) ((h2 x hn).trans hv) h) hd
theorem pe_glob {x : Str} {v : V} {u : Value} {pos : Pos} (hg : Gl X x) (hm : X.mg x = some u) (r : RelV v u) (hd : (x == ("__debug__" : Str)) = false := by decide) : PE X (.Name x pos) (tC v) :=
 fun _ _ _ H _ I h => ld_glob I hg hm ⟨v, H, I, r, h⟩ hd
theorem pe_bltn {x : Str} {v : V} {u : Value} {pos : Pos} (hg : Gl X x) (hm : X.mg x = none) (hv : bootBuiltins x = some u) (r : RelV v u) (hn : x ≠ "__name__" := by decide) (hd : (x == ("__debug__" : Str)) = false := by decide) : PE X (.Name x pos) (tC v) :=
 fun _ _ _ H _ I h => ld_blt I hg hm hv ⟨v, H, I, r, h⟩ hn hd
variable {a b : Expr} {ta tb : TE} {pos : Pos}
def PC (X : Cx) (op : CmpOp) (a b : Expr) (t : TE) : Prop :=
 ∀ (pins : List (Addr × Obj)) (s : Shared) (σ : St) (H : Hp) (Q : VK), Inv X pins σ H s → t σ H Q →
  wpAny (model X.prog X.w) X.A (eval a X.env) (fun v s₁ => wpAny (model X.prog X.w) X.A (eval b X.env) (fun u s₂ => wpAny (model X.prog X.w) X.A (compareOp op v u) (EP X pins σ Q) X.xe s₂) X.xe s₁) X.xe s
def tB (t : TE) : TT := fun σ H Q => t σ H fun x H1 => ∃ c, x = .bl c ∧ Q c H1
theorem pt_cmp {op : CmpOp} {t : TE} (h : PC X op a b t) (h1 : behindInMarks op b = false := by first | exact nobehind _ (by decide) (by decide) | rfl) : PT X (.Compare a [op] [b] pos) (tB t) := by
 intro pins s σ H Q I hw
 refine wpAny_isTrue_Compare1 (thn (h pins s σ H _ I hw) fun v s1 h1 => thn h1 fun u s2 h2 => thn h2 fun c s3 ⟨x, H1, I1, r1, q1⟩ => ?_) h1
 obtain ⟨d, rfl, q⟩ := q1
 cases r1
 exact wpAny_truthy_bool ⟨H1, I1, q⟩
theorem pt_val {e : Expr} {t : TE} (h : PE X e t) (he : ∀ whole, isTrue e X.env whole = (do let v ← whole; standAt e.pos; holding [v] (truthy v)) := by intro _; rfl) : PT X e (tB t) := by
 intro pins s σ H Q I hw
 refine isTrue_plain (thn (h pins s σ H _ I hw) fun v s1 ⟨x, H1, I1, r1, q1⟩ => ?_) (he _)
 obtain ⟨d, rfl, q⟩ := q1
 cases r1
 exact wpAny_truthy_bool ⟨H1, I1, q⟩
variable {tA tB' : TT} {rest : List Expr}
def tAnd (t u : TT) : TT := fun σ H Q => t σ H fun c H1 => if c = true then u σ H1 Q else Q false H1
def tOr (t u : TT) : TT := fun σ H Q => t σ H fun c H1 => if c = true then Q true H1 else u σ H1 Q
def tNot (t : TT) : TT := fun σ H Q => t σ H fun c H1 => Q (!c) H1
theorem pw_and1 (ha : PT X a tA) : PW X (.BoolOp .And [a] pos) tA := by
 intro wh pins s σ H Q I h
 refine isTrue_and (thn (ha pins s σ H Q I h) fun c s1 e => ?_)
 cases c with
 | true => exact isTrue_and_nil e
 | false => exact e
theorem pw_or1 (ha : PT X a tA) : PW X (.BoolOp .Or [a] pos) tA := by
 intro wh pins s σ H Q I h
 refine isTrue_or (thn (ha pins s σ H Q I h) fun c s1 e => ?_)
 cases c with
 | false => exact isTrue_or_nil e
 | true => exact e
theorem pw_and (ha : PT X a tA) (hb : PW X (.BoolOp .And (b :: rest) pos) tB') : PW X (.BoolOp .And (a :: b :: rest) pos) (tAnd tA tB') := by
 intro wh pins s σ H Q I h
 refine isTrue_and (thn (ha pins s σ H _ I h) fun c s1 ⟨H1, I1, q1⟩ => ?_)
 cases c with
 | true => exact hb wh pins s1 σ H1 Q I1 q1
 | false => exact ⟨H1, I1, q1⟩
theorem pw_or (ha : PT X a tA) (hb : PW X (.BoolOp .Or (b :: rest) pos) tB') : PW X (.BoolOp .Or (a :: b :: rest) pos) (tOr tA tB') := by
 intro wh pins s σ H Q I h
 refine isTrue_or (thn (ha pins s σ H _ I h) fun c s1 ⟨H1, I1, q1⟩ => ?_)
 cases c with
 | true => exact ⟨H1, I1, q1⟩
 | false => exact hb wh pins s1 σ H1 Q I1 q1
theorem pt_not (ha : PT X a tA) : PT X (.UnaryOp .Not a pos) (tNot tA) := by
 intro pins s σ H Q I h
 exact isTrue_not (ha pins s σ H (fun c H1 => Q (!c) H1) I h)
def tAndV (ta tb : TE) : TE := fun σ H Q => ta σ H fun x H1 => ∃ c, x = .bl c ∧ if c = true then tb σ H1 Q else Q (.bl false) H1
def tNotV (ta : TE) : TE := fun σ H Q => ta σ H fun x H1 => ∃ c, x = .bl c ∧ Q (.bl (!c)) H1
theorem pe_one {op} {t : TE} (h : PE X a t) : PE X (.BoolOp op [a] pos) t := fun pins s σ H Q I hw => BoolOp_one (h pins s σ H Q I hw)
theorem pe_and (ha : PE X a ta) (hb : PE X (.BoolOp .And (b :: rest) pos) tb) : PE X (.BoolOp .And (a :: b :: rest) pos) (tAndV ta tb) := by
 intro pins s σ H Q I h
 refine BoolOp_and (thn (ha pins s σ H _ I h) fun v s1 ⟨x, H1, I1, r1, q1⟩ => ?_)
 obtain ⟨c, rfl, q1⟩ := q1
 cases r1
 refine wpAny_truthy_bool ?_
 cases c with
 | true => exact hb pins s1 σ H1 Q I1 q1
 | false => exact ⟨.bl false, H1, I1, rfl, q1⟩
theorem pe_not (ha : PE X a ta) : PE X (.UnaryOp .Not a pos) (tNotV ta) := by
 intro pins s σ H Q I h
 refine UnaryOp_ (thn (ha pins s σ H _ I h) fun v s1 ⟨x, H1, I1, r1, q1⟩ => ?_)
 obtain ⟨c, rfl, q1⟩ := q1
 cases r1
 exact not_of (wpAny_truthy_bool ⟨.bl (!c), H1, I1, rfl, q1⟩)
def tIf (t : TT) (ta tb : TE) : TE := fun σ H Q => t σ H fun c H1 => if c = true then ta σ H1 Q else tb σ H1 Q
theorem pe_ifExp {c : Expr} (hc : PT X c tA) (ha : PE X a ta) (hb : PE X b tb) : PE X (.IfExp c a b pos) (tIf tA ta tb) := by
 intro pins s σ H Q I h
 refine wpAny_IfExp (thn (hc pins s σ H _ I h) fun d s1 ⟨H1, I1, q1⟩ => ?_)
 cases d with
 | true => exact ha pins s1 σ H1 Q I1 q1
 | false => exact hb pins s1 σ H1 Q I1 q1
end
end L2
namespace L2
open PySem PySem.Spec PyProof.Rows
def SqL (K : PySem.W.Frag) (H : Hp) (a : Addr) (xs : List V) : Prop :=
 Rd H a (.lst xs) ∨
  ∃ (o : Obj) (its : Array Value) (n : Nat), K.lookup a = some o ∧ o.cls = .type "list" ∧ o.dict = none ∧ o.data = .seq its n ∧ its.size ≤ sizeLine ∧ Vals xs its.toList
def SqT (K : PySem.W.Frag) (H : Hp) (a : Addr) (xs : List V) : Prop :=
 Rd H a (.tup xs) ∨
  ∃ (o : Obj) (its : Array Value) (n : Nat), K.lookup a = some o ∧ o.cls = .type "tuple" ∧ o.data = .seq its n ∧ its.size ≤ sizeLine ∧ Vals xs its.toList
def absV : Value → Option V
 | .none => some .non
 | .bool b => some (.bl b)
 | .int i _ => some (.int i)
 | .str x _ => some (.str x)
 | .bytes b _ => some (.byt b)
 | .float b _ => some (.flt b)
 | .ref a => some (.ref a)
 | .type n => some (.ty n)
 | _ => none
theorem RelV.abs {x : V} {u : Value} (r : RelV x u) : absV u = some x := by
 cases x with
 | non => cases r; rfl
 | bl _ => cases r; rfl
 | int _ => obtain ⟨t, rfl⟩ := r; rfl
 | str _ => obtain ⟨t, rfl⟩ := r; rfl
 | byt _ => obtain ⟨t, rfl⟩ := r; rfl
 | flt _ => obtain ⟨t, rfl⟩ := r; rfl
 | ref _ => cases r; rfl
 | ty _ => cases r; rfl
theorem RelV.inj {x y : V} {u : Value} (r : RelV x u) (q : RelV y u) : x = y := Option.some.inj (r.abs.symm.trans q.abs)
theorem Vals.inj : ∀ {xs ys : List V} {us : List Value}, Vals xs us → Vals ys us → xs = ys
 | _, _, _, .nil, .nil => rfl
 | _, _, _, .cons r t, .cons r' t' => by rw [r.inj r', Vals.inj t t']
section
variable {X : Cx} {pins : List (Addr × Obj)} {σ : St} {H : Hp} {s : Shared} {a : Addr} {xs ys : List V}
theorem SqL.of {K : PySem.W.Frag} (h : H a = some (.lst xs)) : SqL K H a xs := .inl (.inl h)
theorem SqT.of {K : PySem.W.Frag} (h : H a = some (.tup xs)) : SqT K H a xs := .inl (.inl h)
theorem Inv.list (I : Inv X pins σ H s) (h : SqL X.K H a xs) : ∃ its : List Value, Vals xs its ∧ PlainL s.heap a its.toArray ∧ xs.length ≤ sizeLine := by
 rcases h with h | ⟨o, its, n, hk, hc, hd, hs, hz, r⟩
 ·obtain ⟨z, its, n, r, e⟩ := h.ok I.hok
  exact ⟨its, r, ⟨_, n, e, rfl, rfl, rfl⟩, z⟩
 ·refine ⟨its.toList, r, ⟨o, n, I.kIn a o hk, hc, hd, by simpa using hs⟩, ?_⟩
  have e := r.length
  simp only [Array.length_toList] at e
  omega
theorem Inv.tuple (I : Inv X pins σ H s) (h : SqT X.K H a xs) : ∃ its : List Value, Vals xs its ∧ IsTup s.heap a its.toArray ∧ xs.length ≤ sizeLine := by
 rcases h with h | ⟨o, its, n, hk, hc, hs, hz, r⟩
 ·obtain ⟨z, its, r, p⟩ := h.ok I.hok
  exact ⟨its, r, p, z⟩
 ·refine ⟨its.toList, r, ⟨o, I.kIn a o hk, hc, n, by simpa using hs⟩, ?_⟩
  have e := r.length
  simp only [Array.length_toList] at e
  omega
theorem Inv.list_inj (I : Inv X pins σ H s) (h : SqL X.K H a xs) (h' : SqL X.K H a ys) : xs = ys := by
 obtain ⟨its, r, ⟨o, n, e, _, _, d⟩, _⟩ := I.list h
 obtain ⟨its', r', ⟨o', n', e', _, _, d'⟩, _⟩ := I.list h'
 rw [e] at e'; cases e'
 rw [d] at d'
 injection d' with d1 _
 have : its = its' := by simpa using congrArg Array.toList d1
 subst this
 exact r.inj r'
theorem Inv.tuple_inj (I : Inv X pins σ H s) (h : SqT X.K H a xs) (h' : SqT X.K H a ys) : xs = ys := by
 obtain ⟨its, r, ⟨o, e, _, n, d⟩, _⟩ := I.tuple h
 obtain ⟨its', r', ⟨o', e', _, n', d'⟩, _⟩ := I.tuple h'
 rw [e] at e'; cases e'
 rw [d] at d'
 injection d' with d1 _
 have : its = its' := by simpa using congrArg Array.toList d1
 subst this
 exact r.inj r'
end
abbrev Cx.wish (X : Cx) (E : Value → Shared → Prop) : Cx := { X with xe := E }
abbrev Cx.nox (X : Cx) : Cx := X.wish fun _ _ => False
theorem Cx.Ok.wish {X : Cx} (ok : X.Ok) (E : Value → Shared → Prop) : (X.wish E).Ok :=
 ⟨ok.mod, ok.kind, ok.glob, ok.blt, ok.above, ok.inj, ok.has, ok.cab, ok.hd, ok.frames, ok.stk, ok.exf, ok.bs, ok.bsz, ok.noex, ok.exfs, ok.funs, ok.frf⟩
theorem Cx.Ok.unwish {X : Cx} {E : Value → Shared → Prop} (ok : (X.wish E).Ok) : X.Ok :=
 ⟨ok.mod, ok.kind, ok.glob, ok.blt, ok.above, ok.inj, ok.has, ok.cab, ok.hd, ok.frames, ok.stk, ok.exf, ok.bs, ok.bsz, ok.noex, ok.exfs, ok.funs, ok.frf⟩
section
variable {X : Cx} {pins : List (Addr × Obj)} {σ : St} {H : Hp} {s : Shared} {E : Value → Shared → Prop}
theorem Inv.wish (I : Inv X pins σ H s) (E : Value → Shared → Prop) : Inv (X.wish E) pins σ H s := ⟨I.ok.wish E, I.os, I.bare, I.base, I.loc, I.cell, I.free, I.freeC, I.pin, I.hok, I.len⟩
theorem Inv.unwish (I : Inv (X.wish E) pins σ H s) : Inv X pins σ H s := ⟨I.ok.unwish, I.os, I.bare, I.base, I.loc, I.cell, I.free, I.freeC, I.pin, I.hok, I.len⟩
theorem SP.unwish {D : Ends} {f : Flow} {s' : Shared} (h : SP (X.wish E) pins D f s') : SP X pins D f s' := by
 cases f with
 | next => obtain ⟨σ', H', I, q⟩ := h; exact ⟨σ', H', I.unwish, q⟩
 | brk => obtain ⟨σ', H', I, q⟩ := h; exact ⟨σ', H', I.unwish, q⟩
 | cont => obtain ⟨σ', H', I, q⟩ := h; exact ⟨σ', H', I.unwish, q⟩
 | ret u => obtain ⟨v, σ', H', I, r, q⟩ := h; exact ⟨v, σ', H', I.unwish, r, q⟩
theorem PSs.nox {st : List Stmt} {t : TS} (h : PSs X.nox st t) : PSs X st t := fun pins s σ H D I hw =>
 wpAny_mono (h pins s σ H D (I.wish _) hw) (fun _ _ q => q.unwish) fun _ _ z => False.elim z
end
section
variable {X : Cx} {st : Stmt} {rest : List Stmt} {t u : TS} {e : Expr} {te : TE} {pos : Pos}
def tNext : TS := fun D σ H => D.nx σ H
def tSeq (t u : TS) : TS := fun D σ H => t { D with nx := u D } σ H
theorem pss_nil : PSs X [] tNext := fun _ _ σ H _ I h => wpAny_execs_nil ⟨σ, H, I, h⟩
theorem pss_cons (h1 : PS X st t) (h2 : PSs X rest u) : PSs X (st :: rest) (tSeq t u) := by
 intro pins s σ H D I h
 refine wpAny_execs_cons (thn (h1 pins s σ H { D with nx := u D } I h) fun f s1 q => ?_)
 cases f with
 | next =>
  obtain ⟨σ', H', I', q⟩ := q
  exact h2 pins s1 σ' H' D I' q
 | ret v => exact q
 | brk => exact q
 | cont => exact q
theorem pss_one (h1 : PS X st t) : PSs X [st] t := by
 intro pins s σ H D I h
 refine wpAny_execs_cons (thn (h1 pins s σ H D I h) fun f s1 q => ?_)
 cases f with
 | next => exact wpAny_execs_nil q
 | ret v => exact q
 | brk => exact q
 | cont => exact q
theorem Inv.quiet {pins : List (Addr × Obj)} {σ : St} {H : Hp} {s : Shared} (I : Inv X pins σ H s) : interactive X.env = false := by simp [interactive, I.ok.kind]
def tDrop (te : TE) : TS := fun D σ H => te σ H fun _ H1 => D.nx σ H1
theorem ps_expr (he : PE X e te) (hs : swapsWith e none pos.line X.env = pure false := by rfl) : PS X (.Expr e pos) (tDrop te) := by
 intro pins s σ H D I h
 exact wpAny_Expr_any (thn (he pins s σ H _ I h) fun v s1 ⟨x, H1, I1, r1, q1⟩ => ⟨σ, H1, I1, q1⟩) I.quiet hs
def tRet (te : TE) : TS := fun D σ H => te σ H D.rt
theorem ps_ret (he : PE X e te) : PS X (.Return (some e) pos) (tRet te) := by
 intro pins s σ H D I h
 exact wpAny_Return_some (thn (he pins s σ H _ I h) fun v s1 ⟨x, H1, I1, r1, q1⟩ => ⟨x, σ, H1, I1, r1, q1⟩)
def tIfS (c : TT) (t u : TS) : TS := fun D σ H => c σ H fun b H1 => if b = true then t D σ H1 else u D σ H1
theorem ps_if {c : Expr} {a b : List Stmt} {tc : TT} (hc : PT X c tc) (ha : PSs X a t) (hb : PSs X b u) : PS X (.If c a b pos) (tIfS tc t u) := by
 intro pins s σ H D I h
 refine wpAny_If (thn (hc pins s σ H _ I h) fun d s1 ⟨H1, I1, q1⟩ => ?_)
 cases d with
 | true => exact ha pins s1 σ H1 D I1 q1
 | false => exact hb pins s1 σ H1 D I1 q1
def tNever : TS := fun _ _ _ => False
theorem ps_never : PS X st tNever := fun _ _ _ _ _ _ h => h.elim
theorem pss_never {sts : List Stmt} : PSs X sts tNever := fun _ _ _ _ _ _ h => h.elim
end
abbrev TG := V → St → Hp → (St → Hp → Prop) → Prop
abbrev TGs := List V → St → Hp → (St → Hp → Prop) → Prop
def PG (X : Cx) (target : Expr) (t : TG) : Prop :=
 ∀ (pins : List (Addr × Obj)) (s : Shared) (σ : St) (H : Hp) (v : V) (u : Value) (Q : St → Hp → Prop), Inv X pins σ H s → RelV v u → t v σ H Q →
  wpAny (model X.prog X.w) X.A (assign target X.env u) (fun _ s' => ∃ σ' H', Inv X pins σ' H' s' ∧ Q σ' H') X.xe s
def PGs (X : Cx) (ts : List Expr) (t : TGs) : Prop :=
 ∀ (pins : List (Addr × Obj)) (s : Shared) (σ : St) (H : Hp) (vs : List V) (us : List Value) (Q : St → Hp → Prop), Inv X pins σ H s → Vals vs us → t vs σ H Q →
  wpAny (model X.prog X.w) X.A (assignInOrder ((assignEach ts X.env).map (·.2)) us) (fun _ s' => ∃ σ' H', Inv X pins σ' H' s' ∧ Q σ' H') X.xe s
abbrev TIp := V → V → Hp → VK → Prop
def PIp (X : Cx) (op : Operator) (t : TIp) : Prop :=
 ∀ (pins : List (Addr × Obj)) (s : Shared) (σ : St) (H : Hp) (x y : V) (v u : Value) (Q : VK), Inv X pins σ H s → RelV x v → RelV y u → t x y H Q →
  wpAny (model X.prog X.w) X.A (inplaceOp op v u) (EP X pins σ Q) X.xe s
section
variable {X : Cx} {pos : Pos}
def gName (i : Nat) : TG := fun v σ H Q => Q (σ.set i (some v)) H
theorem pg_name {i : Nat} {x : Str} (hN : X.N.Nodup) (hi : X.N[i]? = some x) (hx : Loc X.env.scope x) (hf : X.fn x = true ∨ X.env.scope.names.lookup x = some .local := by first | exact .inl rfl | exact .inr rfl | assumption) : PG X (.Name x pos) (gName i) := by
 intro pins s σ H v u Q I r h
 exact wpAny_assign_Name (store_ok I hN hi hx r (fun s' I' => ⟨_, H, I', h⟩) hf)
def gNil : TGs := fun vs σ H Q => vs = [] ∧ Q σ H
def gCons (t : TG) (u : TGs) : TGs := fun vs σ H Q => ∃ v r, vs = v :: r ∧ t v σ H fun σ' H' => u r σ' H' Q
theorem pgs_nil : PGs X [] gNil := by
 intro pins s σ H vs us Q I r h
 obtain ⟨e, h⟩ := h
 subst e
 cases r
 exact assignInOrder_nil ⟨σ, H, I, h⟩
theorem pgs_cons {e : Expr} {es : List Expr} {t : TG} {u : TGs} (h1 : PG X e t) (h2 : PGs X es u)
  (hs : (assignEach (e :: es) X.env).map (·.2) = assign e X.env :: (assignEach es X.env).map (·.2) := by rfl) : PGs X (e :: es) (gCons t u) := by
 intro pins s σ H vs us Q I r h
 obtain ⟨v, vr, e1, h⟩ := h
 subst e1
 cases r with
 | cons r rr =>
  rw [hs]
  refine assignInOrder_cons (thn (h1 pins s σ H _ _ _ I r h) fun _ s1 ⟨σ1, H1, I1, q1⟩ => ?_)
  exact h2 pins s1 σ1 H1 _ _ Q I1 rr q1
def gTup (K : PySem.W.Frag) (n : Nat) (t : TGs) : TG := fun v σ H Q => ∃ a xs, v = .ref a ∧ SqT K H a xs ∧ xs.length = n ∧ t xs σ H Q
theorem pg_tup {es : List Expr} {k : Nat} {t : TGs} {n : Nat} (hc : X.calm = true) (h : PGs X es t)
  (hn : (assignEach es X.env).length = n := by rfl) (hst : (assignEach es X.env).findIdx? (·.1) = none := by rfl) : PG X (.Tuple es k pos) (gTup X.K n t) := by
 intro pins s σ H v u Q I r hw
 obtain ⟨a, xs, e1, hq, hl, hw⟩ := hw
 subst e1
 cases r
 obtain ⟨its, rv, ht, hz⟩ := I.tuple hq
 refine assign_Tuple_tuple (I.ok.hd hc) ht (by simp [hn, ← hl, rv.length]) hst fun h' hx => ?_
 have I1 : Inv X pins σ H { s with heap := h' } := I.kept (t' := s.toks) fun b o e => hx b o (Nat.ne_of_lt (Heap.lt_size e)) e
 exact h pins _ σ H xs _ Q I1 (by simpa using rv) hw
def tAsg (te : TE) (g : TG) : TS := fun D σ H => te σ H fun x H1 => g x σ H1 D.nx
theorem ps_asg {tg e : Expr} {te : TE} {g : TG} (he : PE X e te) (hg : PG X tg g) (hs : swapsWithSole [tg] e pos.line X.env = pure false := by rfl) (hw : swappedStores [tg] e X.env = pure none := by rfl)
  (h1 : (assignEach [tg] X.env).map (·.2) = [assign tg X.env] := by rfl) : PS X (.Assign [tg] e pos) (tAsg te g) := by
 intro pins s σ H D I h
 refine wpAny_Assign_stores (thn (he pins s σ H _ I h) fun v s1 ⟨x, H1, I1, r1, q1⟩ => ?_) hs hw
 rw [h1]
 exact thn (hg pins s1 σ H1 x v _ I1 r1 q1) fun _ s2 q => q
theorem ps_set {i : Nat} {x : Str} {e : Expr} {te : TE} {pos' : Pos} (hN : X.N.Nodup) (hi : X.N[i]? = some x) (hx : Loc X.env.scope x) (he : PE X e te) (hs : swapsWith e (some (.Name x pos')) pos.line X.env = pure false := by rfl) (hf : X.fn x = true ∨ X.env.scope.names.lookup x = some .local := by first | exact .inl rfl | exact .inr rfl | assumption) :
  PS X (.Assign [.Name x pos'] e pos) (tAsg te (gName i)) := by
 intro pins s σ H D I h
 refine wpAny_Assign_Name (thn (he pins s σ H _ I h) fun v s1 ⟨y, H1, I1, r1, q1⟩ => ?_) hs
 exact store_ok I1 hN hi hx r1 (fun s2 I2 => ⟨_, H1, I2, q1⟩) hf
def tAug (i : Nat) (te : TE) (ti : TIp) : TS := fun D σ H => ∃ x, σ[i]? = some (some x) ∧ te σ H fun y H1 => ti x y H1 fun z H2 => D.nx (σ.set i (some z)) H2
theorem ps_aug {i : Nat} {x : Str} {e : Expr} {te : TE} {op : Operator} {ti : TIp} {pos' : Pos} (hN : X.N.Nodup) (hi : X.N[i]? = some x) (hx : Loc X.env.scope x) (he : PE X e te) (ho : PIp X op ti) (hf : X.fn x = true ∨ X.env.scope.names.lookup x = some .local := by first | exact .inl rfl | exact .inr rfl | assumption) :
  PS X (.AugAssign (.Name x pos') op e pos) (tAug i te ti) := by
 intro pins s σ H D I h
 obtain ⟨v, e1, h⟩ := h
 obtain ⟨m, hn, hl⟩ := I.loc
 have vis : Vis X.env.scope x := by rcases hx with k | k; exact .inl k; exact .inr (.inl k)
 obtain ⟨u, r, l⟩ := hl i x v hi e1 vis
 refine wpAny_AugAssign_Name ?_
 have go : wpAny (model X.prog X.w) X.A (eval e X.env) (fun w s₂ => wpAny (model X.prog X.w) X.A (inplaceOp op u w) (fun r s₃ => wpAny (model X.prog X.w) X.A (storeName X.env x r) (fun _ => SP X pins D .next) X.xe s₃) X.xe s₂) X.xe s := by
  refine thn (he pins s σ H _ I h) fun w s1 ⟨y, H1, I1, r1, q1⟩ => ?_
  refine thn (ho pins s1 σ H1 v y u w _ I1 r r1 q1) fun z s2 ⟨zv, H2, I2, r2, q2⟩ => ?_
  exact store_ok I2 hN hi hx r2 (fun s3 I3 => ⟨_, H2, I3, q2⟩) hf
 rcases l with ⟨hk, hm⟩ | ⟨hk, c, hc, hcell⟩
 ·exact wpAny_loadName_local I.ok.kind hk hn hm go
 ·rcases hk with hk | hk
  ·exact wpAny_loadName_cell I.ok.kind hk hc hcell go
  ·rcases hx with k | k
   ·have : X.env.scope.names.lookup x = some .free := hk
    rw [k] at this; cases this
   ·have : X.env.scope.names.lookup x = some .free := hk
    rw [k] at this; cases this
def ipI (f : Int → Int → Int) : TIp := fun x y H Q => ∃ i j, x = .int i ∧ y = .int j ∧ Q (.int (f i j)) H
theorem ip_add : PIp X .Add (ipI fun i j => i + j) := by
 intro pins s σ H x y v u Q I r1 r2 h
 obtain ⟨i, j, e1, e2, q⟩ := h
 subst e1; subst e2
 obtain ⟨t, rfl⟩ := r1
 obtain ⟨t', rfl⟩ := r2
 exact iadd_int ⟨.int _, H, I.tok _, ⟨_, rfl⟩, q⟩
end
section
variable {X : Cx} {pos : Pos}
def tWhile (c : TT) (tb : TS) : TS := fun D σ H => ∃ W : Nat → St → Hp → Prop, (∃ m, W m σ H) ∧ ∀ m σ H, W m σ H →
 c σ H fun b H1 => if b = true then ∃ N : St → Hp → Prop, (∀ σ' H', N σ' H' → ∃ m', m' < m ∧ W m' σ' H') ∧ tb { D with nx := N, ct := N, bk := D.nx } σ H1 else D.nx σ H1
theorem ps_while {c : Expr} {body : List Stmt} {tc : TT} {tb : TS} (hp : PassesOwn (model X.prog X.w) X.A X.env X.xe) (hc : PT X c tc) (hb : PSs X body tb) : PS X (.While c body [] pos) (tWhile tc tb) := by
 intro pins s σ H D I h
 obtain ⟨W, ⟨m0, w0⟩, turn⟩ := h
 refine wpAny_While (codeAny_whileLoop (fun n s' => ∃ σ' H', Inv X pins σ' H' s' ∧ W n σ' H') ?_ m0 ⟨σ, H, I, w0⟩)
 rintro n s1 ⟨σ1, H1, I1, w1⟩
 refine wpAny_passesOwn hp (thn (hc pins s1 σ1 H1 _ I1 (turn n σ1 H1 w1)) fun b s2 ⟨H2, I2, q2⟩ => ?_)
 cases b with
 | true =>
  obtain ⟨N, hN, q2⟩ := q2
  rw [if_pos rfl]
  refine wpAny_passesOwn hp (thn (hb pins s2 σ1 H2 _ I2 q2) fun f s3 q3 => ?_)
  cases f with
  | next =>
   obtain ⟨σ3, H3, I3, n3⟩ := q3
   obtain ⟨m', hm, w3⟩ := hN σ3 H3 n3
   exact ⟨m', hm, σ3, H3, I3, w3⟩
  | cont =>
   obtain ⟨σ3, H3, I3, n3⟩ := q3
   obtain ⟨m', hm, w3⟩ := hN σ3 H3 n3
   exact ⟨m', hm, σ3, H3, I3, w3⟩
  | brk => exact q3
  | ret v => exact q3
 | false =>
  rw [if_neg Bool.false_ne_true]
  exact wpAny_execs_nil ⟨σ1, H2, I2, q2⟩
end
structure It where
 go : Nat → Hp → Prop
 yld : Nat → Hp → V → Hp → Prop
 stop : Nat → Hp → Prop
def FpOk (X : Cx) (pins : List (Addr × Obj)) (H : Hp) (b : Addr) : Prop :=
 H b = none ∧ b ≠ X.env.locals ∧ b ∉ X.fs ∧ (b ∈ X.ex ∨ X.s₀.heap.objs.size ≤ b) ∧ (∀ x c, X.env.cells.lookup x = some c → c ≠ b) ∧ ∀ p ∈ X.pn ++ pins, p.1 ≠ b
theorem Inv.fpOk {X : Cx} {pins : List (Addr × Obj)} {σ : St} {H H' : Hp} {s : Shared} {b : Addr} (I : Inv X pins σ H s) (hb : s.heap.objs.size ≤ b) (hn : H' b = none) : FpOk X pins H' b := by
 refine ⟨hn, Nat.ne_of_gt (Nat.lt_of_lt_of_le I.lt hb), I.nofs hb, .inr (Nat.le_trans I.sz hb), fun x c e z => ?_, fun p hp z => ?_⟩
 ·obtain ⟨v, q⟩ := I.cell x c e
  exact absurd (Nat.lt_of_lt_of_le q.lt (by rw [z]; exact hb)) (Nat.lt_irrefl _)
 ·exact absurd (Nat.lt_of_lt_of_le (Heap.lt_size (I.pin p hp).1) (by rw [z]; exact hb)) (Nat.lt_irrefl _)
structure Turn (P : Program) (w : World) (K : PySem.W.Frag) (tg : Expr) (J : It) (fp : List Addr) (it : Addr) (tn : Nat → Heap → Prop) : Prop where
 mem : it ∈ fp
 obj : ∀ i h, tn i h → ∀ b ∈ fp, ∃ o, h.get? b = some o ∧ ∀ v, o.data ≠ .cell v
 keep : ∀ i h h', tn i h → (∀ b ∈ fp, ∀ o, h.get? b = some o → h'.get? b = some o) → tn i h'
 item : ∀ (X : Cx), X.prog = P → X.w = w → X.K = K → X.calm = true → ∀ (i : Nat) (pins : List (Addr × Obj)) (s : Shared) (σ : St) (H : Hp) (E : Value → Shared → Prop), Inv X pins σ H s → (∀ b ∈ fp, FpOk X pins H b) → tn i s.heap → J.go i H →
  wpAny (model P w) X.A (pyNext (.ref it)) (fun r s1 => ∃ u, r = some u ∧
   wpAny (model P w) X.A (letOwnedTupleGo tg (.ref it) u) (fun _ s2 => ∃ x H', Inv X pins σ H' s2 ∧ RelV x u ∧ J.yld i H x H' ∧ tn (i + 1) s2.heap ∧ ∀ b ∈ fp, H' b = none) E s1) E s
 done : ∀ (X : Cx), X.prog = P → X.w = w → X.K = K → X.calm = true → ∀ (i : Nat) (pins : List (Addr × Obj)) (s : Shared) (σ : St) (H : Hp) (E : Value → Shared → Prop), Inv X pins σ H s → (∀ b ∈ fp, FpOk X pins H b) → tn i s.heap → J.stop i H →
  wpAny (model P w) X.A (pyNext (.ref it)) (fun r s1 => r = none ∧ Inv X pins σ H s1) E s
 self : ∀ (A : Around) (i : Nat) (s : Shared) (Q : Value → Shared → Prop) (E : Value → Shared → Prop), tn i s.heap → Q (.ref it) s → wpAny (model P w) A (pyIter (.ref it)) Q E s
abbrev TI := St → Hp → (It → Hp → Prop) → Prop
def PIE (X : Cx) (pins : List (Addr × Obj)) (σ : St) (tg : Expr) (R : It → Hp → Prop) (itv : Value) (s2 : Shared) : Prop :=
 ∃ (it : Addr) (fp : List Addr) (tn : Nat → Heap → Prop) (J : It) (H' : Hp), itv = .ref it ∧ Inv X pins σ H' s2 ∧ Turn X.prog X.w X.K tg J fp it tn ∧ tn 0 s2.heap ∧ (∀ b ∈ fp, FpOk X pins H' b) ∧ R J H'
def PI (X : Cx) (tg iter : Expr) (wi : TI) : Prop :=
 ∀ (pins : List (Addr × Obj)) (s : Shared) (σ : St) (H : Hp) (R : It → Hp → Prop), Inv X pins σ H s → wi σ H R →
  wpAny (model X.prog X.w) X.A (eval iter X.env) (fun v s1 => wpAny (model X.prog X.w) X.A (pyIter v) (PIE X pins σ tg R) X.xe s1) X.xe s
theorem go_of {M : Model} {A : Around} {E : Value → Shared → Prop} {s : Shared} {tg : Expr} {it : Addr} {u : Value} {o : Obj} {n : String} {vs : Array Value} {Q : Unit → Shared → Prop} (ho : s.heap.get? it = some o) (hc : o.cls = .type n) (hd : o.data = .fields vs)
    (hn : ["enumerate", "zip", "dict_itemiterator", "dict_reverseitemiterator", "odict_iterator", "itertools.zip_longest", "itertools.pairwise"].contains n = false) (hQ : Q () s) : wpAny M A (letOwnedTupleGo tg (.ref it) u) Q E s := by
  unfold letOwnedTupleGo
  cases tg <;> first
    | exact wpAny_pure hQ
    | (cases u <;> first
        | exact wpAny_pure hQ
        | (refine wpAny_bind (wpAny_load ho ?_)
           rw [hc, hd]
           show wpAny M A (if (["enumerate", "zip", "dict_itemiterator", "dict_reverseitemiterator", "odict_iterator", "itertools.zip_longest", "itertools.pairwise"].contains n && vs[0]? == some (rawInt _)) = true then _ else _) Q E s
           rw [if_neg (by intro h; rw [hn, Bool.false_and] at h; cases h)]
           exact wpAny_pure hQ))
def Itl (K : PySem.W.Frag) (a : Addr) : It :=
 ⟨fun i H => ∃ xs x, SqL K H a xs ∧ xs[i]? = some x, fun i H x H' => H' = H ∧ ∀ xs, SqL K H a xs → xs[i]? = some x, fun i H => ∃ xs, SqL K H a xs ∧ xs.length ≤ i⟩
def Itr (lo : Int) (n : Nat) : It := ⟨fun i _ => i < n, fun i H x H' => H' = H ∧ x = .int (lo + i), fun i _ => n ≤ i⟩
theorem turn_list {P : Program} {w : World} {K : PySem.W.Frag} {tg : Expr} (a it : Addr) : Turn P w K tg (Itl K a) [it] it (fun i h => h.IsListIter it a i) where
 mem := by simp
 obj := fun i h st b hb => by
  have e : b = it := by simpa using hb
  subst e
  obtain ⟨o, e, c, d⟩ := st
  exact ⟨o, e, fun v z => by rw [d] at z; cases z⟩
 keep := fun i h h' st k => st.at fun o e => k it (by simp) o e
 item := by
  intro X hP hw hK hc i pins s σ H E I hf st hg
  subst hP hw hK
  obtain ⟨xs, x, hq, hx⟩ := hg
  obtain ⟨its, rv, p, hz⟩ := I.list hq
  obtain ⟨u, hu, ru⟩ := rv.get hx
  obtain ⟨f0, f1, f2, f3, f4, f5⟩ := hf it (by simp)
  refine wpAny_pyNext_list_item st p.isList (x := u) (by simpa using hu) fun h' st' sb => ?_
  have I1 : Inv X pins σ H { s with heap := h' } := I.turned (t' := s.toks) (fun b o hb e => (sb.2 b hb).trans e) f0 f1 f3 f4 f5
  obtain ⟨o, e, c, d⟩ := id st'
  exact ⟨u, rfl, go_of (s := { s with heap := h' }) e c d (by decide) ⟨x, H, I1, ru, ⟨rfl, fun ys hy => by rw [I.list_inj hy hq]; exact hx⟩, st', fun b hb => (hf b hb).1⟩⟩
 done := by
  intro X hP hw hK hc i pins s σ H E I hf st hg
  subst hP hw hK
  obtain ⟨xs, hq, hx⟩ := hg
  obtain ⟨its, rv, p, hz⟩ := I.list hq
  obtain ⟨f0, f1, f2, f3, f4, f5⟩ := hf it (by simp)
  have hl := rv.length
  exact wpAny_pyNext_list_end (I.ok.hd hc) st p.isList (by simp; omega) fun h' eb => ⟨rfl, I.turned (t' := s.toks) (fun b o hb e => eb b o hb e) f0 f1 f3 f4 f5⟩
 self := fun _ _ _ _ _ st h => wpAny_pyIter_listiter st h
theorem turn_range {P : Program} {w : World} {K : PySem.W.Frag} {tg : Expr} (it : Addr) (lo : Int) (n : Nat) : Turn P w K tg (Itr lo n) [it] it (fun i h => IsRangeIter h it (lo + (i : Nat) * 1) ((n : Int) - (i : Nat)) 1) where
 mem := by simp
 obj := fun i h st b hb => by
  have e : b = it := by simpa using hb
  subst e
  exact ⟨_, st, fun v z => by
   have z' : Data.fields _ = Data.cell v := z
   cases z'⟩
 keep := fun i h h' st k => k it (by simp) _ st
 item := by
  intro X hP hw hK hc i pins s σ H E I hf st hg
  subst hP hw hK
  obtain ⟨f0, f1, f2, f3, f4, f5⟩ := hf it (by simp)
  have W := Walks.range (prog := X.prog) (w := X.w) (I.ok.hd hc) it lo 1 n
  refine W.item i s _ _ hg st fun v h' tk hv st' kk => ?_
  obtain ⟨t, rfl⟩ := hv
  have I1 : Inv X pins σ H { s with heap := h', toks := tk } := I.turned (fun b o hb e => kk b o (by simpa using hb) e) f0 f1 f3 f4 f5
  refine ⟨_, rfl, go_of (s := { s with heap := h', toks := tk }) (n := "range_iterator") st' rfl rfl (by decide) ⟨.int (lo + i), H, I1, ⟨t, ?_⟩, ⟨rfl, rfl⟩, st', fun b hb => (hf b hb).1⟩⟩
  rw [Int.mul_one]
 done := by
  intro X hP hw hK hc i pins s σ H E I hf st hg
  subst hP hw hK
  obtain ⟨f0, f1, f2, f3, f4, f5⟩ := hf it (by simp)
  exact wpAny_pyNext_range_end (I.ok.hd hc) st (by have : n ≤ i := hg; omega) fun h' eb => ⟨rfl, I.turned (t' := s.toks) (fun b o hb e => eb b o hb e) f0 f1 f3 f4 f5⟩
 self := fun _ _ _ _ _ st h => wpAny_pyIter_rangeiter st h
end L2
namespace L2
open PySem PySem.Spec PyProof.Rows
section
variable {X : Cx} {tg : Expr}
def iList (K : PySem.W.Frag) (tl : TE) : TI := fun σ H R => tl σ H fun x H1 => ∃ a, x = .ref a ∧ (∃ xs, SqL K H1 a xs) ∧ R (Itl K a) H1
theorem pi_list {l : Expr} {tl : TE} (hl : PE X l tl) : PI X tg l (iList X.K tl) := by
 intro pins s σ H R I h
 refine thn (hl pins s σ H _ I h) fun v s1 ⟨x, H1, I1, r1, q1⟩ => ?_
 obtain ⟨a, e, ⟨xs, hq⟩, q⟩ := q1
 subst e
 cases r1
 obtain ⟨its, rv, p, hz⟩ := I1.list hq
 refine wpAny_pyIter_list p.isList ?_
 refine ⟨s1.heap.objs.size, [s1.heap.objs.size], _, _, H1, rfl, I1.kept (t' := s1.toks) fun b o e => Heap.get?_push_of_some _ e, turn_list a _, ⟨_, Heap.get?_push_size _ rfl, rfl, rfl⟩, fun b hb => ?_, q⟩
 have e : b = s1.heap.objs.size := by simpa using hb
 subst e
 exact I1.fpOk (Nat.le_refl _) (I1.hok.fresh (Nat.le_refl _))
theorem range_it {pins : List (Addr × Obj)} {σ : St} {H : Hp} {s : Shared} {R : It → Hp → Prop} {E : Value → Shared → Prop} {lo hi : Int} {t u v : Tok} {tk : Nat} (I : Inv X pins σ H s) (h1 : -(2 ^ 62) ≤ lo) (h2 : lo < 2 ^ 62) (h3 : -(2 ^ 62) ≤ hi) (h4 : hi < 2 ^ 62)
  (q : R (Itr lo (hi - lo).toNat) H) : wpAny (model X.prog X.w) X.A (pyIter (.ref s.heap.objs.size)) (PIE X pins σ tg R) E { s with heap := s.heap.push { cls := .type "range", data := .fields #[.int lo t, .int hi u, .int 1 v] }, toks := tk } := by
 refine wpAny_pyIter_range (IsRange.new ..) (small_one h1 h2 h3 h4) ?_
 have I1 : Inv X pins σ H { s with heap := s.heap.push { cls := .type "range", data := .fields #[.int lo t, .int hi u, .int 1 v] }, toks := tk } := I.kept fun b o e => Heap.get?_push_of_some _ e
 refine ⟨(s.heap.push { cls := .type "range", data := .fields #[.int lo t, .int hi u, .int 1 v] }).objs.size, [(s.heap.push { cls := .type "range", data := .fields #[.int lo t, .int hi u, .int 1 v] }).objs.size], _, _, H, rfl,
  I1.kept (t' := tk) fun b o e => Heap.get?_push_of_some _ e, turn_range _ lo (hi - lo).toNat, ?_, fun b hb => ?_, q⟩
 ·have e1 : lo + ((0 : Nat) : Int) * 1 = lo := by simp
  have e2 : (((hi - lo).toNat : Nat) : Int) - ((0 : Nat) : Int) = Builtin.Range.rangeSize lo hi 1 := by rw [rangeSize_one]; split <;> omega
  show IsRangeIter _ _ (lo + ((0 : Nat) : Int) * 1) ((((hi - lo).toNat : Nat) : Int) - ((0 : Nat) : Int)) 1
  rw [e1, e2]
  exact Heap.get?_push_size _ rfl
 ·have e : b = (s.heap.push { cls := .type "range", data := .fields #[.int lo t, .int hi u, .int 1 v] }).objs.size := by simpa using hb
  subst e
  exact I1.fpOk (Nat.le_refl _) (I1.hok.fresh (Nat.le_refl _))
def iRng1 (ta : TA) : TI := fun σ H R => ta σ H fun vs H1 => ∃ j : Int, vs = [.int j] ∧ -(2 ^ 62) ≤ j ∧ j < 2 ^ 62 ∧ R (Itr 0 j.toNat) H1
theorem pi_range1 {a : Expr} {ta : TA} {p pos : Pos} (hg : Gl X "range") (hm : X.mg "range" = none) (ha : PA X [a] ta) (hs : starEach [a] X.env = [(false, eval a X.env)] := by rfl) : PI X tg (.Call (.Name "range" p) [a] [] pos) (iRng1 ta) := by
 intro pins s σ H R I h
 refine Call_ (ld_blt I hg hm boot_range (PyProof.Rows.callWith_type1 (thn (ha pos pins s σ H _ I h) fun us s1 ⟨vs, H1, I1, r1, q1⟩ => ?_) hs rfl))
 obtain ⟨j, e, q1, q2, q⟩ := q1
 subst e
 cases r1 with
 | cons r rr =>
  cases rr
  obtain ⟨t, rfl⟩ := r
  exact call_range_1 (range_it I1 (by omega) (by omega) q1 q2 (by simpa using q))
def tFor (wi : TI) (g : TG) (tb : TS) : TS := fun D σ H => wi σ H fun J H1 => ∃ W : Nat → Nat → St → Hp → Prop, (∃ m, W 0 m σ H1) ∧ ∀ i m σ H, W i m σ H →
 (J.stop i H ∧ D.nx σ H) ∨ (J.go i H ∧ ∃ N : St → Hp → Prop, (∀ σ' H', N σ' H' → ∃ m', m' < m ∧ W (i + 1) m' σ' H') ∧ ∀ x H', J.yld i H x H' → g x σ H' fun σ2 H2 => tb { D with nx := N, ct := N, bk := D.nx } σ2 H2)
def pinsAt (fp : List Addr) (h : Heap) : List (Addr × Obj) := fp.filterMap fun b => (h.get? b).map fun o => (b, o)
theorem mem_pinsAt {fp : List Addr} {h : Heap} {b : Addr} {o : Obj} (hb : b ∈ fp) (e : h.get? b = some o) : (b, o) ∈ pinsAt fp h := List.mem_filterMap.mpr ⟨b, hb, by rw [e]; rfl⟩
theorem of_pinsAt {fp : List Addr} {h : Heap} {p : Addr × Obj} (hp : p ∈ pinsAt fp h) : p.1 ∈ fp ∧ h.get? p.1 = some p.2 := by
 obtain ⟨b, hb, e⟩ := List.mem_filterMap.mp hp
 cases q : h.get? b with
 | none => rw [q] at e; cases e
 | some o =>
  rw [q] at e
  have e' : (b, o) = p := Option.some.inj e
  subst e'
  exact ⟨hb, q⟩
theorem Inv.pinned {pins : List (Addr × Obj)} {σ : St} {H : Hp} {s : Shared} {fp : List Addr} (I : Inv X pins σ H s) (hf : ∀ b ∈ fp, FpOk X pins H b) (ho : ∀ b ∈ fp, ∃ o, s.heap.get? b = some o ∧ ∀ v, o.data ≠ .cell v) : Inv X (pins ++ pinsAt fp s.heap) σ H s :=
 I.pins_of fun p hp => (List.mem_append.mp hp).elim (fun z => I.pin p (List.mem_append_right _ z)) fun z => by
  obtain ⟨hb, e⟩ := of_pinsAt z
  obtain ⟨f0, f1, f2, _⟩ := hf p.1 hb
  obtain ⟨o, e', d⟩ := ho p.1 hb
  rw [e] at e'; cases e'
  exact ⟨e, f0, f1, f2, d⟩
theorem Inv.unpinned {pins pl : List (Addr × Obj)} {σ : St} {H : Hp} {s : Shared} (I : Inv X (pins ++ pl) σ H s) : Inv X pins σ H s := I.pins_of fun p hp => I.pin p (List.mem_append_right _ (List.mem_append_left _ hp))
theorem ps_for {iter : Expr} {body : List Stmt} {wi : TI} {g : TG} {tb : TS} {pos : Pos} (hp : PassesOwn (model X.prog X.w) X.A X.env X.xe) (hc : X.calm = true) (hi : PI X tg iter wi) (hg : PG X tg g) (hb : PSs X body tb)
  (hs : ∀ x, foldedSetIterable iter X.env x = pure x := by intro _; rfl) : PS X (.For tg iter body [] pos) (tFor wi g tb) := by
 intro pins s σ H D I h
 refine wpAny_For (thn (hi pins s σ H _ I h) fun v s1 h1 => thn h1 fun itv s2 h2 => ?_) hs
 obtain ⟨it, fp, tn, J, H2, e, I2, T, st2, f2, W, ⟨m0, w0⟩, turn⟩ := h2
 subst e
 -- what stays true of the iterator's objects through the loop
 have stat : ∀ {H' : Hp}, (∀ b ∈ fp, H' b = none) → ∀ b ∈ fp, FpOk X pins H' b := fun hn b hb => ⟨hn b hb, (f2 b hb).2⟩
 refine codeAny_forLoop_any (fun n s' => ∃ i σ' H', Inv X pins σ' H' s' ∧ tn i s'.heap ∧ (∀ b ∈ fp, H' b = none) ∧ W i n σ' H') ?_ m0 ⟨0, σ, H2, I2, st2, fun b hb => (f2 b hb).1, w0⟩
 rintro n s3 ⟨i, σ3, H3, I3, st3, fr3, w3⟩
 rcases turn i n σ3 H3 w3 with ⟨stop, qn⟩ | ⟨go, N, hN, step⟩
 ·refine wpAny_passesOwn hp (thn (T.done X rfl rfl rfl hc i pins s3 σ3 H3 X.xe I3 (stat fr3) st3 stop) fun r s4 ⟨hr, I4⟩ => ?_)
  subst hr
  exact wpAny_execs_nil ⟨σ3, H3, I4, qn⟩
 ·refine wpAny_passesOwn hp (thn (T.item X rfl rfl rfl hc i pins s3 σ3 H3 X.xe I3 (stat fr3) st3 go) fun r s4 ⟨u, hr, h4⟩ => ?_)
  subst hr
  refine wpAny_passesOwn hp (thn h4 fun _ s5 ⟨x, H5, I5, r5, y5, st5, fr5⟩ => ?_)
  have I5' := I5.pinned (stat fr5) (T.obj _ _ st5)
  refine wpAny_passesOwn hp (thn (hg _ s5 σ3 H5 x u _ I5' r5 (step x H5 y5)) fun _ s6 ⟨σ6, H6, I6, q6⟩ => ?_)
  refine wpAny_passesOwn hp (thn (hb _ s6 σ6 H6 _ I6 q6) fun f s7 q7 => ?_)
  have again : ∀ {σ7 : St} {H7 : Hp}, Inv X (pins ++ pinsAt fp s5.heap) σ7 H7 s7 → N σ7 H7 → ∃ m, m < n ∧ ∃ i σ' H', Inv X pins σ' H' s7 ∧ tn i s7.heap ∧ (∀ b ∈ fp, H' b = none) ∧ W i m σ' H' := fun {σ7 H7} I7 n7 => by
   obtain ⟨m', hm, w7⟩ := hN σ7 H7 n7
   refine ⟨m', hm, i + 1, σ7, H7, I7.unpinned, T.keep _ _ _ st5 fun b hb o e => (I7.pin (b, o) (List.mem_append_right _ (List.mem_append_right _ (mem_pinsAt hb e)))).1, fun b hb => ?_, w7⟩
   obtain ⟨o, e, d⟩ := T.obj _ _ st5 b hb
   exact (I7.pin (b, o) (List.mem_append_right _ (List.mem_append_right _ (mem_pinsAt hb e)))).2.1
  cases f with
  | next => obtain ⟨σ7, H7, I7, n7⟩ := q7; exact again I7 n7
  | cont => obtain ⟨σ7, H7, I7, n7⟩ := q7; exact again I7 n7
  | brk => obtain ⟨σ7, H7, I7, q7⟩ := q7; exact ⟨σ7, H7, I7.unpinned, q7⟩
  | ret v => obtain ⟨x7, σ7, H7, I7, r7, q7⟩ := q7; exact ⟨x7, σ7, H7, I7.unpinned, r7, q7⟩
end
theorem for_list {K : PySem.W.Frag} {a : Addr} {xs : List V} {g : TG} {tb : TS} {D : Ends} {σ : St} {H : Hp} (Pv : Nat → St → Hp → Prop) (h0 : Pv 0 σ H) (hl : ∀ i σ H, i ≤ xs.length → Pv i σ H → SqL K H a xs)
  (hs : ∀ i x σ H, xs[i]? = some x → Pv i σ H → g x σ H fun σ2 H2 => tb { D with nx := Pv (i + 1), ct := Pv (i + 1), bk := D.nx } σ2 H2) (hd : ∀ σ H, Pv xs.length σ H → D.nx σ H) :
  ∃ W : Nat → Nat → St → Hp → Prop, (∃ m, W 0 m σ H) ∧ ∀ i m σ H, W i m σ H →
   ((Itl K a).stop i H ∧ D.nx σ H) ∨ ((Itl K a).go i H ∧ ∃ N : St → Hp → Prop, (∀ σ' H', N σ' H' → ∃ m', m' < m ∧ W (i + 1) m' σ' H') ∧ ∀ x H', (Itl K a).yld i H x H' → g x σ H' fun σ2 H2 => tb { D with nx := N, ct := N, bk := D.nx } σ2 H2) := by
 refine ⟨fun i m σ H => m = xs.length - i ∧ i ≤ xs.length ∧ Pv i σ H, ⟨xs.length, by simp, Nat.zero_le _, h0⟩, ?_⟩
 rintro i m σ H ⟨rfl, hi, p⟩
 have q := hl i σ H hi p
 by_cases hlt : i < xs.length
 ·refine .inr ⟨⟨xs, xs[i], q, by simp [hlt]⟩, Pv (i + 1), fun σ' H' p' => ⟨xs.length - (i + 1), by omega, rfl, hlt, p'⟩, fun x H' y => ?_⟩
  obtain ⟨e, y⟩ := y
  subst e
  exact hs i x σ _ (y xs q) p
 ·have e : i = xs.length := by omega
  subst e
  exact .inl ⟨⟨xs, q, Nat.le_refl _⟩, hd σ H p⟩
theorem for_range {lo : Int} {n : Nat} {g : TG} {tb : TS} {D : Ends} {σ : St} {H : Hp} (Pv : Nat → St → Hp → Prop) (h0 : Pv 0 σ H)
  (hs : ∀ i σ H, i < n → Pv i σ H → g (.int (lo + i)) σ H fun σ2 H2 => tb { D with nx := Pv (i + 1), ct := Pv (i + 1), bk := D.nx } σ2 H2) (hd : ∀ σ H, Pv n σ H → D.nx σ H) :
  ∃ W : Nat → Nat → St → Hp → Prop, (∃ m, W 0 m σ H) ∧ ∀ i m σ H, W i m σ H →
   ((Itr lo n).stop i H ∧ D.nx σ H) ∨ ((Itr lo n).go i H ∧ ∃ N : St → Hp → Prop, (∀ σ' H', N σ' H' → ∃ m', m' < m ∧ W (i + 1) m' σ' H') ∧ ∀ x H', (Itr lo n).yld i H x H' → g x σ H' fun σ2 H2 => tb { D with nx := N, ct := N, bk := D.nx } σ2 H2) := by
 refine ⟨fun i m σ H => m = n - i ∧ i ≤ n ∧ Pv i σ H, ⟨n, by simp, Nat.zero_le _, h0⟩, ?_⟩
 rintro i m σ H ⟨rfl, hi, p⟩
 by_cases hlt : i < n
 ·refine .inr ⟨hlt, Pv (i + 1), fun σ' H' p' => ⟨n - (i + 1), by omega, rfl, hlt, p'⟩, fun x H' y => ?_⟩
  obtain ⟨e, y⟩ := y
  subst e y
  exact hs i σ _ hlt p
 ·have e : i = n := by omega
  subst e
  exact .inl ⟨Nat.le_refl _, hd σ H p⟩
end L2
namespace L2
open PySem PySem.Spec PyProof.Rows
abbrev R2 := V → V → Hp → VK → Prop
def OpR (X : Cx) (f : Value → Value → Sem Value) (r : R2) : Prop :=
 ∀ (pins : List (Addr × Obj)) (s : Shared) (σ : St) (H : Hp) (x y : V) (v u : Value) (Q : VK), Inv X pins σ H s → RelV x v → RelV y u → r x y H Q →
  wpAny (model X.prog X.w) X.A (f v u) (EP X pins σ Q) X.xe s
def UnR (X : Cx) (f : Value → Sem Value) (r : V → Hp → VK → Prop) : Prop :=
 ∀ (pins : List (Addr × Obj)) (s : Shared) (σ : St) (H : Hp) (x : V) (v : Value) (Q : VK), Inv X pins σ H s → RelV x v → r x H Q →
  wpAny (model X.prog X.w) X.A (f v) (EP X pins σ Q) X.xe s
def CallR (X : Cx) (f : Value) (r : List V → Hp → VK → Prop) : Prop :=
 ∀ (pins : List (Addr × Obj)) (s : Shared) (σ : St) (H : Hp) (xs : List V) (us : List Value) (Q : VK), Inv X pins σ H s → Vals xs us → r xs H Q →
  wpAny (model X.prog X.w) X.A (call f us) (EP X pins σ Q) X.xe s
def tOp (r : R2) (ta tb : TE) : TE := fun σ H Q => ta σ H fun x H1 => tb σ H1 fun y H2 => r x y H2 Q
def tUn (r : V → Hp → VK → Prop) (ta : TE) : TE := fun σ H Q => ta σ H fun x H1 => r x H1 Q
def rI (C : Int → Int → Prop) (g : Int → Int → V) : R2 := fun x y H Q => ∃ i j, x = .int i ∧ y = .int j ∧ C i j ∧ Q (g i j) H
def rI0 (g : Int → Int → V) : R2 := fun x y H Q => ∃ i j, x = .int i ∧ y = .int j ∧ Q (g i j) H
def rU (g : Int → V) : V → Hp → VK → Prop := fun x H Q => ∃ i, x = .int i ∧ Q (g i) H
section
variable {X : Cx} {a b c : Expr} {ta tb tc : TE} {pos : Pos}
theorem binT (ha : PE X a ta) (hb : PE X b tb) {pins : List (Addr × Obj)} {s : Shared} {σ : St} {H : Hp} {R : V → V → Hp → Prop} (I : Inv X pins σ H s)
  (h : ta σ H fun x H1 => tb σ H1 fun y H2 => R x y H2) {Q : Value → Shared → Prop} {f : Value → Value → Sem Value}
  (hf : ∀ v u s2 x y H2, Inv X pins σ H2 s2 → RelV x v → RelV y u → R x y H2 → wpAny (model X.prog X.w) X.A (f v u) Q X.xe s2) :
  wpAny (model X.prog X.w) X.A (eval a X.env) (fun v s₁ => wpAny (model X.prog X.w) X.A (eval b X.env) (fun u s₂ => wpAny (model X.prog X.w) X.A (f v u) Q X.xe s₂) X.xe s₁) X.xe s := by
 refine thn (ha pins s σ H _ I h) fun v s1 ⟨x, H1, I1, r1, q1⟩ => ?_
 refine thn (hb pins s1 σ H1 _ I1 q1) fun u s2 ⟨y, H2, I2, r2, q2⟩ => ?_
 exact hf v u s2 x y H2 I2 r1 r2 q2
theorem pe_op {op : Operator} {r : R2} (ho : OpR X (binaryOp op) r) (ha : PE X a ta) (hb : PE X b tb) : PE X (.BinOp a op b pos) (tOp r ta tb) := by
 intro pins s σ H Q I h
 exact wpAny_BinOp (binT ha hb I h fun v u s2 x y H2 I2 rx ry q => ho pins s2 σ H2 x y v u Q I2 rx ry q)
theorem pe_un {op : UnaryOp} {r : V → Hp → VK → Prop} (ho : UnR X (unaryOp op) r) (ha : PE X a ta) : PE X (.UnaryOp op a pos) (tUn r ta) := by
 intro pins s σ H Q I h
 exact UnaryOp_ (thn (ha pins s σ H _ I h) fun v s1 ⟨x, H1, I1, r1, q1⟩ => ho pins s1 σ H1 x v Q I1 r1 q1)
theorem opI {f : Value → Value → Sem Value} {C : Int → Int → Prop} {g : Int → Int → Int}
  (rule : ∀ (i j : Int) (t u : Tok) (s : Shared) (Q : Value → Shared → Prop) (E : Value → Shared → Prop), C i j → Q (.int (g i j) s.toks) { s with toks := s.toks + 1 } → wpAny (model X.prog X.w) X.A (f (.int i t) (.int j u)) Q E s) :
  OpR X f (rI C fun i j => .int (g i j)) := by
 intro pins s σ H x y v u Q I rx ry h
 obtain ⟨i, j, rfl, rfl, hc, q⟩ := h
 obtain ⟨t, rfl⟩ := rx
 obtain ⟨t', rfl⟩ := ry
 exact rule i j t t' s _ _ hc ⟨.int (g i j), H, I.tok _, ⟨_, rfl⟩, q⟩
theorem opI0 {f : Value → Value → Sem Value} {g : Int → Int → Int}
  (rule : ∀ (i j : Int) (t u : Tok) (s : Shared) (Q : Value → Shared → Prop) (E : Value → Shared → Prop), Q (.int (g i j) s.toks) { s with toks := s.toks + 1 } → wpAny (model X.prog X.w) X.A (f (.int i t) (.int j u)) Q E s) :
  OpR X f (rI0 fun i j => .int (g i j)) := by
 intro pins s σ H x y v u Q I rx ry h
 obtain ⟨i, j, rfl, rfl, q⟩ := h
 obtain ⟨t, rfl⟩ := rx
 obtain ⟨t', rfl⟩ := ry
 exact rule i j t t' s _ _ ⟨.int (g i j), H, I.tok _, ⟨_, rfl⟩, q⟩
theorem opB0 {f : Value → Value → Sem Value} {g : Int → Int → Bool}
  (rule : ∀ (i j : Int) (t u : Tok) (s : Shared) (Q : Value → Shared → Prop) (E : Value → Shared → Prop), Q (.bool (g i j)) s → wpAny (model X.prog X.w) X.A (f (.int i t) (.int j u)) Q E s) :
  OpR X f (rI0 fun i j => .bl (g i j)) := by
 intro pins s σ H x y v u Q I rx ry h
 obtain ⟨i, j, rfl, rfl, q⟩ := h
 obtain ⟨t, rfl⟩ := rx
 obtain ⟨t', rfl⟩ := ry
 exact rule i j t t' s _ _ ⟨.bl (g i j), H, I, rfl, q⟩
def CDiv (i j : Int) : Prop := 0 < j ∧ j < 1073741824
def CPow (i j : Int) : Prop := 0 ≤ j ∧ j ≤ 1000000 ∧ i.natAbs < 2 ^ 64
def CMul (i j : Int) : Prop := (-(2 ^ 64) < i ∧ i < 2 ^ 64) ∨ (-(2 ^ 64) < j ∧ j < 2 ^ 64)
theorem CMul.ok {i j : Int} (h : CMul i j) : IntMulOk i j := by
 rcases h with ⟨h1, h2⟩ | ⟨h1, h2⟩
 ·exact .of_left (intBits_le_64 h1 h2)
 ·exact .of_right (intBits_le_64 h1 h2)
theorem op_add : OpR X (binaryOp .Add) (rI0 fun i j => .int (i + j)) := opI0 fun _ _ _ _ _ _ _ q => add_int q
theorem op_sub : OpR X (binaryOp .Sub) (rI0 fun i j => .int (i - j)) := opI0 fun _ _ _ _ _ _ _ q => sub_int q
theorem op_mul : OpR X (binaryOp .Mult) (rI CMul fun i j => .int (i * j)) := opI fun _ _ _ _ _ _ _ hc q => mul_int q hc.ok
theorem op_fdiv : OpR X (binaryOp .FloorDiv) (rI CDiv fun i j => .int (i / j)) := opI fun i j _ _ _ _ _ hc q => by
 have h1 : (0 : Int) < j := hc.1
 have h2 : j < 1073741824 := hc.2
 exact floordiv_int (by omega) (by rw [Int.fdiv_eq_ediv_of_nonneg i (by omega)]; exact q) (.inl (PyProof.noPylong_small (by omega)))
theorem op_mod : OpR X (binaryOp .Mod) (rI (fun _ j => 0 < j) fun i j => .int (i % j)) := opI fun i j _ _ _ _ _ hc q => by
 have h1 : (0 : Int) < j := hc
 exact mod_int' (by omega) (by rw [Int.fmod_eq_emod_of_nonneg i (by omega)]; exact q)
theorem op_pow : OpR X (binaryOp .Pow) (rI CPow fun i j => .int (i ^ j.toNat)) := opI fun _ _ _ _ _ _ _ hc q => pow_int_small hc.1 hc.2.1 hc.2.2 q
theorem unI {f : Value → Sem Value} {g : Int → Int}
  (rule : ∀ (i : Int) (t : Tok) (s : Shared) (Q : Value → Shared → Prop) (E : Value → Shared → Prop), Q (.int (g i) s.toks) { s with toks := s.toks + 1 } → wpAny (model X.prog X.w) X.A (f (.int i t)) Q E s) :
  UnR X f (rU fun i => .int (g i)) := by
 intro pins s σ H x v Q I rx h
 obtain ⟨i, rfl, q⟩ := h
 obtain ⟨t, rfl⟩ := rx
 exact rule i t s _ _ ⟨.int (g i), H, I.tok _, ⟨_, rfl⟩, q⟩
theorem un_neg : UnR X (unaryOp .USub) (rU fun i => .int (-i)) := unI fun _ _ _ _ _ q => neg_int q
end
def scal : V → V → Bool
 | .non, .non => true | .non, .int _ => true | .int _, .non => true | .non, .bl _ => true | .bl _, .non => true | .non, .str _ => true | .str _, .non => true
 | .int _, .int _ => true | .bl _, .bl _ => true | .str _, .str _ => true | .byt _, .byt _ => true
 | .int _, .str _ => true | .str _, .int _ => true | .bl _, .str _ => true | .str _, .bl _ => true
 | _, _ => false
def rEq : R2 := fun x y H Q => scal x y = true ∧ Q (.bl (decide (x = y))) H
def rNe : R2 := fun x y H Q => scal x y = true ∧ Q (.bl (!decide (x = y))) H
theorem dec_int {i j : Int} : decide (V.int i = V.int j) = (i == j) := by
 rw [Bool.eq_iff_iff]
 simp
theorem dec_bl {i j : Bool} : decide (V.bl i = V.bl j) = (i == j) := by
 rw [Bool.eq_iff_iff]
 simp
theorem dec_str {i j : Str} : decide (V.str i = V.str j) = (i == j) := by
 rw [Bool.eq_iff_iff]
 simp
theorem dec_byt {i j : Array UInt8} : decide (V.byt i = V.byt j) = (i.toList == j.toList) := by
 rw [Bool.eq_iff_iff]
 cases i
 cases j
 simp
section
variable {X : Cx} {a b c : Expr} {ta tb tc : TE} {pos : Pos}
theorem fin_bl {pins : List (Addr × Obj)} {σ : St} {H : Hp} {s : Shared} {Q : VK} {k k' : Bool} (I : Inv X pins σ H s) (q : Q (.bl k) H) (e : k = k') : EP X pins σ Q (.bool k') s := by
 subst e
 exact ⟨.bl k, H, I, rfl, q⟩
theorem op_eq : OpR X (compareOp .Eq) rEq := by
 intro pins s σ H x y v u Q I rx ry h
 obtain ⟨hs, q⟩ := h
 cases x with
 | non =>
  cases rx
  cases y with
  | non => cases ry; exact PySem.EqNone.eq_none_none (fin_bl I q (by simp))
  | bl j => cases ry; exact PySem.EqNone.eq_none_bool (fin_bl I q (by simp))
  | int j => obtain ⟨t', rfl⟩ := ry; exact PySem.EqNone.eq_none_int (fin_bl I q (by simp))
  | str j => obtain ⟨t', rfl⟩ := ry; exact PySem.EqNone.eq_none_str (fin_bl I q (by simp))
  | _ => exact absurd (show false = true from hs) Bool.false_ne_true
 | bl i =>
  cases rx
  cases y with
  | non => cases ry; exact PySem.EqNone.eq_bool_none (fin_bl I q (by simp))
  | bl j => cases ry; exact eq_bool (fin_bl I q dec_bl)
  | str j => obtain ⟨t', rfl⟩ := ry; exact PySem.EqMixed.eq_bool_str (fin_bl I q (by simp))
  | _ => exact absurd (show false = true from hs) Bool.false_ne_true
 | int i =>
  obtain ⟨t, rfl⟩ := rx
  cases y with
  | non => cases ry; exact PySem.EqNone.eq_int_none (fin_bl I q (by simp))
  | int j => obtain ⟨t', rfl⟩ := ry; exact eq_int (fin_bl I q dec_int)
  | str j => obtain ⟨t', rfl⟩ := ry; exact PySem.EqMixed.eq_int_str (fin_bl I q (by simp))
  | _ => exact absurd (show false = true from hs) Bool.false_ne_true
 | str i =>
  obtain ⟨t, rfl⟩ := rx
  cases y with
  | non => cases ry; exact PySem.EqNone.eq_str_none (fin_bl I q (by simp))
  | bl j => cases ry; exact PySem.EqMixed.eq_str_bool (fin_bl I q (by simp))
  | int j => obtain ⟨t', rfl⟩ := ry; exact PySem.EqMixed.eq_str_int (fin_bl I q (by simp))
  | str j => obtain ⟨t', rfl⟩ := ry; exact eq_str (fin_bl I q dec_str)
  | _ => exact absurd (show false = true from hs) Bool.false_ne_true
 | byt i =>
  obtain ⟨t, rfl⟩ := rx
  cases y with
  | byt j => obtain ⟨t', rfl⟩ := ry; exact PySem.W.eq_bytes (fin_bl I q dec_byt)
  | _ => exact absurd (show false = true from hs) Bool.false_ne_true
 | _ => cases y <;> exact absurd (show false = true from hs) Bool.false_ne_true
theorem op_ne : OpR X (compareOp .NotEq) rNe := by
 intro pins s σ H x y v u Q I rx ry h
 obtain ⟨hs, q⟩ := h
 cases x with
 | non =>
  cases rx
  cases y with
  | non => cases ry; exact PySem.EqNone.ne_none_none (fin_bl I q (by simp))
  | bl j => cases ry; exact PySem.EqNone.ne_none_bool (fin_bl I q (by simp))
  | int j => obtain ⟨t', rfl⟩ := ry; exact PySem.EqNone.ne_none_int (fin_bl I q (by simp))
  | str j => obtain ⟨t', rfl⟩ := ry; exact PySem.EqNone.ne_none_str (fin_bl I q (by simp))
  | _ => exact absurd (show false = true from hs) Bool.false_ne_true
 | bl i =>
  cases rx
  cases y with
  | non => cases ry; exact PySem.EqNone.ne_bool_none (fin_bl I q (by simp))
  | bl j => cases ry; exact ne_bool (fin_bl I q (congrArg not dec_bl))
  | str j => obtain ⟨t', rfl⟩ := ry; exact PySem.EqMixed.ne_bool_str (fin_bl I q (by simp))
  | _ => exact absurd (show false = true from hs) Bool.false_ne_true
 | int i =>
  obtain ⟨t, rfl⟩ := rx
  cases y with
  | non => cases ry; exact PySem.EqNone.ne_int_none (fin_bl I q (by simp))
  | int j => obtain ⟨t', rfl⟩ := ry; exact ne_int (fin_bl I q (congrArg not dec_int))
  | str j => obtain ⟨t', rfl⟩ := ry; exact PySem.EqMixed.ne_int_str (fin_bl I q (by simp))
  | _ => exact absurd (show false = true from hs) Bool.false_ne_true
 | str i =>
  obtain ⟨t, rfl⟩ := rx
  cases y with
  | non => cases ry; exact PySem.EqNone.ne_str_none (fin_bl I q (by simp))
  | bl j => cases ry; exact PySem.EqMixed.ne_str_bool (fin_bl I q (by simp))
  | int j => obtain ⟨t', rfl⟩ := ry; exact PySem.EqMixed.ne_str_int (fin_bl I q (by simp))
  | str j => obtain ⟨t', rfl⟩ := ry; exact ne_str (fin_bl I q (congrArg not dec_str))
  | _ => exact absurd (show false = true from hs) Bool.false_ne_true
 | byt i =>
  obtain ⟨t, rfl⟩ := rx
  cases y with
  | byt j => obtain ⟨t', rfl⟩ := ry; exact PySem.W.ne_bytes (fin_bl I q (congrArg not dec_byt))
  | _ => exact absurd (show false = true from hs) Bool.false_ne_true
 | _ => cases y <;> exact absurd (show false = true from hs) Bool.false_ne_true
theorem op_lt : OpR X (compareOp .Lt) (rI0 fun i j => .bl (decide (i < j))) := opB0 fun _ _ _ _ _ _ _ q => lt_int q
theorem op_le : OpR X (compareOp .LtE) (rI0 fun i j => .bl (decide (i ≤ j))) := opB0 fun _ _ _ _ _ _ _ q => le_int q
theorem op_gt : OpR X (compareOp .Gt) (rI0 fun i j => .bl (decide (j < i))) := opB0 fun _ _ _ _ _ _ _ q => gt_int q
theorem nomark (b : Expr) {op : CmpOp} (h : op ≠ .In := by decide) (h2 : op ≠ .NotIn := by decide) : behindInMarks op b = false := by
 have e1 : (op == CmpOp.In) = false := by cases op <;> first | rfl | exact absurd rfl h
 have e2 : (op == CmpOp.NotIn) = false := by cases op <;> first | rfl | exact absurd rfl h2
 cases b <;> simp [behindInMarks, e1, e2]
theorem pe_cmpR {op : CmpOp} {r : R2} (ho : OpR X (compareOp op) r) (ha : PE X a ta) (hb : PE X b tb) (hm : behindInMarks op b = false) : PE X (.Compare a [op] [b] pos) (tOp r ta tb) := by
 intro pins s σ H Q I h
 exact wpAny_Compare1 (binT ha hb I h fun v u s2 x y H2 I2 rx ry q => ho pins s2 σ H2 x y v u Q I2 rx ry q) hm
def tTest (t : TE) : TT := fun σ H Q => t σ H fun x H' => ∃ k, x = .bl k ∧ Q k H'
theorem pt_cmpR {op : CmpOp} {r : R2} (ho : OpR X (compareOp op) r) (ha : PE X a ta) (hb : PE X b tb) (hm : behindInMarks op b = false) : PT X (.Compare a [op] [b] pos) (tTest (tOp r ta tb)) := by
 intro pins s σ H Q I h
 refine wpAny_isTrue_Compare1 (thn (ha pins s σ H _ I h) fun v s1 ⟨x, H1, I1, r1, q1⟩ => thn (hb pins s1 σ H1 _ I1 q1) fun u s2 ⟨y, H2, I2, r2, q2⟩ =>
  thn (ho pins s2 σ H2 x y v u _ I2 r1 r2 q2) fun c s3 ⟨z, H3, I3, r3, k, e, q3⟩ => ?_) hm
 subst e
 cases r3
 exact wpAny_truthy_bool ⟨H3, I3, q3⟩
def tChain (r r' : R2) (ta tb tc : TE) : TE := fun σ H Q => ta σ H fun x H1 => tb σ H1 fun y H2 => r x y H2 fun z H3 => ∃ k, z = .bl k ∧
 (if k = true then tc σ H3 fun w' H4 => r' y w' H4 Q else Q (.bl false) H3)
theorem pe_chain {op op' : CmpOp} {r r' : R2} (ho : OpR X (compareOp op) r) (ho' : OpR X (compareOp op') r') (ha : PE X a ta) (hb : PE X b tb) (hc : PE X c tc)
  (hm : lastMarks [op, op'] [b, c] = false := by with_unfolding_all rfl) : PE X (.Compare a [op, op'] [b, c] pos) (tChain r r' ta tb tc) := by
 intro pins s σ H Q I h
 refine Compare_chain (thn (ha pins s σ H _ I h) fun v s1 ⟨x, H1, I1, r1, q1⟩ => chain_link (thn (hb pins s1 σ H1 _ I1 q1) fun u s2 ⟨y, H2, I2, r2, q2⟩ =>
  thn (ho pins s2 σ H2 x y v u _ I2 r1 r2 q2) fun d s3 ⟨z, H3, I3, r3, k, e, q3⟩ => ?_)) hm
 subst e
 cases r3
 refine wpAny_truthy_bool ?_
 cases k with
 | false => exact ite_ff ⟨.bl false, H3, I3, rfl, q3⟩
 | true => exact ite_tt (chain_last (thn (hc pins s3 σ H3 _ I3 q3) fun w' s4 ⟨z', H4, I4, r4, q4⟩ => ho' pins s4 σ H4 y z' u w' Q I4 r2 r4 q4))
theorem line63 : (sizeLine : Nat) < 2 ^ 63 := by rw [sizeLine_eq]; decide
theorem vals1 {x : V} {us : List Value} (r : Vals [x] us) : ∃ u, us = [u] ∧ RelV x u := by
 cases r with
 | cons r1 r2 => cases r2; exact ⟨_, rfl, r1⟩
theorem call_abs : CallR X (.builtin "abs") (fun xs H Q => ∃ i, xs = [.int i] ∧ Q (.int (if i < 0 then -i else i)) H) := by
 intro pins s σ H xs us Q I r h
 obtain ⟨i, rfl, q⟩ := h
 obtain ⟨u, rfl, t, rfl⟩ := vals1 r
 exact call_abs_int fun u tk => ⟨.int (if i < 0 then -i else i), H, I.tok _, ⟨_, rfl⟩, q⟩
end
end L2
namespace L2
open PySem PySem.Spec PyProof.Rows
structure ObjM (h : Heap) (x dx C : Addr) (mA : Str → Option Value) : Prop where
 obj : h.get? x = some (PySem.W.instObj C dx)
 ns : h.Ns1 dx mA
 ne : dx ≠ x
theorem lookIn_ns {h : Heap} {dx : Addr} {mA : Str → Option Value} (n : h.Ns1 dx mA) : ∃ od, h.get? dx = some od ∧ ∀ name, PySem.W.lookIn name od = some (mA name) := by
 obtain ⟨o, es, ep, ho, hd, hk, _, hm⟩ := n
 refine ⟨o, ho, fun name => ?_⟩
 have e := hm name
 unfold nsFind findBy at e
 rw [← Array.find?_toList] at e
 unfold PySem.W.lookIn
 rw [hd]
 dsimp only
 split
 ·rename_i y q
  rw [q] at e
  exact congrArg some e
 ·rename_i q
  rw [q] at e
  have a : es.toList.any (·.refKey) = false := by
   rw [List.any_eq_false]
   intro y hy
   obtain ⟨z, t, hkey⟩ := hk y (Array.mem_toList_iff.mp hy)
   simp [DictEntry.refKey, hkey]
  have a' : ¬ es.toList.any (·.refKey) = true := by rw [a]; exact Bool.false_ne_true
  rw [if_neg a']
  exact congrArg some e
theorem ObjM.look {h : Heap} {x dx C : Addr} {mA : Str → Option Value} (I : ObjM h x dx C mA) : ∃ od, PySem.W.InstAt h x (PySem.W.instObj C dx) C (some od) ∧ ∀ name, PySem.W.lookIn name od = some (mA name) :=
 let ⟨od, ho, hl⟩ := lookIn_ns I.ns
 ⟨od, ⟨I.obj, rfl, rfl, ho⟩, hl⟩
section
variable {prog : Program} {w : World} {A : Around} {E : Value → Shared → Prop} {s : Shared} {K : PySem.W.Frag} {x dx C f : Addr} {mA : Str → Option Value} {name : Str} {v : Value}
theorem get_map {expr : Bool} {Q : Value → Shared → Prop} (X : K.In s.heap) (I : ObjM s.heap x dx C mA) (hg : PySem.W.plainGet K C name = true) (hh : PySem.W.hasDictIn K C = true)
  (ha : PySem.W.findIn K (.ref C) name = some none) (hv : mA name = some v) (hv' : PySem.W.handedIn v = true) (h : Q v { s with toks := s.toks + 1 }) :
  wpAny (model prog w) A (getAttr (.ref x) name expr) Q E s := by
 obtain ⟨od, J, hl⟩ := I.look
 exact PySem.W.get_value X J (PySem.W.plainGet_of hg).1 (PySem.W.findObj_own hh ha rfl (by rw [hl, hv])) hv' h
theorem get_meth {pl : Sem Bool} {Q : Value × List Value → Shared → Prop} (X : K.In s.heap) (I : ObjM s.heap x dx C mA) (hg : PySem.W.plainGet K C name = true)
  (hf : PySem.W.findIn K (.ref C) name = some (some (.ref f))) (ht : PySem.W.isFn K (.ref f) = true) (hv : mA name = none) (h : Q (.ref f, [.ref x]) s) :
  wpAny (model prog w) A (getMethod (.ref x) name pl) Q E s := by
 obtain ⟨od, J, hl⟩ := I.look
 exact PySem.W.method_fn X J (PySem.W.plainGet_of hg).1 (PySem.W.plainGet_of hg).2 hf (beq_iff_eq.mp ht) (by show (PySem.W.lookIn name od).map (·.isSome) = some false; rw [hl, hv]; rfl) h
theorem set_map {ns : List Str} {Q : Unit → Shared → Prop} (X : K.In s.heap) (I : ObjM s.heap x dx C mA)
  (hs : PySem.W.findIn K (.ref C) "__setattr__" = some (some (.builtin "object.__setattr__"))) (hp : PySem.W.plainOver K C = true) (ht : PySem.W.takerIn K C name = some none) (hh : PySem.W.hasDictIn K C = true)
  (hw : PySem.Within mA ns) (hsz : ns.length ≤ sizeLine)
  (h : ∀ h', ObjM h' x dx C (fun y => if y = name then some v else mA y) → Heap.SameBut dx s.heap h' → Q () { s with heap := h', toks := s.toks + 2 }) :
  wpAny (model prog w) A (setAttr (.ref x) name v) Q E s := by
 obtain ⟨od, J, hl⟩ := I.look
 refine PySem.W.set_plain X J hs (PySem.W.osa_open (s := { s with toks := s.toks + 1 }) (r := none) X J hp ht fun b => ?_)
 obtain ⟨cd, hc, hd'⟩ := PySem.W.any_some hh
 have hx : s.heap.get? x = some ⟨.ref C, some dx, .plain, #[]⟩ := I.obj
 refine wpAny_bind (wpAny_pure (wpAny_bind (wpAny_bind (wpAny_loadPart hx (wpAny_bind (PySem.W.Looks.here (s := { s with toks := s.toks + 1 }) (PySem.W.looks_clsIn X hc) ?_))))))
 rw [hd']
 refine wpAny_pure (a := some dx) (wpAny_bind (wpAny_pure (wpAny_bind ?_)))
 refine wpAny_nsSet1 (s := { s with toks := s.toks + 1 }) I.ns fun h' hn2 hs2 => ?_
 obtain ⟨oD, esD, epD, hoD, hdD, hcD⟩ := hn2.count (PySem.Within.cons name v hw)
 refine wpAny_bind (wpAny_lookBehind hoD (by rw [hdD]; exact pastItsLine_dict (Nat.le_trans hcD (by rw [List.length_cons]; omega))) ?_)
 exact wpAny_pure (h _ ⟨(hs2.2 _ (Ne.symm I.ne)).trans I.obj, hn2, I.ne⟩ hs2)
theorem make_map {R : Result → Shared → Prop} {vs : List Value} {kw : List (Str × Value)} (X : K.In s.heap) (hm : PySem.W.makesIn K C = true)
  (hi : PySem.W.findIn K (.ref C) "__init__" = some (some (.ref f))) (hf : PySem.W.typeIn K (.ref f) = some (.type "function"))
  (h : codeAny (model prog w) (A.under (.builtin "type.__call__" ⟨.ref C :: vs, kw⟩)) (.call (.ref f) ⟨.ref (s.heap.objs.size + 1) :: vs, kw⟩) (PySem.W.InitBack (s.heap.objs.size + 1) R)
   { s with heap := (s.heap.push PySem.W.emptyDict).push (PySem.W.instObj C s.heap.objs.size) }) :
  codeAny (model prog w) A (.call (.ref C) ⟨vs, kw⟩) R s := by
 obtain ⟨hh, g, d, t, os⟩ := s
 exact PySem.W.make_core (PySem.W.makes_of X hm) (PySem.W.looks_findIn X hi) (fun self => PySem.W.bind_fn X self hf) (.inl rfl) h
end
def putF (f : Str) (v : V) : List (Str × V) → List (Str × V)
 | [] => [(f, v)]
 | (g, x) :: r => if g = f then (g, v) :: r else (g, x) :: putF f v r
theorem lookup_putF (f g : Str) (v : V) : ∀ fs : List (Str × V), (putF f v fs).lookup g = if g = f then some v else fs.lookup g
 | [] => by
  show List.lookup g [(f, v)] = _
  by_cases h : g = f
  ·have hb : (g == f) = true := beq_iff_eq.mpr h
   simp only [List.lookup, hb, if_pos h]
  ·have hb : (g == f) = false := beq_eq_false_iff_ne.mpr h
   simp only [List.lookup, hb, if_neg h]
 | (k, x) :: r => by
  have ih := lookup_putF f g v r
  rw [show putF f v ((k, x) :: r) = (if k = f then (k, v) :: r else (k, x) :: putF f v r) from rfl]
  by_cases hk : k = f
  ·rw [if_pos hk]
   by_cases h : g = k
   ·have hb : (g == k) = true := beq_iff_eq.mpr h
    simp only [List.lookup, hb, if_pos (h.trans hk)]
   ·have hb : (g == k) = false := beq_eq_false_iff_ne.mpr h
    simp only [List.lookup, hb, if_neg (fun e : g = f => h (e.trans hk.symm))]
  ·rw [if_neg hk]
   by_cases h : g = k
   ·have hb : (g == k) = true := beq_iff_eq.mpr h
    simp only [List.lookup, hb, if_neg (fun e : g = f => hk (h.symm.trans e))]
   ·have hb : (g == k) = false := beq_eq_false_iff_ne.mpr h
    simp only [List.lookup, hb]
    exact ih
theorem keys_putF (f : Str) (v : V) : ∀ fs : List (Str × V), f ∈ (putF f v fs).map (·.1) ∧ ∀ g, g ∈ fs.map (·.1) → g ∈ (putF f v fs).map (·.1)
 | [] => ⟨by simp [putF], fun g h => by simp at h⟩
 | (k, x) :: r => by
  obtain ⟨i1, i2⟩ := keys_putF f v r
  rw [show putF f v ((k, x) :: r) = (if k = f then (k, v) :: r else (k, x) :: putF f v r) from rfl]
  by_cases hk : k = f
  ·rw [if_pos hk]
   subst hk
   exact ⟨by simp, fun g h => by simpa using h⟩
  ·rw [if_neg hk]
   refine ⟨?_, fun g h => ?_⟩
   ·rw [List.map_cons]
    exact List.mem_cons_of_mem _ i1
   ·rw [List.map_cons] at h ⊢
    rcases List.mem_cons.mp h with e | e
    ·exact List.mem_cons.mpr (.inl e)
    ·exact List.mem_cons_of_mem _ (i2 g e)
theorem length_putF (f : Str) (v : V) : ∀ fs : List (Str × V), (putF f v fs).length ≤ fs.length + 1
 | [] => by simp [putF]
 | (k, x) :: r => by
  have ih := length_putF f v r
  rw [show putF f v ((k, x) :: r) = (if k = f then (k, v) :: r else (k, x) :: putF f v r) from rfl]
  by_cases hk : k = f
  ·rw [if_pos hk, List.length_cons, List.length_cons]; omega
  ·rw [if_neg hk, List.length_cons, List.length_cons]; omega
theorem RelO.some_of {v : V} {o : Option Value} (r : RelO (some v) o) : ∃ u, o = some u ∧ RelV v u := by
 cases o with
 | none => exact (show False from r).elim
 | some u => exact ⟨u, rfl, r⟩
theorem RelO.none_of {o : Option Value} (r : RelO none o) : o = none := by
 cases o with
 | none => rfl
 | some u => exact (show False from r).elim
theorem handed_of {v : V} {u : Value} (r : RelV v u) : PySem.W.handedIn u = true := by
 cases v with
 | non => cases (show u = Value.none from r); rfl
 | bl b => cases (show u = Value.bool b from r); rfl
 | int i => obtain ⟨t, e⟩ := (show ∃ t, u = Value.int i t from r); cases e; rfl
 | str x => obtain ⟨t, e⟩ := (show ∃ t, u = Value.str x t from r); cases e; rfl
 | byt b => obtain ⟨t, e⟩ := (show ∃ t, u = Value.bytes b t from r); cases e; rfl
 | flt b => obtain ⟨t, e⟩ := (show ∃ t, u = Value.float b t from r); cases e; rfl
 | ref a => cases (show u = Value.ref a from r); rfl
 | ty n => cases (show u = Value.type n from r); rfl
section
variable {P : Program} {w : World} {H H' : Hp} {h h' : Heap} {a C dx : Addr} {fs fs' : List (Str × V)}
theorem ins_get (hok : HOk P w H h) (e : H a = some (.ins C dx fs)) : ∃ mA, ObjM h a dx C mA ∧ (∀ f, RelO (fs.lookup f) (mA f)) ∧ PySem.Within mA (fs.map (·.1)) ∧ fs.length ≤ 1000 ∧ H dx = some (.own a) := by
 obtain ⟨d, z, ne, ob, mA, n, r, q⟩ := (show ObjOk P w H h a (.ins C dx fs) from hok a _ e)
 exact ⟨mA, ⟨ob, n, ne⟩, r, q, z, d⟩
end
structure Cls (K : PySem.W.Frag) (C : Addr) : Prop where
 pg : PySem.W.plainGet K C Str.empty = true
 hd : PySem.W.hasDictIn K C = true
 po : PySem.W.plainOver K C = true
 sa : PySem.W.findIn K (.ref C) "__setattr__" = some (some (.builtin "object.__setattr__"))
theorem Cls.get {K : PySem.W.Frag} {C : Addr} (c : Cls K C) (f : Str) : PySem.W.plainGet K C f = true := c.pg
def NoAttr (K : PySem.W.Frag) (C : Addr) (f : Str) : Prop := PySem.W.findIn K (.ref C) f = some none
theorem NoAttr.taker {K : PySem.W.Frag} {C : Addr} {f : Str} (n : NoAttr K C f) : PySem.W.takerIn K C f = some none := by
 unfold PySem.W.takerIn
 rw [show PySem.W.findIn K (.ref C) f = some none from n]
 rfl
structure Con (K : PySem.W.Frag) (C : Addr) (f : Str) (v : V) (u : Value) : Prop where
 at_ : PySem.W.findIn K (.ref C) f = some (some u)
 rel : RelV v u
 get : PySem.W.specialIn K u "__get__" = some none
 cp : PySem.W.copiedNames.contains f = false
structure Meth (K : PySem.W.Frag) (C : Addr) (m : Str) (f : Addr) : Prop where
 at_ : PySem.W.findIn K (.ref C) m = some (some (.ref f))
 fn : PySem.W.isFn K (.ref f) = true
 kp : PySem.W.keepIn K (.ref f) = true
section
variable {X : Cx} {pins : List (Addr × Obj)} {σ : St} {H : Hp} {s : Shared} {a C dx : Addr} {fs : List (Str × V)} {f : Str} {v : V} {A : Around} {E : Value → Shared → Prop}
theorem getattr_ok {b : Bool} {Q : Value → Shared → Prop} (I : Inv X pins σ H s) (e : H a = some (.ins C dx fs)) (c : Cls X.K C) (n : NoAttr X.K C f) (l : fs.lookup f = some v)
  (h : ∀ u s', Inv X pins σ H s' → RelV v u → Q u s') : wpAny (model X.prog X.w) A (getAttr (.ref a) f b) Q E s := by
 obtain ⟨mA, O, r, _, _, _⟩ := ins_get I.hok e
 obtain ⟨u, hu, ru⟩ := RelO.some_of (v := v) (o := mA f) (by rw [← l]; exact r f)
 exact get_map I.kIn O (c.get f) c.hd n hu (handed_of ru) (h u _ (I.tok _) ru)
theorem getmeth_ok {m : Str} {g : Addr} {pl : Sem Bool} {Q : Value × List Value → Shared → Prop} (I : Inv X pins σ H s) (e : H a = some (.ins C dx fs)) (c : Cls X.K C) (k : Meth X.K C m g) (l : fs.lookup m = none)
  (h : Q (.ref g, [.ref a]) s) : wpAny (model X.prog X.w) A (getMethod (.ref a) m pl) Q E s := by
 obtain ⟨mA, O, r, _, _, _⟩ := ins_get I.hok e
 have hn : mA m = none := RelO.none_of (by rw [← l]; exact r m)
 exact get_meth I.kIn O (c.get m) k.at_ k.fn hn h
theorem setattr_ok {y : V} {u : Value} {Q : Unit → Shared → Prop} (I : Inv X pins σ H s) (e : H a = some (.ins C dx fs)) (c : Cls X.K C) (n : NoAttr X.K C f) (hl : fs.length < 1000) (ry : RelV y u)
  (h : ∀ s', Inv X pins σ (upd H a (.ins C dx (putF f y fs))) s' → Q () s') : wpAny (model X.prog X.w) A (setAttr (.ref a) f u) Q E s := by
 obtain ⟨mA, O, r, wi, _, ho⟩ := ins_get I.hok e
 have hz : (fs.map (·.1)).length ≤ sizeLine := by rw [List.length_map, sizeLine_eq]; omega
 refine set_map I.kIn O c.sa c.po n.taker c.hd wi hz fun h' O' sb => h _ ?_
 have hd : ∃ o, h'.get? dx = some o := let ⟨o, _, _, e', _⟩ := O'.ns; ⟨o, e'⟩
 refine I.write (x := a) (e := dx) (by rw [e]; exact True.intro) (.inr ho) (fun b q hb z => (sb.2 b hb).trans z) hd ?_
 refine ⟨by rw [upd_ne O.ne]; exact ho, ?_, O.ne, O'.obj, _, O'.ns, fun g => ?_, fun g hg => ?_⟩
 ·have := length_putF f y fs; omega
 ·show RelO ((putF f y fs).lookup g) (if g = f then some u else mA g)
  rw [lookup_putF]
  by_cases q : g = f
  ·rw [if_pos q, if_pos q]; exact ry
  ·rw [if_neg q, if_neg q]; exact r g
 ·by_cases q : g = f
  ·rw [q]; exact (keys_putF f y fs).1
  ·refine (keys_putF f y fs).2 g (wi g fun z => hg ?_)
   show (if g = f then some u else mA g) = none
   rw [if_neg q]; exact z
theorem Inv.made (I : Inv X pins σ H s) : Inv X pins σ (upd (upd H s.heap.objs.size (.own (s.heap.objs.size + 1))) (s.heap.objs.size + 1) (.ins C s.heap.objs.size []))
  { s with heap := (s.heap.push PySem.W.emptyDict).push (PySem.W.instObj C s.heap.objs.size) } := by
 have e1 : (s.heap.push PySem.W.emptyDict).get? s.heap.objs.size = some PySem.W.emptyDict := Heap.get?_push_size s.heap rfl
 have e2 : ((s.heap.push PySem.W.emptyDict).push (PySem.W.instObj C s.heap.objs.size)).get? (s.heap.objs.size + 1) = some (PySem.W.instObj C s.heap.objs.size) := by
  have := Heap.get?_push_size (s.heap.push PySem.W.emptyDict) (o := PySem.W.instObj C s.heap.objs.size) rfl
  rwa [Heap.size_push] at this
 have e3 : (s.heap.push PySem.W.emptyDict).Ns s.heap.objs.size (fun _ => none) := ⟨PySem.W.emptyDict, #[], _, e1, rfl, (fun e he => absurd he (by simp)), fun _ => rfl⟩
 have I1 := I.laid (a := s.heap.objs.size) (o := .own (s.heap.objs.size + 1)) (h' := s.heap.push PySem.W.emptyDict) (t' := s.toks) (fun b u q => Heap.get?_push_of_some _ q) (Nat.le_refl _) ⟨_, e1⟩
 refine I1.laid (a := s.heap.objs.size + 1) (o := .ins C s.heap.objs.size []) (t' := s.toks) (fun b u q => Heap.get?_push_of_some _ q) (Nat.le_of_eq (Heap.size_push _ _)) ?_
 have ne : s.heap.objs.size ≠ s.heap.objs.size + 1 := Nat.ne_of_lt (Nat.lt_succ_self _)
 refine ⟨by rw [upd_ne ne, upd_same], Nat.zero_le _, ne, e2, fun _ => none, (Heap.Ns1.of_empty e3).at fun o q => Heap.get?_push_of_some _ q, fun _ => True.intro, fun y hy => absurd rfl hy⟩
theorem attr_of {prog : Program} {w : World} {env : Env} {e : Expr} {f : Str} {pos : Pos} {s : Shared} {Q : Value → Shared → Prop} (hb : attributeBase e f env (eval e env) = eval e env)
  (h : wpAny (model prog w) A (eval e env) (fun o s₁ => wpAny (model prog w) A (getAttr o f true) Q E s₁) E s) : wpAny (model prog w) A (eval (.Attribute e f pos) env) Q E s :=
 Attribute_any_ h (by rw [arm_eval_Attribute, hb])
end
def tFld (K : PySem.W.Frag) (ta : TE) (f : Str) : TE := fun σ H Q => ta σ H fun x H1 => ∃ a C dx fs v, x = .ref a ∧ H1 a = some (.ins C dx fs) ∧ Cls K C ∧ NoAttr K C f ∧ fs.lookup f = some v ∧ Q v H1
def sFld (K : PySem.W.Frag) (ta tv : TE) (f : Str) : TS := fun D σ H => tv σ H fun y H1 => ta σ H1 fun x H2 => ∃ a C dx fs, x = .ref a ∧ H2 a = some (.ins C dx fs) ∧ Cls K C ∧ NoAttr K C f ∧ fs.length < 1000 ∧
 D.nx σ (upd H2 a (.ins C dx (putF f y fs)))
section
variable {X : Cx} {o e value : Expr} {f : Str} {pos pos' tpos : Pos} {ta tv : TE}
theorem pe_fld (he : PE X e ta) (hb : attributeBase e f X.env (eval e X.env) = eval e X.env) : PE X (.Attribute e f pos) (tFld X.K ta f) := by
 intro pins s σ H Q I h
 refine attr_of hb (thn (he pins s σ H _ I h) fun u s1 ⟨x, H1, I1, rx, a, C, dx, fs, v, ex, ea, c, n, l, q⟩ => ?_)
 subst ex
 obtain rfl : u = Value.ref a := rx
 exact getattr_ok I1 ea c n l fun u' s2 I2 ru => ⟨v, H1, I2, ru, q⟩
theorem ps_fld (ha : PE X o ta) (hv : PE X value tv) (hs : swapsWith value (some (.Attribute o f pos')) pos.line X.env = pure false) : PS X (.Assign [.Attribute o f pos'] value pos) (sFld X.K ta tv f) := by
 intro pins s σ H D I h
 refine plainObj_wpAny_Assign_Attribute (thn (hv pins s σ H _ I h) fun u s1 ⟨y, H1, I1, ry, q⟩ => thn (ha pins s1 σ H1 _ I1 q) fun ov s2 ⟨x, H2, I2, rx, a, C, dx, fs, ex, ea, c, n, l, q2⟩ => ?_) hs
 subst ex
 obtain rfl : ov = Value.ref a := rx
 exact setattr_ok I2 ea c n l ry fun s3 I3 => ⟨σ, _, I3, q2⟩
end
section
variable {X : Cx} {pins : List (Addr × Obj)} {σ : St} {H : Hp} {s : Shared} {A : Around} {E : Value → Shared → Prop} {Q : Value → Shared → Prop} {c : Value} {b : Bool}
inductive TyOf (K : PySem.W.Frag) (H : Hp) : V → Value → Prop where
  | non : TyOf K H .non (.type "NoneType")
  | bl (x : Bool) : TyOf K H (.bl x) (.type "bool")
  | int (i : Int) : TyOf K H (.int i) (.type "int")
  | str (x : Str) : TyOf K H (.str x) (.type "str")
  | flt (x : UInt64) : TyOf K H (.flt x) (.type "float")
  | lst {a : Addr} {xs : List V} (e : H a = some (.lst xs)) : TyOf K H (.ref a) (.type "list")
  | frz {a : Addr} {o : Obj} {xs : List V} (e : H a = some (.frz o (.lst xs))) : TyOf K H (.ref a) (.type "list")
  | tup {a : Addr} {xs : List V} (e : H a = some (.tup xs)) : TyOf K H (.ref a) (.type "tuple")
  | dK {a : Addr} {kvs : List (Key × V)} (e : H a = some (.dK kvs)) : TyOf K H (.ref a) (.type "dict")
  | dT {a : Addr} {kvs : List (List Key × V)} (e : H a = some (.dT kvs)) : TyOf K H (.ref a) (.type "dict")
  | ins {a C dx : Addr} {fs : List (Str × V)} (e : H a = some (.ins C dx fs)) (cl : Cls K C) (ha : PySem.W.findIn K (.ref C) "__class__" = some (some (.builtin "object.__class__")))
      (hn : PySem.W.specialIn K (.builtin "object.__class__") "__get__" = some (some (.builtin "getset_descriptor.__get__"))) (htk : PySem.W.takesIn K (.builtin "object.__class__") = some true)
      (hm : PySem.W.mroIn K C (.type "object") = some true) : TyOf K H (.ref a) (.ref C)
theorem isinst_ok {x : V} {u t : Value} (I : Inv X pins σ H s) (rx : RelV x u) (ty : TyOf X.K H x t) (e : PySem.W.kitOne X.K t c = some b) (h : ∀ tk, Q (.bool b) { s with toks := tk }) :
  wpAny (model X.prog X.w) A (call (.builtin "isinstance") [u, c]) Q E s := by
 cases ty with
 | non => cases (show u = Value.none from rx); exact PySem.W.kia_one PySem.W.kitx_none I.kIn True.intro e (fun z => nomatch z) h
 | bl y => cases (show u = Value.bool y from rx); exact PySem.W.kia_one PySem.W.kitx_bool I.kIn True.intro e (fun z => nomatch z) h
 | int i => obtain ⟨t, q⟩ := (show ∃ t, u = Value.int i t from rx); cases q; exact PySem.W.kia_one PySem.W.kitx_int I.kIn True.intro e (fun z => nomatch z) h
 | str y => obtain ⟨t, q⟩ := (show ∃ t, u = Value.str y t from rx); cases q; exact PySem.W.kia_one PySem.W.kitx_str I.kIn True.intro e (fun z => nomatch z) h
 | flt y => obtain ⟨t, q⟩ := (show ∃ t, u = Value.float y t from rx); cases q; exact PySem.W.kia_one PySem.W.kitx_float I.kIn True.intro e (fun z => nomatch z) h
 | @lst a xs ea =>
  cases (show u = Value.ref a from rx)
  obtain ⟨_, _, n, _, h1⟩ := (show ObjOk X.prog X.w H s.heap a (.lst xs) from I.hok a _ ea)
  exact PySem.W.kia_one PySem.W.kitx_list I.kIn ⟨_, h1, rfl⟩ e (fun z => nomatch z) h
 | @frz a ob xs ea =>
  cases (show u = Value.ref a from rx)
  obtain ⟨_, _, _, n, _, h1⟩ := (show ObjOk X.prog X.w H s.heap a (.frz ob (.lst xs)) from I.hok a _ ea)
  exact PySem.W.kia_one PySem.W.kitx_list I.kIn ⟨_, h1, rfl⟩ e (fun z => nomatch z) h
 | @tup a xs ea =>
  cases (show u = Value.ref a from rx)
  obtain ⟨_, _, _, p⟩ := (show ObjOk X.prog X.w H s.heap a (.tup xs) from I.hok a _ ea)
  obtain ⟨o, h1, h2, _⟩ := p
  exact PySem.W.kia_one PySem.W.kitx_tuple I.kIn ⟨o, h1, h2⟩ e (fun z => nomatch z) h
 | @dK a kvs ea =>
  cases (show u = Value.ref a from rx)
  obtain ⟨_, _, vs, _, p⟩ := (show ObjOk X.prog X.w H s.heap a (.dK kvs) from I.hok a _ ea)
  obtain ⟨o, es, ep, h1, h2, _⟩ := p
  exact PySem.W.kia_one PySem.W.kitx_dict I.kIn ⟨o, h1, h2.1⟩ e (fun z => nomatch z) h
 | @dT a kvs ea =>
  cases (show u = Value.ref a from rx)
  obtain ⟨_, _, xs, _, o, es, ep, h1, h2, _⟩ := (show ObjOk X.prog X.w H s.heap a (.dT kvs) from I.hok a _ ea)
  exact PySem.W.kia_one PySem.W.kitx_dict I.kIn ⟨o, h1, h2.1⟩ e (fun z => nomatch z) h
 | @ins a C dx fs ea cl ha hn htk hm =>
  cases (show u = Value.ref a from rx)
  obtain ⟨mA, O, _⟩ := ins_get I.hok ea
  obtain ⟨od, J, _⟩ := O.look
  exact PySem.W.kia_one (PySem.W.kitx_own (cl.get _) cl.hd ha hn htk hm) I.kIn J e (fun z => nomatch z) h
end
end L2
namespace L2
open PySem PySem.Spec PyProof.Rows
structure Room (k : Nat) (A : Around) : Prop where
 hd : A.handled = none
 dp : A.depth + 3 * k + 5 < recursionLimit
 un : A.units + 16 * k + 200 < cLine
theorem Room.mono {j k : Nat} {A : Around} (r : Room k A) (h : j ≤ k) : Room j A := ⟨r.hd, by have := r.dp; omega, by have := r.un; omega⟩
theorem Room.deeper {k : Nat} {A : Around} (r : Room (k + 1) A) (env : Env) : Room k (A.deeper env) :=
 ⟨r.hd, by have := r.dp; show A.depth + 1 + 3 * k + 5 < _; omega, by have := r.un; show A.units + 3 + 16 * k + 200 < _; omega⟩
theorem make_depth {A : Around} {C : Addr} {us : List Value} {kw : List (Str × Value)} : (A.under (.builtin "type.__call__" ⟨.ref C :: us, kw⟩)).depth = A.depth + 1 := by
 first | rfl | simp [Around.under, Code.weight, Code.isCreation, Code.isGuard, Code.isCaller, Code.frames, Code.isFrame, guardIds]
theorem make_units {A : Around} {C : Addr} {us : List Value} {kw : List (Str × Value)} : (A.under (.builtin "type.__call__" ⟨.ref C :: us, kw⟩)).units = A.units + 1 := by
 first | rfl | simp [Around.under, Code.cUnits, Code.frames, Code.isFrame]
theorem Room.make {k : Nat} {A : Around} (r : Room (k + 1) A) (C : Addr) (us : List Value) (kw : List (Str × Value)) : Room k (A.under (.builtin "type.__call__" ⟨.ref C :: us, kw⟩)) :=
 ⟨r.hd, by have := r.dp; rw [make_depth]; omega, by have := r.un; rw [make_units]; omega⟩
theorem Room.depth {k : Nat} {A : Around} (r : Room k A) : A.depth < recursionLimit := by have := r.dp; omega
theorem Room.units {k : Nat} {A : Around} (r : Room k A) : A.units + 64 < cLine := by have := r.un; omega
def tNil : TA := fun _ H Q => Q [] H
def tCons (ta : TE) (tr : TA) : TA := fun σ H Q => ta σ H fun x H1 => tr σ H1 fun xs H2 => Q (x :: xs) H2
section
variable {X : Cx} {e : Expr} {es : List Expr} {te : TE} {t : TA} {pos : Pos}
theorem pa_nil : PA X [] tNil := fun _ _ _ _ H Q I h => Calls.spliced_nil ⟨[], H, I, .nil, h⟩
theorem pa_cons (ha : PE X e te) (hr : PA X es t) (hs : starEach (e :: es) X.env = (false, eval e X.env) :: starEach es X.env := by rfl) : PA X (e :: es) (tCons te t) := by
 intro pos pins s σ H Q I h
 rw [hs]
 show wpAny _ _ (spliced ((false, eval e X.env) :: backTo pos (starEach es X.env))) _ _ s
 refine Calls.spliced_cons (thn (ha pins s σ H _ I h) fun u s1 ⟨x, H1, I1, r1, q1⟩ => ?_)
 exact thn (hr pos pins s1 σ H1 _ I1 q1) fun us s2 ⟨xs, H2, I2, r2, q2⟩ => ⟨x :: xs, H2, I2, .cons r1 r2, q2⟩
def tTup (t : TA) : TE := fun σ H Q => t σ H fun xs H1 => xs.length ≤ sizeLine ∧ ∀ p, H1 p = none → Q (.ref p) (upd H1 p (.tup xs))
def tLst (t : TA) : TE := fun σ H Q => t σ H fun xs H1 => xs.length ≤ sizeLine ∧ ∀ p, H1 p = none → Q (.ref p) (upd H1 p (.lst xs))
theorem pe_tup {x1} (h : PA X es t) : PE X (.Tuple es x1 pos) (tTup t) := by
 intro pins s σ H Q I hq
 refine wpAny_Tuple_spliced (thn (h pos pins s σ H _ I hq) fun us s1 ⟨xs, H1, I1, r, z, q⟩ => ⟨by rw [← r.length]; exact z, ?_⟩)
 have hf : H1 s1.heap.objs.size = none := I1.hok.fresh (Nat.le_refl _)
 refine ⟨.ref s1.heap.objs.size, upd H1 s1.heap.objs.size (.tup xs), I1.laid (t' := s1.toks) (fun b u e => Heap.get?_push_of_some _ e) (Nat.le_refl _) ?_, rfl, q _ hf⟩
 exact ⟨z, us, r, ⟨_, Heap.get?_push_size _ rfl, rfl, _, rfl⟩⟩
theorem pe_lst (h : PA X es t) : PE X (.List es pos) (tLst t) := by
 intro pins s σ H Q I hq
 refine wpAny_List_spliced (thn (h pos pins s σ H _ I hq) fun us s1 ⟨xs, H1, I1, r, z, q⟩ => ⟨by rw [← r.length]; exact z, ?_⟩)
 have hf : H1 s1.heap.objs.size = none := I1.hok.fresh (Nat.le_refl _)
 refine ⟨.ref s1.heap.objs.size, upd H1 s1.heap.objs.size (.lst xs), I1.laid (t' := s1.toks) (fun b u e => Heap.get?_push_of_some _ e) (Nat.le_refl _) ?_, rfl, q _ hf⟩
 exact ⟨z, us, 0, r, Heap.get?_push_size _ rfl⟩
end
abbrev Sp := List V → Hp → VK → XK → Prop
abbrev CXT := List Env → Hp → Shared → XK → Value → Shared → Prop
structure Env0 (P : Program) (w : World) (K : PySem.W.Frag) (mg : Str → Option Value) (base : Heap) (A : Around) (outer : List Env) (s : Shared) (H : Hp) : Prop where
 frames : A.frames = some outer
 mod : Mod K mg base
 bs : ∀ b o, base.get? b = some o → s.heap.get? b = some o ∧ H b = none
 bsz : base.objs.size ≤ s.heap.objs.size
 funs : s.heap.FunFrames base outer
 frf : ∀ b ∈ frs outer, H b = none
 hok : HOk P w H s.heap
 bare : AllBare s.gens
def CE (outer : List Env) (P : Program) (w : World) (H : Hp) (s : Shared) (Q : VK) (u : Value) (s' : Shared) : Prop :=
 ∃ v H', s'.os = s.os ∧ AllBare s'.gens ∧ Un (frs outer) [] H H' s.heap s'.heap ∧ HOk P w H' s'.heap ∧ RelV v u ∧ Q v H'
def CR (CX : CXT) (outer : List Env) (P : Program) (w : World) (H : Hp) (s : Shared) (Q : VK) (E : XK) (r : Result) (s' : Shared) : Prop :=
 match r with
 | .ok (.ret u) => CE outer P w H s Q u s'
 | .ok _ => False
 | .error e => CX outer H s E e s'
structure FnOk (P : Program) (w : World) (K : PySem.W.Frag) (mg : Str → Option Value) (base : Heap) (CX : CXT) (k : Nat) (f : Addr) (fd : FuncData) (ps : List Str) (sp : Sp) : Prop where
 len : ∀ vs H Q E, sp vs H Q E → vs.length = ps.length
 run : ∀ (A : Around) (outer : List Env) (s : Shared) (H : Hp) (args : Args) (us : List Value) (vs : List V) (Q : VK) (E : XK), Room k A → Env0 P w K mg base A outer s H → BindsTo s fd args (ps.zip us) → Vals vs us → sp vs H Q E →
  codeAny (model P w) A (.call (.ref f) args) (CR CX outer P w H s Q E) s
theorem Env0.make {P : Program} {w : World} {K : PySem.W.Frag} {mg : Str → Option Value} {base : Heap} {A : Around} {outer : List Env} {s : Shared} {H : Hp} (e : Env0 P w K mg base A outer s H) (C : Addr) (us : List Value) (kw : List (Str × Value)) :
  Env0 P w K mg base (A.under (.builtin "type.__call__" ⟨.ref C :: us, kw⟩)) outer s H := ⟨by first | exact e.frames | (simpa [Around.under, Code.envs, Code.isFrame, pushEnvs] using e.frames), e.mod, e.bs, e.bsz, e.funs, e.frf, e.hok, e.bare⟩
section
variable {X : Cx} {pins : List (Addr × Obj)} {σ : St} {H : Hp} {s s' : Shared}
theorem Inv.env0 (I : Inv X pins σ H s) : Env0 X.prog X.w X.K X.mg X.base X.A X.stack s H :=
 ⟨I.ok.frames, I.ok.mod, I.bs, Nat.le_trans I.ok.bsz I.sz, I.stack, I.stkFree, I.hok, I.bare⟩
theorem Inv.after {Q : VK} {u : Value} (I : Inv X pins σ H s) (h : CE X.stack X.prog X.w H s Q u s') : EP X pins σ Q u s' := by
 obtain ⟨v, H', os, bare, un, hok, r, q⟩ := h
 obtain ⟨hh, g, d, t, os'⟩ := s'
 obtain rfl : os' = s.os := os
 exact ⟨v, H', I.call (h' := hh) (g' := g) (d' := d) (t' := t) (ch := []) un hok bare (fun b z => absurd z (by simp)), r, q⟩
end
def tCall (sp : Sp) (dvs : List V) (E : XK) (t : TA) : TE := fun σ H Q => t σ H fun vs H1 => sp (vs ++ dvs) H1 Q E
def tMeth (C : Addr) (m : Str) (sp : Sp) (dvs : List V) (E : XK) (ta : TE) (t : TA) : TE := fun σ H Q => ta σ H fun x H1 => ∃ a dx fs, x = .ref a ∧ H1 a = some (.ins C dx fs) ∧ fs.lookup m = none ∧
 t σ H1 fun vs H2 => sp (x :: (vs ++ dvs)) H2 Q E
def tMake (C : Addr) (sp : Sp) (dvs : List V) (E : XK) (t : TA) : TE := fun σ H Q => t σ H fun vs H1 => ∀ x dx, H1 x = none → H1 dx = none → dx ≠ x →
 sp (.ref x :: (vs ++ dvs)) (upd (upd H1 dx (.own x)) x (.ins C dx [])) (fun v H2 => v = .non ∧ Q (.ref x) H2) E
def Binds (K : PySem.W.Frag) (fd : FuncData) (ps : List Str) (ds : List Value) : Prop :=
 ∀ (s : Shared) (us : List Value), K.In s.heap → (us ++ ds).length = ps.length → BindsTo s fd ⟨us, []⟩ (ps.zip (us ++ ds))
theorem Binds.all {K : PySem.W.Frag} {fd : FuncData} {ps : List Str} (h : ∀ us : List Value, us.length = ps.length → bindArgs fd ⟨us, []⟩ = pure (ps.zip us)) : Binds K fd ps [] := fun s us _ hl => by
 rw [List.append_nil] at hl ⊢
 exact .of_eq (h us hl)
def Passes (CX : CXT) (X : Cx) (E : XK) : Prop := ∀ (pins : List (Addr × Obj)) (σ : St) (H : Hp) (s : Shared) (e : Value) (s' : Shared), Inv X pins σ H s → CX X.stack H s E e s' → X.xe e s'
section
variable {X : Cx} {CX : CXT} {k : Nat} {f C : Addr} {fd : FuncData} {ps : List Str} {sp : Sp} {dvs : List V} {ds : List Value} {E : XK} {x m : Str} {p pos apos : Pos} {e o : Expr} {es : List Expr} {ta : TE} {t : TA}
theorem run_fn {pins : List (Addr × Obj)} {σ : St} {H : Hp} {s : Shared} {Q : VK} {us : List Value} {vs : List V} (F : FnOk X.prog X.w X.K X.mg X.base CX k f fd ps sp) (hr : Room k X.A) (hb : Binds X.K fd ps ds) (hd : Vals dvs ds) (hx : Passes CX X E)
  (I : Inv X pins σ H s) (r : Vals vs us) (h : sp (vs ++ dvs) H Q E) : wpAny (model X.prog X.w) X.A (call (.ref f) us) (EP X pins σ Q) X.xe s := by
 have r2 : Vals (vs ++ dvs) (us ++ ds) := r.append hd
 have hl : (us ++ ds).length = ps.length := by rw [← r2.length]; exact F.len _ _ _ _ h
 refine wpAny_call (codeAny_mono (F.run X.A X.stack s H ⟨us, []⟩ (us ++ ds) (vs ++ dvs) Q E hr I.env0 (hb s us I.kIn hl) r2 h) fun r s' hq => ?_)
 cases r with
 | error e => exact hx pins σ H s e s' I hq
 | ok fl =>
  cases fl with
  | ret u => exact I.after hq
  | next => exact False.elim hq
  | brk => exact False.elim hq
  | cont => exact False.elim hq
theorem pe_call (F : FnOk X.prog X.w X.K X.mg X.base CX k f fd ps sp) (hr : Room k X.A) (hg : Gl X x) (hm : X.mg x = some (.ref f)) (hk : PySem.W.keepIn X.K (.ref f) = true) (hb : Binds X.K fd ps ds) (hd : Vals dvs ds) (hx : Passes CX X E)
  (ha : PA X (e :: es) t) (hdb : (x == ("__debug__" : Str)) = false := by decide) (he : starEach (e :: es) X.env = (false, eval e X.env) :: starEach es X.env := by rfl) (hpl : (backTo pos (starEach es X.env)).any (·.1) = false := by rfl) :
  PE X (.Call (.Name x p) (e :: es) [] pos) (tCall sp dvs E t) := by
 intro pins s σ H Q I h
 refine wpAny_Call_Name_kw (ld_glob I hg hm ?_ hdb)
 refine PySem.W.callWith_K (h₀ := X.base) I.ok.mod.kin hk (thn (ha pos pins s σ H _ I h) fun us s1 ⟨vs, H1, I1, r, q⟩ => ⟨I1.kIn, ?_⟩) he hpl
 exact run_fn F hr hb hd hx I1 r q
theorem pe_meth {pl : Sem Bool} (he : PE X o ta) (c : Cls X.K C) (hm : Meth X.K C m f) (F : FnOk X.prog X.w X.K X.mg X.base CX k f fd ps sp) (hr : Room k X.A) (hb : Binds X.K fd ps ds) (hd : Vals dvs ds) (hx : Passes CX X E) (ha : PA X (e :: es) t)
  (hst : starEach (e :: es) X.env = (false, eval e X.env) :: starEach es X.env := by rfl) (hpl : (backTo pos (starEach es X.env)).any (·.1) = false := by rfl)
  (ht : eval (.Call (.Attribute o m apos) (e :: es) [] pos) X.env = (do
   let ov ← eval o X.env
   standAt apos.atName
   let (f, first) ← holding [ov] (getMethod ov m pl)
   callWith pos f first (backTo pos (starEach (e :: es) X.env)) (backToKw pos (keywordEach [] X.env))) := by rfl) :
  PE X (.Call (.Attribute o m apos) (e :: es) [] pos) (tMeth C m sp dvs E ta t) := by
 intro pins s σ H Q I h
 refine PySem.W.methodCall_KW (pl := pl) (thn (he pins s σ H _ I h) fun u s1 ⟨x, H1, I1, rx, a, dx, fs, ex, ea, l, q⟩ => ?_) ht
 subst ex
 obtain rfl : u = Value.ref a := rx
 refine getmeth_ok I1 ea c hm l ?_
 refine PySem.W.callWith_K (first := [.ref a]) (h₀ := X.base) I.ok.mod.kin hm.kp (thn (ha pos pins s1 σ H1 _ I1 q) fun us s2 ⟨vs, H2, I2, r, q2⟩ => ⟨I2.kIn, ?_⟩) hst hpl
 exact run_fn (us := .ref a :: us) (vs := .ref a :: vs) F hr hb hd hx I2 (.cons rfl r) q2
theorem pe_meth0 {pl : Sem Bool} (he : PE X o ta) (c : Cls X.K C) (hm : Meth X.K C m f) (F : FnOk X.prog X.w X.K X.mg X.base CX k f fd ps sp) (hr : Room k X.A) (hb : Binds X.K fd ps ds) (hd : Vals dvs ds) (hx : Passes CX X E)
  (ht : eval (.Call (.Attribute o m apos) [] [] pos) X.env = (do
   let ov ← eval o X.env
   standAt apos.atName
   let (f, first) ← holding [ov] (getMethod ov m pl)
   callWith pos f first (backTo pos (starEach [] X.env)) (backToKw pos (keywordEach [] X.env))) := by rfl) :
  PE X (.Call (.Attribute o m apos) [] [] pos) (tMeth C m sp dvs E ta tNil) := by
 intro pins s σ H Q I h
 refine PySem.W.methodCall_KW (pl := pl) (thn (he pins s σ H _ I h) fun u s1 ⟨x, H1, I1, rx, a, dx, fs, ex, ea, l, q⟩ => ?_) ht
 subst ex
 obtain rfl : u = Value.ref a := rx
 refine getmeth_ok I1 ea c hm l ?_
 exact PySem.W.callWith_K0 (first := [.ref a]) I1.kIn hm.kp (run_fn (us := [.ref a]) (vs := [.ref a]) F hr hb hd hx I1 (.cons rfl .nil) q)
structure Mk (K : PySem.W.Frag) (C f : Addr) : Prop where
 makes : PySem.W.makesIn K C = true
 init : PySem.W.findIn K (.ref C) "__init__" = some (some (.ref f))
 fn : PySem.W.isFn K (.ref f) = true
 kp : PySem.W.keepIn K (.ref C) = true
theorem run_make {pins : List (Addr × Obj)} {σ : St} {H : Hp} {s : Shared} {Q : VK} {us : List Value} {vs : List V} (M : Mk X.K C f) (F : FnOk X.prog X.w X.K X.mg X.base CX k f fd ps sp) (hr : Room (k + 1) X.A) (hb : Binds X.K fd ps ds) (hd : Vals dvs ds)
  (hx : Passes CX X E) (I : Inv X pins σ H s) (r : Vals vs us)
  (h : ∀ x dx, H x = none → H dx = none → dx ≠ x → sp (.ref x :: (vs ++ dvs)) (upd (upd H dx (.own x)) x (.ins C dx [])) (fun v H2 => v = .non ∧ Q (.ref x) H2) E) :
  wpAny (model X.prog X.w) X.A (call (.ref C) us) (EP X pins σ Q) X.xe s := by
 have hq := h (s.heap.objs.size + 1) s.heap.objs.size (I.hok.fresh (Nat.le_succ _)) (I.hok.fresh (Nat.le_refl _)) (Nat.ne_of_lt (Nat.lt_succ_self _))
 have I2 := Inv.made (C := C) I
 have r2 : Vals (V.ref (s.heap.objs.size + 1) :: (vs ++ dvs)) (Value.ref (s.heap.objs.size + 1) :: (us ++ ds)) := .cons rfl (r.append hd)
 have hl : (Value.ref (s.heap.objs.size + 1) :: us ++ ds).length = ps.length := by
  have e := r2.length
  rw [F.len _ _ _ _ hq] at e
  exact e.symm
 refine wpAny_call (make_map (f := f) I.kIn M.makes M.init (beq_iff_eq.mp M.fn) (codeAny_mono (F.run _ X.stack _ _ ⟨Value.ref (s.heap.objs.size + 1) :: us, []⟩ (Value.ref (s.heap.objs.size + 1) :: (us ++ ds)) _ _ E (hr.make C us [])
  (I2.env0.make C us []) (hb _ (Value.ref (s.heap.objs.size + 1) :: us) I2.kIn hl) r2 hq) fun r s' hq' => ?_))
 cases r with
 | error e => exact hx pins σ _ _ e s' I2 hq'
 | ok fl =>
  cases fl with
  | ret u =>
   obtain ⟨v, H', I3, rv, ev, q3⟩ := I2.after hq'
   subst ev
   exact ⟨rv, ⟨V.ref (s.heap.objs.size + 1), H', I3, rfl, q3⟩⟩
  | next => exact False.elim hq'
  | brk => exact False.elim hq'
  | cont => exact False.elim hq'
theorem pe_make (M : Mk X.K C f) (F : FnOk X.prog X.w X.K X.mg X.base CX k f fd ps sp) (hr : Room (k + 1) X.A) (hg : Gl X x) (hm : X.mg x = some (.ref C)) (hb : Binds X.K fd ps ds) (hd : Vals dvs ds) (hx : Passes CX X E)
  (ha : PA X (e :: es) t) (hdb : (x == ("__debug__" : Str)) = false := by decide) (he : starEach (e :: es) X.env = (false, eval e X.env) :: starEach es X.env := by rfl) (hpl : (backTo pos (starEach es X.env)).any (·.1) = false := by rfl) :
  PE X (.Call (.Name x p) (e :: es) [] pos) (tMake C sp dvs E t) := by
 intro pins s σ H Q I h
 refine wpAny_Call_Name_kw (ld_glob I hg hm ?_ hdb)
 refine PySem.W.callWith_K (h₀ := X.base) I.ok.mod.kin M.kp (thn (ha pos pins s σ H _ I h) fun us s1 ⟨vs, H1, I1, r, q⟩ => ⟨I1.kIn, ?_⟩) he hpl
 exact run_make M F hr hb hd hx I1 r q
end
section
variable {X : Cx} {CX : CXT} {k : Nat} {f C : Addr} {fd : FuncData} {ps ks : List Str} {sp : Sp} {E : XK} {x m : Str} {p pos apos kpos : Pos} {e o : Expr} {es : List Expr} {kws : List Keyword} {te ta : TE} {t tk : TA} {nm : Option Str}
variable {g : List Value → List Value → List Value} {gV : List V → List V → List V}
end
structure FnScope (N P : List Str) (sc : Scope) : Prop where
 kind : sc.kind = .function
 co : sc.isCoroutine = false
 gen : sc.isGenerator = false
 nd : N.Nodup
 pre : N.take P.length = P
 par : ∀ x ∈ P, sc.names.lookup x = some .local ∨ sc.names.lookup x = some .cell
 nofree : ∀ y ∈ sc.names, y.2 ≠ .free
theorem bindL_out {kindOf : Str → Option NameKind} {x : Str} : ∀ {binds : List (Str × Value)} {m : Str → Option Value}, (∀ v, (x, v) ∉ binds) → bindL kindOf binds m x = m x
 | [], _, _ => rfl
 | (n, v) :: r, m, h => by
  unfold bindL
  rw [bindL_out fun w hw => h w (List.mem_cons_of_mem _ hw)]
  split
  ·have : x ≠ n := by rintro rfl; exact h v List.mem_cons_self
   simp [this]
  ·rfl
theorem bindC_out {kindOf : Str → Option NameKind} {x : Str} : ∀ {binds : List (Str × Value)} {m : Str → Option Value}, (∀ v, (x, v) ∉ binds) → bindC kindOf binds m x = m x
 | [], _, _ => rfl
 | (n, v) :: r, m, h => by
  unfold bindC
  rw [bindC_out fun w hw => h w (List.mem_cons_of_mem _ hw)]
  split
  ·rfl
  ·have : x ≠ n := by rintro rfl; exact h v List.mem_cons_self
   simp [this]
theorem bindL_get {kindOf : Str → Option NameKind} {x : Str} {v : Value} : ∀ {P : List Str} {vs : List Value} {i : Nat} {m : Str → Option Value}, P.Nodup → P[i]? = some x → vs[i]? = some v → kindOf x = some .local →
  bindL kindOf (P.zip vs) m x = some v
 | [], _, _, _, _, h, _, _ => by simp at h
 | _ :: _, [], _, _, _, _, h, _ => by simp at h
 | p :: P, w :: vs, 0, m, nd, h1, h2, hk => by
  simp at h1 h2; subst h1; subst h2
  show bindL kindOf ((p, w) :: P.zip vs) m p = _
  unfold bindL
  rw [bindL_out fun v hv => (List.nodup_cons.mp nd).1 (List.of_mem_zip hv).1, if_pos hk]
  simp
 | p :: P, w :: vs, i + 1, m, nd, h1, h2, hk => by
  show bindL kindOf ((p, w) :: P.zip vs) m x = _
  unfold bindL
  exact bindL_get (i := i) (List.nodup_cons.mp nd).2 (by simpa using h1) (by simpa using h2) hk
theorem bindC_get {kindOf : Str → Option NameKind} {x : Str} {v : Value} : ∀ {P : List Str} {vs : List Value} {i : Nat} {m : Str → Option Value}, P.Nodup → P[i]? = some x → vs[i]? = some v → kindOf x ≠ some .local →
  bindC kindOf (P.zip vs) m x = some v
 | [], _, _, _, _, h, _, _ => by simp at h
 | _ :: _, [], _, _, _, _, h, _ => by simp at h
 | p :: P, w :: vs, 0, m, nd, h1, h2, hk => by
  simp at h1 h2; subst h1; subst h2
  show bindC kindOf ((p, w) :: P.zip vs) m p = _
  unfold bindC
  rw [bindC_out fun v hv => (List.nodup_cons.mp nd).1 (List.of_mem_zip hv).1, if_neg hk]
  simp
 | p :: P, w :: vs, i + 1, m, nd, h1, h2, hk => by
  show bindC kindOf ((p, w) :: P.zip vs) m x = _
  unfold bindC
  exact bindC_get (i := i) (List.nodup_cons.mp nd).2 (by simpa using h1) (by simpa using h2) hk
def start (N : List Str) (vs : List V) : St := vs.map some ++ List.replicate (N.length - vs.length) none
def cxOf (CX : CXT) (P : Program) (w : World) (K : PySem.W.Frag) (mg : Str → Option Value) (base : Heap) (N : List Str) (qual : Str) (scope : Scope) (f : Addr) (cd : Value) (A : Around) (outer : List Env) (s : Shared) (H : Hp) (E : XK) : Cx where
 prog := P
 w := w
 K := K
 mg := mg
 base := base
 A := A.deeper (envOfC qual scope s.heap.objs.size f cd)
 N := N
 s₀ := s
 H₀ := H
 env := envOfC qual scope s.heap.objs.size f cd
 outer := outer
 stack := envOfC qual scope s.heap.objs.size f cd :: outer
 ex := []
 calm := true
 fn := fun _ => true
 pn := []
 xe := fun e s' => wpAny (model P w) (A.deeper (envOfC qual scope s.heap.objs.size f cd)) (leaving (envOfC qual scope s.heap.objs.size f cd) e) (fun _ s'' => CX outer H s E e s'') (fun e' s'' => CX outer H s E e' s'') s'
theorem cell_has {sc : Scope} {n : Nat} {x : Str} (h : sc.names.lookup x = some .cell) : ∃ c, (cellsFrom n sc.names []).lookup x = some c := by
 have q := PySem.W.cellsFrom_some sc.names n [] (.inl h)
 exact Option.isSome_iff_exists.mp q
theorem inv_start {CX : CXT} {P : Program} {w : World} {K : PySem.W.Frag} {mg : Str → Option Value} {base : Heap} {N ps : List Str} {qual : Str} {scope : Scope} {f : Addr} {cd : Value} {A : Around} {outer : List Env} {s s1 : Shared} {H : Hp} {E : XK} {us : List Value} {vs : List V}
    (S : FnScope N ps scope) (hd : A.handled = none) (e0 : Env0 P w K mg base A outer s H) (hl : vs.length = ps.length) (r : Vals vs us)
    (x : InCallC s s.heap.objs.size (bindL (envOfC qual scope s.heap.objs.size f cd).kindOf (ps.zip us) fun _ => none) (cellsFrom (s.heap.objs.size + 1) scope.names []) (bindC (envOfC qual scope s.heap.objs.size f cd).kindOf (ps.zip us) fun _ => none) s1) :
    Inv (cxOf CX P w K mg base N qual scope f cd A outer s H E) [] (start N vs) H s1 := by
  have hpl : ps.length ≤ N.length := by have := congrArg List.length S.pre; rw [List.length_take] at this; omega
  obtain ⟨h1, tk, rfl, hk⟩ := x.done
  have noA : ∀ b : Addr, b ∉ (cxOf CX P w K mg base N qual scope f cd A outer s H E).ex := fun b z => absurd (show b ∈ ([] : List Addr) from z) (by simp)
  refine ⟨⟨e0.mod, S.kind, rfl, rfl, Nat.le_refl _, fun y z c h1 h2 => ?_, fun y hy => ?_, fun y c _ h => ?_, fun _ => hd, Around.frames_deeper e0.frames, .inr ⟨rfl, rfl⟩, fun b z => absurd z (noA b), e0.bs, e0.bsz, fun b _ _ => noA b, fun b z => absurd z (noA b), e0.funs, e0.frf⟩,
    rfl, e0.bare, Un.kept hk, ⟨_, x.toInCall.ns, fun i y v h1 h2 h3 => ?_⟩, fun y c h => ⟨_, x.cell y c h⟩, e0.hok.fresh (Nat.le_refl _), fun y c h => ?_, fun p hp => absurd (show p ∈ ([] : List (Addr × Obj)) from hp) (by simp), e0.hok.kept hk, ?_⟩
  · exact name_of_addr x.apart (PySem.mem_of_lookup h1) (PySem.mem_of_lookup h2)
  · have hy : scope.names.lookup y = some .cell ∨ scope.names.lookup y = some .free := hy
    rcases hy with hy | hy
    · exact cell_has hy
    · exact absurd rfl (S.nofree _ (PySem.mem_of_lookup hy))
  · exact Nat.le_of_lt (x.above y c (PySem.mem_of_lookup h))
  · have hi : i < vs.length := by
      unfold start at h2
      by_cases hi : i < vs.length
      · exact hi
      · rw [List.getElem?_append_right (by simpa using hi)] at h2
        rw [List.getElem?_replicate] at h2
        split at h2 <;> cases h2
    have ha : vs[i]? = some v := by
      unfold start at h2
      rw [List.getElem?_append_left (by simpa using hi), List.getElem?_map] at h2
      cases e : vs[i]? with
      | none => rw [e] at h2; cases h2
      | some a => rw [e] at h2; cases h2; rfl
    obtain ⟨u, hu, rv⟩ := r.get ha
    have hp : ps[i]? = some y := by
      rw [← S.pre, List.getElem?_take_of_lt (by omega)]; exact h1
    have ndP : ps.Nodup := by rw [← S.pre]; exact S.nd.sublist (List.take_sublist _ _)
    refine ⟨u, rv, ?_⟩
    rcases S.par y (List.mem_of_getElem? hp) with k | k
    · exact .inl ⟨k, bindL_get ndP hp hu k⟩
    · obtain ⟨c, e⟩ := cell_has (n := s.heap.objs.size + 1) k
      refine .inr ⟨.inl k, c, e, ?_⟩
      have q := x.cell y c e
      rw [bindC_get ndP hp hu (by show scope.names.lookup y ≠ _; rw [k]; decide)] at q
      exact q
  · exact e0.hok.fresh (Nat.le_of_lt (x.above y c (PySem.mem_of_lookup h)))
  · unfold start
    show _ = N.length
    rw [List.length_append, List.length_map, List.length_replicate]
    omega
theorem fn_of {CX : CXT} {P : Program} {w : World} {K : PySem.W.Frag} {mg : Str → Option Value} {base : Heap} {k : Nat} {f : Addr} {name qual : Str} {params : Arguments} {body : List Stmt} {scope : Scope} {dV kV doc pm cdv ct oc : Value} {an od : Option Addr}
  {osl : Array (Option Value)} {N ps : List Str} {sp : Sp} (lk : K.lookup f = some ⟨oc, od, .func (PySem.W.fnOf name qual params body scope dV kV doc pm an cdv ct), osl⟩) (hcd : PySem.W.codeIn K cdv qual = true) (S : FnScope N ps scope)
  (len : ∀ vs H Q E, sp vs H Q E → vs.length = ps.length)
  (hbody : ∀ (A : Around) (outer : List Env) (s : Shared) (H : Hp) (vs : List V) (Q : VK) (E : XK), Room k (A.deeper (envOfC qual scope s.heap.objs.size f cdv)) → sp vs H Q E →
   ∃ t, PSs (cxOf CX P w K mg base N qual scope f cdv A outer s H E) body t ∧ t { nx := fun _ H' => Q .non H', rt := Q } (start N vs) H) :
  FnOk P w K mg base CX (k + 1) f (PySem.W.fnOf name qual params body scope dV kV doc pm an cdv ct) ps sp := by
 refine ⟨len, fun A outer s H args us vs Q E hr e0 hb r hsp => ?_⟩
 have hl := len _ _ _ _ hsp
 have KX : K.In s.heap := e0.mod.kin.keeps fun b o e => (e0.bs b o e).1
 have lim : s.heap.NoLimit := e0.mod.nolimit.keeps fun b o e => (e0.bs b o e).1
 have hkind : ∀ y ∈ ps.zip us, scope.names.lookup y.1 = some .local ∨ (scope.names.lookup y.1 = some .cell ∧ ((cellsFrom (s.heap.objs.size + 1) scope.names []).lookup y.1).isSome = true) := fun ⟨n, v⟩ hy => by
  rcases S.par n (List.of_mem_zip hy).1 with q | q
  ·exact .inl q
  ·exact .inr ⟨q, PySem.W.cellsFrom_some _ _ _ (.inl q)⟩
 refine codeAny_call_function hr.depth (KX _ _ lk) rfl S.co S.gen rfl (PySem.W.codeRec_of KX hcd) (hb _ _ _ _ ?_)
 refine wpAny_newFunctionEnv_cells S.kind hkind fun env he s1 x => ?_
 subst he
 refine ⟨lim.keeps x.toInCall.keep, codeAny_func ?_⟩
 obtain ⟨t, ht, hq⟩ := hbody A outer s H vs Q E (hr.deeper _) hsp
 have I : Inv (cxOf CX P w K mg base N qual scope f cdv A outer s H E) [] (start N vs) H s1 := inv_start S hr.hd e0 hl r x
 refine wpAny_mono (ht [] s1 (start N vs) H _ I hq) (fun fl s' hs => ?_) fun e s' hs => hs
 have fin : ∀ {σ' : St} {H' : Hp} {v : V} {u : Value}, Inv (cxOf CX P w K mg base N qual scope f cdv A outer s H E) [] σ' H' s' → RelV v u → Q v H' → CE outer P w H s Q u s' :=
  fun {σ' H' v u} J rv q => ⟨v, H', J.os, J.bare, J.base, J.hok, rv, q⟩
 cases fl with
 | ret u =>
  obtain ⟨v, σ', H', J, rv, q⟩ := hs
  exact fin J rv q
 | next =>
  obtain ⟨σ', H', J, q⟩ := hs
  exact fin (v := V.non) (u := Value.none) J rfl q
 | brk =>
  obtain ⟨_, _, _, q⟩ := hs
  exact False.elim q
 | cont =>
  obtain ⟨_, _, _, q⟩ := hs
  exact False.elim q
end L2
namespace L2
open PySem PySem.Spec PyProof.Rows
section
variable {X : Cx} {x : Str} {p pos : Pos} {e : Expr} {es : List Expr} {t : TA} {id T : String} {r : List V → Hp → VK → Prop}
def tCB (r : List V → Hp → VK → Prop) (t : TA) : TE := fun σ H Q => t σ H fun vs H1 => r vs H1 Q
theorem pe_callB (hc : CallR X (.builtin id) r) (hg : Gl X x) (hm : X.mg x = none) (hv : bootBuiltins x = some (.builtin id)) (ha : PA X (e :: es) t) (hn : x ≠ "__name__" := by decide) (hdb : (x == ("__debug__" : Str)) = false := by decide)
  (he : starEach (e :: es) X.env = (false, eval e X.env) :: starEach es X.env := by rfl) (hpl : (backTo pos (starEach es X.env)).any (·.1) = false := by rfl) : PE X (.Call (.Name x p) (e :: es) [] pos) (tCB r t) := by
 intro pins s σ H Q I h
 refine wpAny_Call_Name_kw (ld_blt I hg hm hv ?_ hn hdb)
 exact PyProof.Rows.callWith_builtin1 (thn (ha pos pins s σ H _ I h) fun us s1 ⟨vs, H1, I1, r1, q1⟩ => hc pins s1 σ H1 vs us Q I1 r1 q1) he hpl
theorem pe_callTy (hc : CallR X (.type T) r) (hg : Gl X x) (hm : X.mg x = none) (hv : bootBuiltins x = some (.type T)) (ha : PA X (e :: es) t) (hn : x ≠ "__name__" := by decide) (hdb : (x == ("__debug__" : Str)) = false := by decide)
  (he : starEach (e :: es) X.env = (false, eval e X.env) :: starEach es X.env := by rfl) (hpl : (backTo pos (starEach es X.env)).any (·.1) = false := by rfl) : PE X (.Call (.Name x p) (e :: es) [] pos) (tCB r t) := by
 intro pins s σ H Q I h
 refine wpAny_Call_Name_kw (ld_blt I hg hm hv ?_ hn hdb)
 exact PyProof.Rows.callWith_type1 (thn (ha pos pins s σ H _ I h) fun us s1 ⟨vs, H1, I1, r1, q1⟩ => hc pins s1 σ H1 vs us Q I1 r1 q1) he hpl
end
end L2
namespace HT
open PySem PyProof.Rows
section
open PySem.SeqAt
open PySem.AutoSeq1 (wpAny_loadPart')
open PySem.MeetsSeq PySem.MeetsSeq2 PySem.MeetsSeq3
end
section
variable {prog : Program} {w : World} {A : Around} {E : Value → Shared → Prop} {s : Shared}
def sIx (n d : Nat) : Option Int → Nat
 | none => d
 | some v => if v < 0 then (v + (n : Int)).toNat else min v.toNat n
theorem sIx_none (n d : Nat) : sIx n d none = d := rfl
theorem sIx_nat (n d k : Nat) : sIx n d (some (k : Int)) = min k n := by
 show (if (k : Int) < 0 then ((k : Int) + (n : Int)).toNat else min (k : Int).toNat n) = min k n
 rw [if_neg (by omega), Int.toNat_natCast]
end
end HT
namespace L2
open PySem PySem.Spec PyProof.Rows
abbrev TO := St → Hp → (Option Int → Hp → Prop) → Prop
def PO (X : Cx) (e : Option Expr) (t : TO) : Prop :=
 ∀ (pins : List (Addr × Obj)) (s : Shared) (σ : St) (H : Hp) (Q : Option Int → Hp → Prop), Inv X pins σ H s → t σ H Q →
  wpAny (model X.prog X.w) X.A (evalPart e X.env) (fun u s' => ∃ o H', Inv X pins σ H' s' ∧ IsPart u o ∧ Q o H') X.xe s
def tNoPart : TO := fun _ H Q => Q none H
def tPart (t : TE) : TO := fun σ H Q => t σ H fun x H1 => ∃ i, x = .int i ∧ Q (some i) H1
section
variable {X : Cx} {e : Expr} {te : TE} {lo hi : Option Expr} {tl th : TO} {pos p2 : Pos}
theorem po_none : PO X none tNoPart := by
 intro pins s σ H Q I h
 rw [evalPart_none]
 exact wpAny_pure ⟨none, H, I, .none, h⟩
theorem po_some (h : PE X e te) : PO X (some e) (tPart te) := by
 intro pins s σ H Q I hw
 rw [evalPart_some]
 refine thn (h pins s σ H _ I hw) fun u s1 ⟨x, H1, I1, r1, q1⟩ => ?_
 obtain ⟨i, rfl, q⟩ := q1
 obtain ⟨t, rfl⟩ := r1
 exact ⟨some i, H1, I1, .int i t, q⟩
def SlR (X : Cx) (r : V → Option Int → Option Int → Hp → VK → Prop) : Prop :=
 ∀ (pins : List (Addr × Obj)) (s : Shared) (σ : St) (H : Hp) (x : V) (v vl vu : Value) (lo hi : Option Int) (sl : Addr) (Q : VK), Inv X pins σ H s → RelV x v → s.heap.IsSliceOf sl vl vu .none → IsPart vl lo → IsPart vu hi → r x lo hi H Q →
  ∃ T id, typeLookup (.type T) "__getitem__" = pure (some (.builtin id)) ∧ s.TypeIs v T ∧ wpAny (model X.prog X.w) X.A (getItem v (.ref sl)) (EP X pins σ Q) X.xe s
def tSl (r : V → Option Int → Option Int → Hp → VK → Prop) (te : TE) (tl th : TO) : TE := fun σ H Q => te σ H fun x H1 => tl σ H1 fun l H2 => th σ H2 fun u H3 => r x l u H3 Q
theorem pe_slice {r : V → Option Int → Option Int → Hp → VK → Prop} (hr : SlR X r) (he : PE X e te) (hl : PO X lo tl) (hu : PO X hi th) : PE X (.Subscript e (.Slice lo hi none p2) pos) (tSl r te tl th) := by
 intro pins s σ H Q I h
 refine Subscript_ (thn (he pins s σ H _ I h) fun v s1 ⟨x, H1, I1, r1, q1⟩ => ?_)
 refine wpAny_Slice (thn (hl pins s1 σ H1 _ I1 q1) fun vl s2 ⟨l, H2, I2, pl, q2⟩ => thn (hu pins s2 σ H2 _ I2 q2) fun vu s3 ⟨u, H3, I3, pu, q3⟩ => ?_)
 rw [evalPart_none]
 refine wpAny_pure ?_
 have I4 : Inv X pins σ H3 { s3 with heap := s3.heap.push { cls := .type "slice", data := .fields #[vl, vu, .none] } } := I3.kept (t' := s3.toks) fun b ob q => Heap.get?_push_of_some _ q
 obtain ⟨T, id, hT, ht, hg⟩ := hr pins { s3 with heap := s3.heap.push { cls := .type "slice", data := .fields #[vl, vu, .none] } } σ H3 x v vl vu l u s3.heap.objs.size Q I4 r1 (Heap.IsSliceOf.new ..) pl pu q3
 show wpAny (model X.prog X.w) X.A (subscriptTail e (.Slice lo hi none p2) v (.ref s3.heap.objs.size)) (EP X pins σ Q) X.xe { s3 with heap := s3.heap.push { cls := .type "slice", data := .fields #[vl, vu, .none] } }
 exact tail_any (ops := [.ref s3.heap.objs.size, v]) ht hT hg (by with_unfolding_all rfl)
def cutV (xs : List V) (lo hi : Option Int) : List V := (xs.drop (HT.sIx xs.length 0 lo)).take (HT.sIx xs.length xs.length hi - HT.sIx xs.length 0 lo)
theorem cutV_length (xs : List V) (lo hi : Option Int) : (cutV xs lo hi).length ≤ xs.length := by
 unfold cutV
 rw [List.length_take, List.length_drop]
 omega
end
end L2
namespace L2
open PySem PySem.Spec PyProof.Rows
def ixN (n : Nat) (i : Int) : Option Nat := if 0 ≤ i then (if i < n then some i.toNat else none) else if -(n : Int) ≤ i then some (i + n).toNat else none
def atI {α : Type} (xs : List α) (i : Int) : Option α := (ixN xs.length i).bind fun j => xs[j]?
theorem ixN_seq {n : Nat} {i : Int} {j : Nat} (h : ixN n i = some j) : seqIndex? i n = some j ∧ j < n ∧ -(n : Int) ≤ i ∧ i < n := by
 unfold ixN at h
 by_cases h0 : 0 ≤ i
 ·rw [if_pos h0] at h
  by_cases h1 : i < n
  ·rw [if_pos h1] at h
   have e : i.toNat = j := Option.some.inj h
   exact ⟨by rw [seqIndex_of h0 h1, e], by omega, by omega, h1⟩
  ·rw [if_neg h1] at h; cases h
 ·rw [if_neg h0] at h
  by_cases h1 : -(n : Int) ≤ i
  ·rw [if_pos h1] at h
   have e : (i + n).toNat = j := Option.some.inj h
   exact ⟨by rw [seqIndex_neg (by omega) h1, e], by omega, h1, by omega⟩
  ·rw [if_neg h1] at h; cases h
theorem atI_get {α : Type} {xs : List α} {i : Int} {v : α} (h : atI xs i = some v) : ∃ j, seqIndex? i xs.length = some j ∧ xs[j]? = some v ∧ j < xs.length ∧ -(xs.length : Int) ≤ i ∧ i < xs.length := by
 unfold atI at h
 cases e : ixN xs.length i with
 | none => rw [e] at h; cases h
 | some j =>
  rw [e] at h
  obtain ⟨h1, h2, h3, h4⟩ := ixN_seq e
  exact ⟨j, h1, h, h2, h3, h4⟩
theorem atI_nat {α : Type} {xs : List α} {j : Nat} {v : α} (h : xs[j]? = some v) : atI xs (j : Int) = some v := by
 have hj : j < xs.length := (List.getElem?_eq_some_iff.mp h).1
 have e : ixN xs.length (j : Int) = some j := by
  unfold ixN
  rw [if_pos (by omega), if_pos (by omega)]; simp
 unfold atI; rw [e]; exact h
theorem atI_last {α : Type} (xs : List α) (v : α) : atI (xs ++ [v]) (-1) = some v := by
 have hl : (xs ++ [v]).length = xs.length + 1 := by simp
 have e : ixN (xs ++ [v]).length (-1) = some xs.length := by
  unfold ixN
  rw [hl, if_neg (by decide), if_pos (by omega)]
  congr 1
  omega
 unfold atI
 rw [e]
 show (xs ++ [v])[xs.length]? = some v
 simp
def PlainIx (b : Expr) : Prop := ∀ o i, subscripted b false o i = operate [o, i] (getItem o i)
def IxR (X : Cx) (r : R2) : Prop :=
 ∀ (value slice : Expr) (pins : List (Addr × Obj)) (s : Shared) (σ : St) (H : Hp) (x y : V) (v u : Value) (Q : VK), Inv X pins σ H s → RelV x v → RelV y u → r x y H Q →
  subscripted slice false v u = operate [v, u] (getItem v u) → wpAny (model X.prog X.w) X.A (subscriptTail value slice v u) (EP X pins σ Q) X.xe s
def MtR (X : Cx) (id : String) (r : V → List V → Hp → VK → Prop) : Prop :=
 ∀ (pins : List (Addr × Obj)) (s : Shared) (σ : St) (H : Hp) (x : V) (xs : List V) (v : Value) (us : List Value) (Q : VK), Inv X pins σ H s → RelV x v → Vals xs us → r x xs H Q →
  wpAny (model X.prog X.w) X.A (call (.builtin id) (v :: us)) (EP X pins σ Q) X.xe s
section
variable {X : Cx} {a b : Expr} {ta tb : TE} {pos : Pos}
theorem pe_ix {r : R2} (hr : IxR X r) (ha : PE X a ta) (hb : PE X b tb) (hs : PlainIx b) : PE X (.Subscript a b pos) (tOp r ta tb) := by
 intro pins s σ H Q I h
 exact Subscript_ (binT ha hb I h fun v u s2 x y H2 I2 rx ry q => hr a b pins s2 σ H2 x y v u Q I2 rx ry q (hs _ _))
def rIxL (K : PySem.W.Frag) : R2 := fun x y H Q => ∃ p xs i v, x = .ref p ∧ y = .int i ∧ SqL K H p xs ∧ atI xs i = some v ∧ Q v H
def rIxT (K : PySem.W.Frag) : R2 := fun x y H Q => ∃ p xs i v, x = .ref p ∧ y = .int i ∧ SqT K H p xs ∧ atI xs i = some v ∧ Q v H
theorem ix_list : IxR X (rIxL X.K) := by
  intro value slice pins s σ H x y v u Q I rx ry h hs
  obtain ⟨p, xs, i, z, rfl, rfl, hq, he, q⟩ := h
  cases rx
  obtain ⟨t, rfl⟩ := ry
  obtain ⟨its, r, pl, hz⟩ := I.list hq
  obtain ⟨j, h1, h2, h3, h4, h5⟩ := atI_get he
  obtain ⟨w, ew, rw'⟩ := r.get h2
  have hl := r.length
  have hn := line63
  have fin : EP X pins σ Q w s := ⟨z, H, I, rw', q⟩
  by_cases h0 : 0 ≤ i
  · have hj : i.toNat = j := by
      rw [seqIndex_of h0 h5] at h1
      exact Option.some.inj h1
    exact item_listR pl.isList h0 (by omega) (by rw [hj]; simpa using ew) fin hs
  · have hj : (i + (its.toArray.size : Int)).toNat = j := by
      rw [seqIndex_neg (by omega) h4] at h1
      rw [List.size_toArray, ← hl]
      exact Option.some.inj h1
    exact subscriptTail_builtinR (x := w) pl.isList.typeIs slot_list_getitem.lookup
      (wpAny_getItem_list_neg (Q := fun r s' => r = w ∧ EP X pins σ Q r s') pl.isList (by omega) (by rw [List.size_toArray] <;> omega) (by omega) (by rw [hj]; simpa using ew) ⟨rfl, fin⟩) hs
theorem ix_tup : IxR X (rIxT X.K) := by
 intro value slice pins s σ H x y v u Q I rx ry h hs
 obtain ⟨p, xs, i, z, rfl, rfl, hq, he, q⟩ := h
 cases rx
 obtain ⟨t, rfl⟩ := ry
 obtain ⟨its, r, pl, hz⟩ := I.tuple hq
 obtain ⟨j, h1, h2, h3, h4, h5⟩ := atI_get he
 obtain ⟨w, ew, rw'⟩ := r.get h2
 have hl := r.length
 have hn := line63
 have fin : EP X pins σ Q w s := ⟨z, H, I, rw', q⟩
 exact subscriptTail_builtinR (x := w) pl.typeIs slot_tuple_getitem.lookup
  (getItem_tuple (j := j) (Q := fun r s' => r = w ∧ EP X pins σ Q r s') pl (by omega) (by omega) (by rw [List.size_toArray, ← hl]; exact h1) (by simpa using ew) ⟨rfl, fin⟩) hs
theorem slice_bounds (lo hi : Option Int) (n : Nat) : (sliceBounds lo hi none n).1 = ((HT.sIx n 0 lo : Nat) : Int) ∧ (sliceBounds lo hi none n).2.1 = ((HT.sIx n n hi : Nat) : Int) ∧ (sliceBounds lo hi none n).2.2 = 1 := by
 refine ⟨?_, ?_, rfl⟩
 ·cases lo with
  | none => simp [sliceBounds, HT.sIx]
  | some i =>
   simp only [sliceBounds, HT.sIx, Option.getD_none, show (1 : Int) > 0 by decide, if_true]
   by_cases h : i < 0
   ·simp only [h, if_true] <;> omega
   ·simp only [h, if_false] <;> omega
 ·cases hi with
  | none => simp [sliceBounds, HT.sIx]
  | some i =>
   simp only [sliceBounds, HT.sIx, Option.getD_none, show (1 : Int) > 0 by decide, if_true]
   by_cases h : i < 0
   ·simp only [h, if_true] <;> omega
   ·simp only [h, if_false] <;> omega
theorem slicePick_cut (its : List Value) (lo hi : Option Int) : slicePick its.toArray lo hi none = ((its.drop (HT.sIx its.length 0 lo)).take (HT.sIx its.length its.length hi - HT.sIx its.length 0 lo)).toArray := by
 obtain ⟨h1, h2, h3⟩ := slice_bounds lo hi its.toArray.size
 unfold slicePick
 rw [h1, h2, h3]
 simp only [sliceRange_one, pick_run, List.size_toArray] <;> rfl
def rSlL (K : PySem.W.Frag) : V → Option Int → Option Int → Hp → VK → Prop := fun x lo hi H Q => ∃ a xs, x = .ref a ∧ SqL K H a xs ∧ ∀ p, H p = none → Q (.ref p) (upd H p (.lst (cutV xs lo hi)))
theorem sl_list : SlR X (rSlL X.K) := by
 intro pins s σ H x v vl vu lo hi sl Q I rx hs pl pu h
 obtain ⟨a, xs, rfl, hx, q⟩ := h
 cases rx
 obtain ⟨its, r, ht, hz⟩ := I.list hx
 have hlen := r.length
 refine ⟨"list", _, slot_list_getitem.lookup, ht.isList.typeIs, ?_⟩
 refine wpAny_getItem_list_slice ht.isList hs pl pu .none (by simp) ?_ (by rw [List.size_toArray] <;> omega)
 rw [slicePick_cut, ← hlen]
 refine ⟨.ref s.heap.objs.size, _, I.laid (t' := s.toks) (o := .lst (cutV xs lo hi)) (fun b ob q => Heap.get?_push_of_some _ q) (Nat.le_refl _) ?_, rfl, q _ (I.hok.fresh (Nat.le_refl _))⟩
 exact ⟨Nat.le_trans (cutV_length xs lo hi) hz, _, 0, (r.drop (HT.sIx xs.length 0 lo)).take (HT.sIx xs.length xs.length hi - HT.sIx xs.length 0 lo), Heap.get?_push_size _ rfl⟩
theorem call_len_seq : CallR X (.builtin "len") (fun xs H Q => ∃ p ys, xs = [.ref p] ∧ (SqL X.K H p ys ∨ SqT X.K H p ys) ∧ Q (.int ys.length) H) := by
 intro pins s σ H xs us Q I r h
 obtain ⟨p, ys, rfl, hq, q⟩ := h
 obtain ⟨u, rfl, rx⟩ := vals1 r
 cases rx
 have hn := line63
 rcases hq with hq | hq
 ·obtain ⟨its, r', pl, hz⟩ := I.list hq
  have hlen := r'.length
  exact Calls.call_len_list pl.isList (by simp only [List.size_toArray] <;> omega) ⟨.int ys.length, H, I.tok _, ⟨s.toks + 1, by rw [List.size_toArray, hlen]⟩, q⟩
 ·obtain ⟨its, r', pl, hz⟩ := I.tuple hq
  have hlen := r'.length
  exact len_tuple pl (by simp only [List.size_toArray] <;> omega) ⟨.int ys.length, H, I.tok _, ⟨s.toks + 1, by rw [List.size_toArray, hlen]⟩, q⟩
theorem call_list_of : CallR X (.type "list") (fun xs H Q => ∃ p ys, xs = [.ref p] ∧ (SqL X.K H p ys ∨ SqT X.K H p ys) ∧ ∀ l, H l = none → Q (.ref l) (upd H l (.lst ys))) := by
  intro pins s σ H xs us Q I r h
  obtain ⟨p, ys, rfl, hq, q⟩ := h
  obtain ⟨u, rfl, rx⟩ := vals1 r
  cases rx
  have fin : ∀ (its : List Value), Vals ys its → ys.length ≤ sizeLine → ∀ (h' : Heap) (c' : Nat), (∀ b o', s.heap.get? b = some o' → h'.get? b = some o') →
      h'.get? s.heap.objs.size = some { cls := .type "list", dict := none, data := .seq its.toArray c', slots := #[] } → EP X pins σ Q (.ref s.heap.objs.size) { s with heap := h' } := fun its r' hz h' c' kp e =>
    ⟨.ref s.heap.objs.size, _, I.laid (t' := s.toks) kp (Nat.le_refl _) (show ObjOk X.prog X.w _ h' _ (.lst ys) from ⟨hz, its, c', r', e⟩), rfl, q _ (I.hok.fresh (Nat.le_refl _))⟩
  rcases hq with hq | hq
  · obtain ⟨its, r', pl, hz⟩ := I.list hq
    have hlen := r'.length
    obtain ⟨o, ho, hc, n, hd⟩ := pl.isList
    exact call_list_seq p (.inl rfl) ho hc hd (fun h' c' kp e => fin its r' hz h' c' kp e) (by simp only [List.size_toArray] <;> omega)
  · obtain ⟨its, r', pl, hz⟩ := I.tuple hq
    have hlen := r'.length
    obtain ⟨o, ho, hc, n, hd⟩ := pl
    exact call_list_seq p (.inr rfl) ho hc hd (fun h' c' kp e => fin its r' hz h' c' kp e) (by simp only [List.size_toArray] <;> omega)
theorem call_tuple_of : CallR X (.type "tuple") (fun xs H Q => ∃ p ys, xs = [.ref p] ∧ ((SqL X.K H p ys ∧ ∀ l, H l = none → Q (.ref l) (upd H l (.tup ys))) ∨ (SqT X.K H p ys ∧ Q (.ref p) H))) := by
 intro pins s σ H xs us Q I r h
 obtain ⟨p, ys, rfl, h⟩ := h
 obtain ⟨u, rfl, rx⟩ := vals1 r
 cases rx
 rcases h with ⟨hq, q⟩ | ⟨hq, q⟩
 ·obtain ⟨its, r', pl, hz⟩ := I.list hq
  have hlen := r'.length
  refine call_tuple_list pl.isList (fun h' kp => ?_) (by simp only [List.size_toArray] <;> omega)
  have I1 : Inv X pins σ H { s with heap := h' } := I.kept (t' := s.toks) kp
  have I2 : Inv X pins σ (upd H h'.objs.size (.tup ys)) { s with heap := h'.push { cls := .type "tuple", data := .seq its.toArray } } :=
   I1.laid (t' := s.toks) (fun b o e => Heap.get?_push_of_some _ e) (Nat.le_refl _) (show ObjOk X.prog X.w _ _ _ (.tup ys) from ⟨hz, its, r', IsTup.new _ _⟩)
  exact ⟨.ref h'.objs.size, _, I2, rfl, q _ (I1.hok.fresh (Nat.le_refl _))⟩
 ·obtain ⟨its, r', pl, hz⟩ := I.tuple hq
  exact call_tuple_same pl ⟨.ref p, H, I, rfl, q⟩
def tyV (K : PySem.W.Frag) (T : String) (x : V) (H : Hp) : Prop := match x with
  | .str _ => T = "str"
  | .int _ => T = "int"
  | .ref p => (T = "list" ∧ ∃ xs, SqL K H p xs) ∨ (T = "tuple" ∧ ∃ o, K.lookup p = some o ∧ o.cls = .type "tuple" ∧ o.dict = none) ∨
      (T = "dict" ∧ ((∃ kvs, H p = some (.dK kvs)) ∨ ∃ kvs, H p = some (.dT kvs))) ∨ (T = "set" ∧ ∃ S n, H p = some (.set S n))
  | _ => False
theorem tyV_is {pins : List (Addr × Obj)} {σ : St} {H : Hp} {s : Shared} {T : String} {x : V} {v : Value} (I : Inv X pins σ H s) (r : RelV x v) (ty : tyV X.K T x H) :
    s.TypeIs v T ∧ ∀ a, v = .ref a → ∃ ob, s.heap.get? a = some ob ∧ ob.dict = none := by
  cases x with
  | str z =>
    obtain ⟨t, rfl⟩ := r
    cases (show T = "str" from ty)
    exact ⟨typeIs_str s z t, fun _ e => nomatch e⟩
  | int i =>
    obtain ⟨t, rfl⟩ := r
    cases (show T = "int" from ty)
    exact ⟨typeIs_int s i t, fun _ e => nomatch e⟩
  | ref p =>
    cases r
    rcases ty with ⟨rfl, xs, hq⟩ | ⟨rfl, o, hk, hc, hd⟩ | ⟨rfl, hk⟩ | ⟨rfl, S, n, hk⟩
    · obtain ⟨its, _, pl, _⟩ := I.list hq
      refine ⟨pl.isList.typeIs, fun a e => ?_⟩
      cases e
      obtain ⟨o, n, e, c, hd, _⟩ := pl
      exact ⟨o, e, hd⟩
    · refine ⟨⟨o, I.kIn p o hk, hc⟩, fun a e => ?_⟩
      cases e
      exact ⟨o, I.kIn _ o hk, hd⟩
    · have z : ∃ o, s.heap.get? p = some o ∧ o.ExactDict := by
        rcases hk with ⟨kvs, hk⟩ | ⟨kvs, hk⟩
        · obtain ⟨_, _, _, _, o, _, _, e, ex, _⟩ := I.hok p _ hk
          exact ⟨o, e, ex⟩
        · obtain ⟨_, _, _, _, o, _, _, e, ex, _⟩ := I.hok p _ hk
          exact ⟨o, e, ex⟩
      obtain ⟨o, e, ex⟩ := z
      refine ⟨⟨o, e, ex.1⟩, fun a e2 => ?_⟩
      cases e2
      exact ⟨o, e, ex.2.1⟩
    · obtain ⟨o, _, _, _, e, ex, _⟩ := I.hok p _ hk
      refine ⟨⟨o, e, ex.1⟩, fun a e2 => ?_⟩
      cases e2
      exact ⟨o, e, ex.2.1⟩
  | _ => exact False.elim ty
def tBM0 (K : PySem.W.Frag) (T : String) (r : V → List V → Hp → VK → Prop) (to : TE) : TE := fun σ H Q => to σ H fun x H1 => tyV K T x H1 ∧ r x [] H1 Q
def tBM (K : PySem.W.Frag) (T : String) (r : V → List V → Hp → VK → Prop) (to : TE) (t : TA) : TE := fun σ H Q => to σ H fun x H1 => tyV K T x H1 ∧ t σ H1 fun xs H2 => r x xs H2 Q
variable {o e : Expr} {es : List Expr} {to : TE} {t : TA} {name : Str} {apos cpos : Pos} {T id : String} {r : V → List V → Hp → VK → Prop}
theorem pe_bm0 (pa : PlainAttrs T) (slot : Slot T name id) (hty : typeOf (.builtin id) = pure (.type "method_descriptor")) (hm : MtR X id r) (ho : PE X o to)
  (hbase : attributeBase o name X.env (eval o X.env) = eval o X.env := by rfl) (hline : (apos.endLine == cpos.line) = true := by rfl) : PE X (.Call (.Attribute o name apos) [] [] cpos) (tBM0 X.K T r to) := by
 intro pins s σ H Q I h
 refine wpAny_Call_method0_late hbase hline (thn (ho pins s σ H _ I h) fun v s1 ⟨x, H1, I1, r1, ty, q1⟩ => ?_)
 obtain ⟨h1, h2⟩ := tyV_is I1 r1 ty
 exact ⟨T, id, pa, slot, hty, h1, h2, Calls.callWith_builtin rfl (PySem.evalArgs_none (hm pins s1 σ H1 x [] v [] Q I1 r1 .nil q1))⟩
theorem pe_bm (pa : PlainAttrs T) (slot : Slot T name id) (hty : typeOf (.builtin id) = pure (.type "method_descriptor")) (hm : MtR X id r) (ho : PE X o to) (ha : PA X (e :: es) t)
  (hbase : attributeBase o name X.env (eval o X.env) = eval o X.env := by rfl)
  (hfew : ((backTo cpos (starEach (e :: es) X.env)).all (fun x => !x.1) && (backToKw cpos (keywordEach [] X.env)).all (fun x => x.1.isSome)
   && decide ((e :: es).length + ([] : List Keyword).length + (if ([] : List Keyword).isEmpty then 0 else 1) < 30)) = true := by rfl)
  (hline : (apos.endLine == cpos.line) = true := by rfl) (hs : starEach (e :: es) X.env = (false, eval e X.env) :: starEach es X.env := by rfl) (hplain : (backTo cpos (starEach es X.env)).any (·.1) = false := by rfl) :
  PE X (.Call (.Attribute o name apos) (e :: es) [] cpos) (tBM X.K T r to t) := by
 intro pins s σ H Q I h
 refine wpAny_Call_method_late hbase hfew hline rfl (thn (ho pins s σ H _ I h) fun v s1 ⟨x, H1, I1, r1, ty, q1⟩ => ?_)
 obtain ⟨h1, h2⟩ := tyV_is I1 r1 ty
 refine ⟨T, id, pa, slot, hty, h1, h2, ?_⟩
 have hA := ha cpos pins s1 σ H1 _ I1 q1
 rw [hs] at hA ⊢
 refine Calls.callWith_builtin (by show (false || (backTo cpos (starEach es X.env)).any (·.1)) = false; rw [hplain] <;> rfl) (Calls.evalArgs_plain ?_)
 exact thn hA fun us s2 ⟨vs, H2, I2, r2, q2⟩ => hm pins s2 σ H2 x vs v us Q I2 r1 r2 q2
/- xs.append(e), list.index on a module's tuple .. are MtR facts of 06m -/
end
end L2
namespace L2
open PySem PySem.Spec PyProof.Rows
def MtM (X : Cx) (id : String) (r : V → List V → Hp → VK → Prop) : Prop :=
 ∀ (pins : List (Addr × Obj)) (s : Shared) (σ : St) (H : Hp) (x : V) (xs : List V) (v : Value) (us : List Value) (Q : VK), Inv X pins σ H s → RelV x v → Vals xs us → r x xs H Q →
  wpAny (model X.prog X.w) X.A (call (.builtin id) (v :: us)) (EP X pins σ Q) X.xe s
theorem Vals.one : ∀ {x : V} {us : List Value}, Vals [x] us → ∃ u, us = [u] ∧ RelV x u
 | _, _, .cons r .nil => ⟨_, rfl, r⟩
theorem Vals.two : ∀ {x y : V} {us : List Value}, Vals [x, y] us → ∃ u v, us = [u, v] ∧ RelV x u ∧ RelV y v
 | _, _, _, .cons r (.cons q .nil) => ⟨_, _, rfl, r, q⟩
theorem Vals.zero : ∀ {us : List Value}, Vals [] us → us = []
 | _, .nil => rfl
section
variable {X : Cx} {pins : List (Addr × Obj)} {σ : St} {H : Hp} {s : Shared} {l b : Addr} {xs ys zs : List V}
theorem Inv.lset {its its' : List Value} {n : Nat} {f : Array Value → Array Value} {t' : Nat} (I : Inv X pins σ H s) (hH : H l = some (.lst xs))
  (e : s.heap.get? l = some { cls := .type "list", data := .seq its.toArray n }) (hf : f its.toArray = its'.toArray) (hv : Vals ys its') (hz : ys.length ≤ sizeLine) :
  Inv X pins σ (upd H l (.lst ys)) { s with heap := s.heap.update l (Obj.mapSeq f), toks := t' } := by
 have q := PySem.IsL.update e f
 rw [hf] at q
 refine I.write (x := l) (e := l) (by rw [hH]; exact trivial) (.inl rfl) (fun b' u hb hu => (Heap.get?_update_other s.heap (Obj.mapSeq f) (Ne.symm hb)).trans hu) ⟨_, q⟩ ?_
 exact ⟨hz, its', _, hv, q⟩
theorem Inv.lnew {its : List Value} {t' : Nat} (I : Inv X pins σ H s) (hv : Vals ys its) (hz : ys.length ≤ sizeLine) :
  Inv X pins σ (upd H s.heap.objs.size (.lst ys)) { s with heap := s.heap.push { cls := .type "list", data := .seq its.toArray }, toks := t' } :=
 I.laid (fun _ _ q => Heap.get?_push_of_some _ q) (Nat.le_refl _) ⟨hz, its, 0, hv, Heap.get?_push_size _ rfl⟩
theorem Inv.fresh (I : Inv X pins σ H s) : H s.heap.objs.size = none := I.hok.fresh (Nat.le_refl _)
theorem Inv.lstM (I : Inv X pins σ H s) (hH : H l = some (.lst xs)) : xs.length ≤ sizeLine ∧ ∃ (its : List Value) (n : Nat), Vals xs its ∧ xs.length = its.length ∧ s.heap.get? l = some { cls := .type "list", data := .seq its.toArray n } := by
 obtain ⟨z, its, n, r, e⟩ := I.hok l _ hH
 exact ⟨z, its, n, r, r.length, e⟩
end
section
variable {X : Cx}
def rAppend : V → List V → Hp → VK → Prop := fun x vs H Q => ∃ l xs y, x = .ref l ∧ vs = [y] ∧ H l = some (.lst xs) ∧ xs.length < sizeLine ∧ Q .non (upd H l (.lst (xs ++ [y])))
theorem mt_append : MtM X "list.append" rAppend := by
 intro pins s σ H x vs v us Q I rx rv h
 obtain ⟨l, xs, y, rfl, rfl, hH, hz, q⟩ := h
 cases rx
 obtain ⟨u, rfl, ru⟩ := rv.one
 obtain ⟨z, its, n, r, hl, e⟩ := I.lstM hH
 refine call_meets F.slot_list_append ⟨_, e, rfl⟩ F.entry_list_append (F.args_list_append_2 _ _) (PySem.list_append l its.toArray n u (by rw [List.size_toArray]; omega)) ⟨e, ?_⟩
 refine ⟨.non, _, I.lset (its' := its ++ [u]) hH e (by simp) (r.append (.cons ru .nil)) ?_, rfl, q⟩
 rw [List.length_append, List.length_singleton]
 omega
def rClear : V → List V → Hp → VK → Prop := fun x vs H Q => ∃ l xs, x = .ref l ∧ vs = [] ∧ H l = some (.lst xs) ∧ Q .non (upd H l (.lst []))
theorem mt_clear : MtM X "list.clear" rClear := by
 intro pins s σ H x vs v us Q I rx rv h
 obtain ⟨l, xs, rfl, rfl, hH, q⟩ := h
 cases rx
 have hus := rv.zero
 subst hus
 obtain ⟨z, its, n, r, hl, e⟩ := I.lstM hH
 refine call_meets F.slot_list_clear ⟨_, e, rfl⟩ F.entry_list_clear (F.args_list_clear_1 _) (AutoSeq1.list_clear_list_0 l its.toArray n (by rw [List.size_toArray]; omega)) ⟨e, ?_⟩
 exact ⟨.non, _, I.lset (its' := []) (ys := []) hH e rfl .nil (Nat.zero_le _), rfl, q⟩
def rCat : R2 := fun x y H Q => ∃ l b xs zs, x = .ref l ∧ y = .ref b ∧ H l = some (.lst xs) ∧ H b = some (.lst zs) ∧ xs.length + zs.length ≤ sizeLine ∧ ∀ p, H p = none → Q (.ref p) (upd H p (.lst (xs ++ zs)))
theorem op_cat : OpR X (binaryOp .Add) rCat := by
 intro pins s σ H x y v u Q I rx ry h
 obtain ⟨l, b, xs, zs, rfl, rfl, hH, hB, hz, q⟩ := h
 cases rx
 cases ry
 obtain ⟨z, its, n, r, hl, e⟩ := I.lstM hH
 obtain ⟨z2, its2, n2, r2, hl2, e2⟩ := I.lstM hB
 refine PySem.P.add_list e e2 ?_ (by rw [List.size_toArray, List.size_toArray]; omega)
 have ea : its.toArray ++ its2.toArray = (its ++ its2).toArray := by simp
 rw [ea]
 exact ⟨.ref _, _, I.lnew (t' := s.toks) (r.append r2) (by rw [List.length_append]; omega), rfl, q _ I.fresh⟩
end
section
variable {prog : Program} {w : World} {A : Around} {E : Value → Shared → Prop} {s : Shared}
set_option maxRecDepth 100000 in
end
section
variable {X : Cx}
end
end L2
namespace Att
open PySem PySem.W PySem.Calls PyProof.Rows
theorem ints_of_wellAll {P : Params} {h : Heap} : ∀ (ns : List Int) (vs : List Value), WellAll P h vs (ns.map WData.int) → IntsAre vs ns := by
 intro ns
 induction ns with
 | nil =>
  intro vs w
  rw [List.map_nil] at w
  cases w
  exact .nil
 | cons n ns ih =>
  intro vs w
  rw [List.map_cons] at w
  cases w with
  | cons a b =>
   cases a
   exact .cons _ _ (ih _ b)
theorem script_of {l : OpenLaw} {n : Nat} (hn : l.most = some n) {P : Params} {h : Heap} {args : List WData} {vals : List Value}
  (hpre : l.row.toRowW.claim.pre args = true) (hwl : WellAll P h vals args) :
  ∃ a vs ns, vals = [Value.ref a] ∧ args = [WData.list (ns.map WData.int)] ∧ h.get? a = some { cls := .type "list", data := .seq vs.toArray } ∧ IntsAre vs ns ∧ ns.length ≤ n := by
 have hsh : WShape.hasAll [] args [.list .int] = true := (pre_splitW hpre).1
 have hc : l.pre.holds [] { args := args } = true := (pre_splitW hpre).2
 obtain ⟨d, r, rfl, h1, h2⟩ := hasAllW_cons hsh
 obtain rfl := hasAllW_nil h2
 obtain ⟨xs, rfl, h3⟩ := hasW_list h1
 obtain ⟨ns, rfl⟩ := items_int h3
 have hlen : ns.length ≤ n := by
  unfold OpenLaw.pre at hc
  have h4 : (WTm.not (.lt (.lit (.int (n : Int))) (.len (.arg 0)))).holds [] { args := [.list (ns.map .int)] } = true := by
   have h4 := (holds_andW hc).1
   rw [hn] at h4
   exact h4
  have h5 := condW_of h4 (w_not (w_lt w_lit (w_len_list (w_arg rfl))))
  rw [List.length_map] at h5
  refine Nat.le_of_not_lt fun q => ?_
  have q' : (n : Int) < ((ns.length : Nat) : Int) := by omega
  first
   | (rw [decide_eq_true q'] at h5; exact absurd h5 (by decide))
   | (simp at h5; omega)
 cases hwl with
 | cons w1 w2 =>
  cases w2
  cases w1 with
  | list ho hall => exact ⟨_, _, ns, rfl, rfl, ho, ints_of_wellAll ns _ hall, hlen⟩
theorem post_true (l : OpenLaw) (args : List WData) : l.row.toRowW.claim.post args (.bool true) args = true :=
 postW_of (r := l.row.toRowW) (X := (true == true))
  (show WShape.has [] (.bool true) .bool = true by first | rfl | decide | simp [WShape.has, WShape.arms, WShape.armsAll])
  (show (WTm.eq .res (.lit (.bool true))).value [] { args := args, res := some (.bool true), after := args } = some (.bool (true == true)) from w_eq_bool (w_res rfl) w_lit) rfl
theorem attach_call {l : OpenLaw} {n : Nat} {q : Program} {loose : List Str} {XP : (Str → Option Value) → Heap → Prop} {YP : World → Heap → Prop} {d : DefRec}
  (hn : l.most = some n) (hdf : d.params.defaults = [])
  (call : ∀ (w : World) (s₀ s₁ : Shared) (mg mb : Str → Option Value) (fa : Addr) (o : Obj) (pm cd doc : Value) (a : Addr) (vs : List Value) (ns : List Int),
   Ground q loose [] XP w s₀ mg mb s₁.heap → YP w s₁.heap →
   s₁.heap.get? fa = some o → o.data = .func (docDef d.name d.params d.body d.scope pm cd doc) → s₁.heap.CodeRec cd d.name → mg d.name = some (.ref fa) →
   s₁.heap.get? a = some { cls := .type "list", data := .seq vs.toArray } → IntsAre vs ns → ns.length ≤ n → s₁.gens = #[] →
   codeAny (model l.prog w) callerA (.call (.ref fa) ⟨[.ref a], []⟩) (fun r s' => r = .ok (.ret (.bool true)) ∧ OldK s₁.heap s'.heap ∧ s'.os = s₁.os ∧ AllBare s'.gens) s₁) :
  WalkO q loose XP YP l.row.toRowW d [] (fun f vs => PySem.call f vs) := by
 intro w s₀ s₁ mg mb G Y fa o pm cd doc dV kV ho hd hcd hD hmg hg args vals as hpre hlay hrd hwl hlo
 obtain rfl : dV = .none := Dflts.none hD hdf
 obtain rfl : kV = .none := Dflts.noKw hD
 obtain ⟨a, vs, ns, rfl, rfl, hobj, hints, hlen⟩ := script_of hn hpre hwl
 refine enter_call (codeAny_mono (call w s₀ s₁ mg mb fa o pm cd doc a vs ns G Y ho (fd_plain hd) hcd hmg hobj hints hlen hg) fun r s' hq => ?_)
 obtain ⟨rfl, h2, h3, h4⟩ := hq
 exact ⟨.inl ⟨.bool true, .bool true, [], rfl, fun _ => rfl, .bool true, post_true l _, fun _ => ⟨List.Pairwise.nil, fun _ hm => (nomatch hm)⟩⟩, h2, h3, h4⟩
section
variable {prog : Program} {w : World} {A : Around} {E : Value → Shared → Prop} {s : Shared} {K : Frag}
def ledger (h : Heap) (L d : Addr) : List (Addr × Obj) := (List.range h.objs.size).filterMap fun a => if a = L ∨ a = d then none else (h.get? a).map fun o => (a, o)
end
end Att
namespace L2
open PySem PySem.Spec PyProof.Rows
theorem vals_ints : ∀ {vs : List Value} {ns : List Int}, IntsAre vs ns → Vals (ns.map V.int) vs
 | _, _, .nil => .nil
 | _, _, .cons n t h => .cons ⟨t, rfl⟩ (vals_ints h)
def Only (H : Hp) : Prop := ∀ b, H b = none ∨ ∃ o xs, H b = some (.frz o (.lst xs))
theorem law_call {P : Program} {w : World} {K : PySem.W.Frag} {mg mb : Str → Option Value} {CX : CXT} {k : Nat} {fa a : Addr} {fd : FuncData} {x : Str} {sp : Sp} {s₁ : Shared} {vs : List Value} {ns : List Int}
    (KX : K.In s₁.heap) (hns : s₁.heap.Ns mainGlobals mg) (hb : s₁.heap.Ns builtinsNs mb) (hbb : ∀ x : Str, x ≠ "__name__" → mb x = bootBuiltins x) (hlim : s₁.heap.NoLimit) (hg : s₁.gens = #[])
    (ha : s₁.heap.get? a = some { cls := .type "list", data := .seq vs.toArray }) (hi : IntsAre vs ns) (hl : ns.length ≤ sizeLine) (hr : Room k callerA)
    (F : ∀ base : Heap, K.In base → base.Ns mainGlobals mg → FnOk P w K mg base CX k fa fd [x] sp) (hbind : ∀ (s : Shared) (u : Value), BindsTo s fd ⟨[u], []⟩ [(x, u)])
    (hsp : ∀ H : Hp, Only H → SqL K H a (ns.map V.int) → sp [.ref a] H (fun v _ => v = .bl true) fun _ _ _ => False)
    (hCX : ∀ H e s', CX [] H s₁ (fun _ _ _ => False) e s' → False) :
    codeAny (model P w) callerA (.call (.ref fa) ⟨[.ref a], []⟩) (fun r s' => r = .ok (.ret (.bool true)) ∧ OldK s₁.heap s'.heap ∧ s'.os = s₁.os ∧ AllBare s'.gens) s₁ := by
  have rv := vals_ints hi
  have lenV := hi.length
  -- from an abstract heap in which nothing but the script may be tracked
  have core : ∀ H : Hp, Only H → SqL K H a (ns.map V.int) → HOk P w H s₁.heap → (∀ b, H b ≠ none → b = a) → (H a ≠ none → K.lookup a = none) →
      codeAny (model P w) callerA (.call (.ref fa) ⟨[.ref a], []⟩) (fun r s' => r = .ok (.ret (.bool true)) ∧ OldK s₁.heap s'.heap ∧ s'.os = s₁.os ∧ AllBare s'.gens) s₁ := by
    intro H hO hS hok hA hK
    have base_of : ∀ {b : Addr} {o : Obj}, s₁.heap.get? b = some o → H b = none → (hidT s₁.heap H).get? b = some o := fun e n => hidT_get e n
    have noA : ∀ {b : Addr} {o : Obj} {es : Array DictEntry} {ep : Nat}, s₁.heap.get? b = some o → o.data = .dict es ep → H b = none := fun {b o es ep} e d => by
      cases q : H b with
      | none => rfl
      | some u =>
        have e' : b = a := hA b (by rw [q]; simp)
        subst e'
        rw [ha] at e; cases e
        have d' : Data.seq vs.toArray _ = Data.dict es ep := d
        cases d'
    have nsK : ∀ {b : Addr} {m : Str → Option Value}, s₁.heap.Ns b m → (hidT s₁.heap H).Ns b m := fun {b m} ⟨o, es, ep, e, d, r⟩ => ⟨o, es, ep, base_of e (noA e d), d, r⟩
    have hKb : K.In (hidT s₁.heap H) := fun b o e => base_of (KX b o e) (by
      cases q : H b with
      | none => rfl
      | some u =>
        have e' : b = a := hA b (by rw [q]; simp)
        subst e'
        rw [hK (by rw [q]; simp)] at e; cases e)
    have hM : Mod K mg (hidT s₁.heap H) := ⟨hKb, nsK hns, ⟨mb, nsK hb, hbb⟩, let ⟨mc, h1, h2⟩ := hlim; ⟨mc, nsK h1, h2⟩⟩
    have e0 : Env0 P w K mg (hidT s₁.heap H) callerA [] s₁ H := ⟨rfl, hM, fun b o e => of_hidT e, Nat.le_of_eq (hidT_size _ _), trivial, fun b hb => absurd (show b ∈ ([] : List Addr) from hb) (by simp), hok, .of_eq hg⟩
    refine codeAny_mono ((F _ hKb (nsK hns)).run callerA [] s₁ H ⟨[.ref a], []⟩ [.ref a] [.ref a] _ _ hr e0 (hbind s₁ (.ref a)) (.cons rfl .nil) (hsp H hO hS)) fun r s' h => ?_
    cases r with
    | error e => exact (hCX H e s' h).elim
    | ok fl =>
      cases fl with
      | next => exact False.elim h
      | brk => exact False.elim h
      | cont => exact False.elim h
      | ret u =>
        obtain ⟨v, H', os, bare, un, hok', r', q⟩ := h
        have q' : v = .bl true := q
        subst q'
        obtain rfl : u = Value.bool true := r'
        refine ⟨rfl, OldK.of_keep fun b o e => ?_, os, bare⟩
        cases q : H b with
        | none => exact un.keep b o e q (by intro z; exact absurd (show b ∈ ([] : List Addr) from z) (by simp)) (by simp)
        | some u =>
          rcases hO b with z | ⟨ob, xs, z⟩
          · rw [q] at z; cases z
          · have z2 := un.frzs b ob _ z
            obtain ⟨e1, _⟩ := hok b _ z
            obtain ⟨e2, _⟩ := hok' b _ z2
            rw [e] at e1; cases e1
            exact e2
  cases hk : K.lookup a with
  | some o =>
    -- the script is one of the module's own objects
    have e := KX a o hk
    rw [ha] at e
    cases e
    refine core (fun _ => none) (fun _ => .inl rfl) (.inr ⟨_, vs.toArray, _, hk, rfl, rfl, rfl, by rw [List.size_toArray, lenV]; exact hl, by simpa using rv⟩) (fun b u z => by have z' : (none : Option HO) = some u := z; cases z') (fun b z => absurd rfl z) fun z => absurd rfl z
  | none =>
    refine core (fun b => if b = a then some (.frz { cls := .type "list", data := .seq vs.toArray } (.lst (ns.map V.int))) else none) (fun b => ?_) (.inl (.inr ⟨{ cls := .type "list", data := .seq vs.toArray }, if_pos rfl⟩)) (fun b u z => ?_) (fun b z => ?_) fun _ => hk
    · by_cases hb : b = a
      · exact .inr ⟨_, _, if_pos hb⟩
      · exact .inl (if_neg hb)
    · by_cases hb : b = a
      · have z' := (if_pos hb).symm.trans z
        cases z'
        subst hb
        exact ⟨ha, by rw [List.length_map]; exact hl, vs, _, rv, ha⟩
      · have z' := (if_neg hb).symm.trans z
        cases z'
    · by_cases hb : b = a
      · exact hb
      · exact absurd (if_neg hb) z
end L2
namespace L2
open PySem PySem.Spec PyProof.Rows
abbrev KOf {K : PySem.W.Frag} {h : Heap} (_ : K.In h) : PySem.W.Frag := K
theorem walk_of {l : PySem.W.OpenLaw} {n k : Nat} {q : Program} {loose : List Str} {XP : (Str → Option Value) → Heap → Prop} {YP : World → Heap → Prop} {d : DefRec} {K : Params → PySem.W.Frag} {CX : World → CXT} {sp : World → Sp} {x : Str}
  (hn : l.most = some n) (hn2 : n ≤ sizeLine) (hdf : d.params.defaults = []) (hr : Room k callerA)
  (hY : ∀ (w : World) (h : Heap), YP w h → (K w.params).In h)
  (F : ∀ (w : World) (mg : Str → Option Value) (fa : Addr) (h : Heap), (K w.params).In h → h.Ns mainGlobals mg → mg d.name = some (.ref fa) →
   ∃ fd : FuncData, (∀ (s : Shared) (u : Value), BindsTo s fd ⟨[u], []⟩ [(x, u)]) ∧
    ∀ base : Heap, (K w.params).In base → base.Ns mainGlobals mg → FnOk l.prog w (K w.params) mg base (CX w) k fa fd [x] (sp w))
  (hsp : ∀ (w : World) (H : Hp) (a : Addr) (ns : List Int), ns.length ≤ n → Only H → SqL (K w.params) H a (ns.map V.int) → sp w [.ref a] H (fun v _ => v = .bl true) fun _ _ _ => False)
  (hCX : ∀ (w : World) (H : Hp) (s : Shared) (e : Value) (s' : Shared), CX w [] H s (fun _ _ _ => False) e s' → False) :
  PySem.W.WalkO q loose XP YP l.row.toRowW d [] (fun f vs => PySem.call f vs) := by
 refine Att.attach_call hn hdf fun w s₀ s₁ mg mb fa o pm cd doc a vs ns G Y ho hd hcd hmg hobj hints hlen hg => ?_
 have KX := hY w _ Y
 obtain ⟨fd, hb, hF⟩ := F w mg fa _ KX G.T.g hmg
 exact law_call KX G.T.g G.T.b G.T.builtins G.T.nolimit hg hobj hints (Nat.le_trans hlen hn2) hr hF hb (fun H hO hS => hsp w H a ns hlen hO hS) fun H e s' => hCX w H s₁ e s'
theorem walk_ofK {l : PySem.W.OpenLaw} {n k : Nat} {q : Program} {loose : List Str} {XP : (Str → Option Value) → Heap → Prop} {YP : World → Heap → Prop} {d : DefRec} {K : Params → PySem.W.Frag} {CX : CXT} {sp : PySem.W.Frag → Sp} {x : Str}
  (hn : l.most = some n) (hn2 : n ≤ sizeLine) (hdf : d.params.defaults = []) (hr : Room k callerA)
  (hY : ∀ (w : World) (h : Heap), YP w h → (K w.params).In h)
  (F : ∀ (w : World) (mg : Str → Option Value) (fa : Addr) (h : Heap), (K w.params).In h → h.Ns mainGlobals mg → mg d.name = some (.ref fa) →
   ∃ fd : FuncData, (∀ (s : Shared) (u : Value), BindsTo s fd ⟨[u], []⟩ [(x, u)]) ∧
    ∀ base : Heap, (K w.params).In base → base.Ns mainGlobals mg → FnOk l.prog w (K w.params) mg base CX k fa fd [x] (sp (K w.params)))
  (hsp : ∀ (K : PySem.W.Frag) (H : Hp) (a : Addr) (ns : List Int), ns.length ≤ n → Only H → SqL K H a (ns.map V.int) → sp K [.ref a] H (fun v _ => v = .bl true) fun _ _ _ => False)
  (hCX : ∀ (H : Hp) (s : Shared) (e : Value) (s' : Shared), CX [] H s (fun _ _ _ => False) e s' → False) :
  PySem.W.WalkO q loose XP YP l.row.toRowW d [] (fun f vs => PySem.call f vs) :=
 walk_of (K := K) (CX := fun _ => CX) (sp := fun w => sp (K w.params)) hn hn2 hdf hr hY F (fun w H a ns h1 h2 h3 => hsp (K w.params) H a ns h1 h2 h3) fun _ H s e s' => hCX H s e s'
end L2
/- THE LAST THEOREM (shape; LID, My.* are yours):
   My.Adr: a structure of the addresses that your layer names (classes, functions); My.Txt K t: a structure (Prop) of the equations over K;
   My.txt_mk : {K} {implicit addresses ..} (e1 : nsIn K mainGlobals "law" = some (some (.ref f))) (e2 : K.lookup f = some ⟨oc, od, .func (fnOf "law" "law" params body scope dV kV doc pm an cdv ct), sl⟩) (e3 : codeIn K cdv "law" = true) .. : ∃ t, My.Txt K t
set_option maxRecDepth 100000 in
set_option maxHeartbeats 0 in
theorem PySem.Challenge.cw_LID_holds : PySem.Challenge.rw_LID.Holds := by
 w_on; o_law; k_head; (case hw => w_witness2)
 k_fill
 refine L2.walk_of (l := PySem.Challenge.rw_LID) (n := 63) (k := 40) (x := "script") (CX := fun w => ..) (sp := fun _ => My.sp_law) rfl (by decide) rfl ⟨rfl, by decide, by decide⟩ (fun w h Y => PySem.W.kIn_of Y) ?F ?S ?C
 case F =>
  intro w mg fa h KX G hmg
  have T : ∃ t, My.Txt (L2.KOf KX) t := by
   dsimp only [L2.KOf]                          -- K must stand as «<heap const> w.params» for k_is
   refine' My.txt_mk ?e1 ?e2 ?e3 ..
   (case e1 => PySem.W.k_is)                    -- in the order: a name -> its address -> its object -> its parts
   (case e2 => PySem.W.k_is)
   ..
  obtain ⟨t, T⟩ := T
  have e0 := hmg.symm.trans (PySem.W.mg_of KX G T.law)
  cases e0                                       -- fa is the law's own address
  exact ⟨_, fun s u => .of_eq rfl, fun base kb nb => My.law_fn T kb nb⟩     -- if «.of_eq rfl» comes too early: refine' ⟨_, ?b, fun base kb nb => My.law_fn T kb nb⟩; exact fun s u => .of_eq rfl
 case S => exact fun w H a ns hl hO hS => ..
 case C => exact ..
(the tactic k_is has no namespace: write k_is) -/
namespace L2
open PySem PySem.Spec PyProof.Rows
def inClass (s : Stmt) (j : Nat) : Stmt := match s with
 | .ClassDef _ _ _ body _ _ _ _ _ _ _ => body.getD j (.Pass ⟨0, 0, 0, 0⟩)
 | _ => .Pass ⟨0, 0, 0, 0⟩
def defArgs (s : Stmt) : Arguments := match s with
 | .FunctionDef _ a _ _ _ _ _ _ _ _ => a
 | _ => { posonlyargs := [], args := [], vararg := none, kwonlyargs := [], kw_defaults := [], kwarg := none, defaults := [] }
def defBody (s : Stmt) : List Stmt := match s with
 | .FunctionDef _ _ b _ _ _ _ _ _ _ => b
 | _ => []
def defScope (s : Stmt) : Scope := match s with
 | .FunctionDef _ _ _ _ _ _ sc _ _ _ => sc
 | _ => { kind := .function, names := [], isGenerator := false, isCoroutine := false }
abbrev CX0 : CXT := fun _ _ _ _ _ _ => False
abbrev E0 : XK := fun _ _ _ => False
theorem pass0 {X : Cx} : Passes CX0 X E0 := fun _ _ _ _ _ _ _ h => h.elim
structure Fun (K : PySem.W.Frag) (x qual : Str) (st : Stmt) (f : Addr) (fd : FuncData) : Prop where
 ex : ∃ (oc : Value) (od : Option Addr) (kV doc pm : Value) (an : Option Addr) (cdv ct : Value) (osl : Array (Option Value)),
  fd = PySem.W.fnOf x qual (defArgs st) (defBody st) (defScope st) .none kV doc pm an cdv ct ∧ K.lookup f = some ⟨oc, od, .func fd, osl⟩ ∧ PySem.W.codeIn K cdv qual = true
 kp : PySem.W.keepIn K (.ref f) = true
section
variable {P : Program} {w : World} {K : PySem.W.Frag} {mg : Str → Option Value} {base : Heap}
theorem Fun.ok {x qual : Str} {st : Stmt} {f : Addr} {fd : FuncData} {N ps : List Str} {k : Nat} {sp : Sp} (F : Fun K x qual st f fd) (S : FnScope N ps (defScope st)) (len : ∀ vs H Q E, sp vs H Q E → vs.length = ps.length)
  (hbody : ∀ (cdv : Value) (A : Around) (outer : List Env) (s : Shared) (H : Hp) (vs : List V) (Q : VK) (E : XK), Room k (A.deeper (envOfC qual (defScope st) s.heap.objs.size f cdv)) → sp vs H Q E →
   ∃ t, PSs (cxOf CX0 P w K mg base N qual (defScope st) f cdv A outer s H E).nox (defBody st) t ∧ t { nx := fun _ H' => Q .non H', rt := Q } (start N vs) H) : FnOk P w K mg base CX0 (k + 1) f fd ps sp := by
 obtain ⟨oc, od, kV, doc, pm, an, cdv, ct, osl, rfl, lk, hcd⟩ := F.ex
 refine fn_of lk hcd S len fun A outer s H vs Q E hr hsp => ?_
 obtain ⟨t, h, q⟩ := hbody cdv A outer s H vs Q E hr hsp
 exact ⟨t, h.nox, q⟩
theorem Fun.binds {x qual : Str} {st : Stmt} {f : Addr} {fd : FuncData} {ps : List Str} (F : Fun K x qual st f fd)
  (h : ∀ (kV doc pm : Value) (an : Option Addr) (cdv ct : Value) (us : List Value), us.length = ps.length → bindArgs (PySem.W.fnOf x qual (defArgs st) (defBody st) (defScope st) .none kV doc pm an cdv ct) ⟨us, []⟩ = pure (ps.zip us)) : Binds K fd ps [] := by
 obtain ⟨oc, od, kV, doc, pm, an, cdv, ct, osl, rfl, lk, hcd⟩ := F.ex
 exact .all (h kV doc pm an cdv ct)
theorem fun_mk {x qual : Str} {st : Stmt} {f : Addr} {oc : Value} {od an : Option Addr} {osl : Array (Option Value)} {kV doc pm cdv ct : Value} (l : K.lookup f = some ⟨oc, od, .func (PySem.W.fnOf x qual (defArgs st) (defBody st) (defScope st) .none kV doc pm an cdv ct), osl⟩)
  (c : PySem.W.codeIn K cdv qual = true) (k : PySem.W.keepIn K (.ref f) = true) : Fun K x qual st f (PySem.W.fnOf x qual (defArgs st) (defBody st) (defScope st) .none kV doc pm an cdv ct) := ⟨⟨oc, od, kV, doc, pm, an, cdv, ct, osl, rfl, l, c⟩, k⟩
end
theorem hu_of {A : Around} {k : Nat} (hr : Room k A) : A.units + 1 < cLine := Nat.lt_of_le_of_lt (Nat.add_le_add_left (by decide : 1 ≤ 64) _) hr.units
theorem small1000 {n : Nat} (h : n ≤ 1000) : n < sizeLine := Nat.lt_of_le_of_lt h (by decide)
section
variable {X : Cx}
theorem pv (i : Nat) {x : Str} {pos : Pos} (hN : X.N[i]? = some x := by rfl) (hv : Vis X.env.scope x := by first | exact Or.inl rfl | exact Or.inr (Or.inl rfl) | exact Or.inr (Or.inr rfl)) (hd : (x == ("__debug__" : Str)) = false := by decide)
  (hcd : (x == ("__classdict__" : Str)) = false := by decide) : PE X (.Name x pos) (tVar i) := pe_var hN hv hd hcd
end
theorem iteF {A B : Prop} (h : B) : if false = true then A else B := by
 rw [if_neg Bool.false_ne_true]
 exact h
theorem iteT {A B : Prop} (h : A) : if true = true then A else B := by
 rw [if_pos rfl]
 exact h
theorem ite2 {c A B : Prop} [Decidable c] (h1 : c → A) (h2 : ¬ c → B) : if c then A else B := by
 by_cases h : c
 ·rw [if_pos h]
  exact h1 h
 ·rw [if_neg h]
  exact h2 h
def Same (H H' : Hp) : Prop := ∀ b o, H b = some o → H' b = some o
theorem Same.refl (H : Hp) : Same H H := fun _ _ h => h
theorem Same.trans {H H1 H2 : Hp} (a : Same H H1) (b : Same H1 H2) : Same H H2 := fun c o h => b c o (a c o h)
theorem Same.free {H H' : Hp} (e : Same H H') {l : Addr} (h : H' l = Option.none) : H l = Option.none := by
 cases q : H l with
 | none => rfl
 | some o =>
  rw [e l o q] at h
  cases h
theorem Same.seq {K : PySem.W.Frag} {H H' : Hp} {a : Addr} {xs : List V} (e : Same H H') (h : SqL K H a xs) : SqL K H' a xs := by
 rcases h with (h | ⟨o, h⟩) | h
 ·exact .inl (.inl (e _ _ h))
 ·exact .inl (.inr ⟨o, e _ _ h⟩)
 ·exact .inr h
end L2
set_option Elab.async false
set_option maxRecDepth 100000
namespace L2
open PySem PySem.Spec PyProof.Rows
def closOf (cells : List (Str × Addr)) : List (Str × NameKind) → List (Str × Addr) → List (Str × Addr)
 | [], acc => acc
 | (n, k) :: r, acc => closOf cells r (if k == .free then (n, (cells.lookup n).getD 0) :: acc else acc)
theorem closureFor_of {scope : Scope} {env : Env} (h : ∀ x ∈ scope.names, x.2 = .free → ∃ c, env.cells.lookup x.1 = some c) : closureFor scope env = pure (closOf env.cells scope.names []) := by
 unfold closureFor
 generalize hn : scope.names = names at h ⊢
 clear hn
 generalize ([] : List (Str × Addr)) = acc
 induction names generalizing acc with
 | nil => simp [closOf]
 | cons x r ih =>
  obtain ⟨n, k⟩ := x
  have ih' := fun a => ih (fun x hx => h x (List.mem_cons_of_mem _ hx)) a
  simp only [List.forIn_cons, bind_pure] at ih' ⊢
  by_cases hk : k = .free
  ·obtain ⟨c, hc⟩ := h (n, k) List.mem_cons_self hk
   subst hk
   have hcl : cellOf env n = pure c := by simp only [cellOf, hc]
   simp only [beq_self_eq_true, if_true, hcl, hc, pure_bind, closOf, Option.getD_some]
   simpa using ih' _
  ·have hb : (k == NameKind.free) = false := by simpa using hk
   simp only [hb, Bool.false_eq_true, if_false, pure_bind, closOf]
   simpa using ih' _
theorem closOf_look {cells : List (Str × Addr)} {y : Str} {c : Addr} : ∀ {names : List (Str × NameKind)} {acc : List (Str × Addr)}, (∀ x ∈ names, x.2 = .free → ∃ c, cells.lookup x.1 = some c) → (acc.lookup y = some c → cells.lookup y = some c) →
  (closOf cells names acc).lookup y = some c → cells.lookup y = some c
 | [], _, _, ha, e => ha e
 | (n, k) :: r, acc, h, ha, e => by
  unfold closOf at e
  refine closOf_look (names := r) (fun x hx => h x (List.mem_cons_of_mem _ hx)) (fun e' => ?_) e
  by_cases hk : k = .free
  ·obtain ⟨d, hd⟩ := h (n, k) List.mem_cons_self hk
   subst hk
   simp only [beq_self_eq_true, if_true, hd, Option.getD_some, List.lookup_cons] at e'
   cases q : y == n with
   | true =>
    rw [q] at e'
    have : y = n := by simpa using q
    subst this
    exact hd.trans e'
   | false => rw [q] at e'; exact ha e'
  ·have hb : (k == NameKind.free) = false := by simpa using hk
   simp only [hb, Bool.false_eq_true, if_false] at e'
   exact ha e'
theorem closOf_has {cells : List (Str × Addr)} {y : Str} : ∀ {names : List (Str × NameKind)} {acc : List (Str × Addr)}, ((y, NameKind.free) ∈ names ∨ ∃ c, acc.lookup y = some c) → ∃ c, (closOf cells names acc).lookup y = some c
 | [], _, h => by simpa [closOf] using h
 | (n, k) :: r, acc, h => by
  unfold closOf
  refine closOf_has (names := r) ?_
  rcases h with h | ⟨c, h⟩
  ·rcases List.mem_cons.mp h with e | e
   ·cases e
    right
    simp
   ·exact .inl e
  ·right
   by_cases hk : (k == NameKind.free) = true
   ·rw [if_pos hk, List.lookup_cons]
    cases y == n
    ·exact ⟨c, h⟩
    ·exact ⟨_, rfl⟩
   ·rw [if_neg hk]
    exact ⟨c, h⟩
end L2
set_option Elab.async false
set_option maxRecDepth 100000
namespace L2
open PySem PySem.Spec PyProof.Rows
def PTs (X : Cx) (ifs : List Expr) (t : TT) : Prop :=
 ∀ (pins : List (Addr × Obj)) (s : Shared) (σ : St) (H : Hp) (Q : Bool → Hp → Prop), Inv X pins σ H s → t σ H Q →
  wpAny (model X.prog X.w) X.A (forIn ifs true fun c r => if r = true then do let ok ← isTrue c X.env (eval c X.env); pure (ForInStep.yield ok) else pure (ForInStep.yield r)) (TP X pins σ Q) X.xe s
def tTrue : TT := fun _ H Q => Q true H
theorem pts_nil {X : Cx} : PTs X [] tTrue := fun _ _ _ H _ I h => wpAny_tests_nil ⟨H, I, h⟩
theorem pts_one {X : Cx} {c : Expr} {t : TT} (h : PT X c t) : PTs X [c] t := fun pins s σ H Q I hw => wpAny_tests_one (h pins s σ H Q I hw)
def Cx.block (X : Cx) (scope : Scope) (N : List Str) (s : Shared) (H : Hp) (fp : List Addr) : Cx where
 prog := X.prog
 w := X.w
 K := X.K
 mg := X.mg
 base := X.base
 A := X.A
 N := N
 s₀ := s
 H₀ := H
 env := compEnvC scope (closOf X.env.cells scope.names []) s.heap.objs.size X.env
 outer := X.stack
 stack := X.stack
 ex := fp
 fn := fun _ => false
 calm := X.calm
 pn := []
 xe := fun _ _ => False
def isCl : Option NameKind → Bool
 | some .cell => true
 | some .free => true
 | _ => false
theorem isCl_iff {k : Option NameKind} (h : isCl k = true) : k = some .cell ∨ k = some .free := by
 unfold isCl at h
 split at h
 ·exact .inl rfl
 ·exact .inr rfl
 ·cases h
structure CompOk (X : Cx) (scope : Scope) (N : List Str) (cap : List (Option Nat)) : Prop where
 kind : scope.kind = .function
 nocell : (scope.names.all fun y => !(y.2 == .cell)) = true
 loc : (scope.names.all fun y => !(y.2 == .local) || (scope.names.lookup y.1 == some .local)) = true
 fre : (scope.names.all fun y => !(y.2 == .free) || isCl (X.env.kindOf y.1)) = true
 len : cap.length = N.length
 cap : ((cap.zip N).all fun p => match p.1 with | none => true | some j => (X.N[j]? == some p.2) && isCl (X.env.kindOf p.2) && isCl ((relabel scope X.env).names.lookup p.2)) = true
def capS (cap : List (Option Nat)) (σ : St) : St := cap.map fun o => match o with | none => none | some j => (σ[j]?).join
section
variable {X : Cx} {pins : List (Addr × Obj)} {σ : St} {H : Hp} {s : Shared} {fp : List Addr} {scope : Scope} {N : List Str} {cap : List (Option Nat)}
theorem CompOk.freeH (c : CompOk X scope N cap) (ok : X.Ok) : ∀ x ∈ scope.names, x.2 = .free → ∃ a, X.env.cells.lookup x.1 = some a := fun x hx hf => by
 have := List.all_eq_true.mp c.fre x hx
 rw [hf] at this
 simp only [beq_self_eq_true, Bool.not_true, Bool.false_or] at this
 exact ok.has x.1 (isCl_iff this)
theorem relabel_look {scope : Scope} {env : Env} {y : Str} (h : (relabel scope env).names.lookup y = some .cell ∨ (relabel scope env).names.lookup y = some .free) (nc : ∀ z ∈ scope.names, z.2 ≠ .cell) : (y, NameKind.free) ∈ scope.names := by
 unfold relabel at h
 dsimp only at h
 generalize scope.names = names at h nc
 induction names with
 | nil => simp at h
 | cons z r ih =>
  obtain ⟨n, k⟩ := z
  have nc' : ∀ z ∈ r, z.2 ≠ .cell := fun z hz => nc z (List.mem_cons_of_mem _ hz)
  rw [List.map_cons, List.lookup_cons] at h
  have nck := nc (n, k) List.mem_cons_self
  dsimp only at h nck
  by_cases hc : (k == NameKind.free && env.scope.kind == .function && env.kindOf n == some .cell) = true
  ·rw [if_pos hc] at h
   dsimp only at h
   have hk : k = .free := by
    simp only [Bool.and_eq_true, beq_iff_eq] at hc
    exact hc.1.1
   cases q : y == n with
   | true => rw [show y = n from by simpa using q, hk]; exact List.mem_cons_self
   | false => rw [q] at h; exact List.mem_cons_of_mem _ (ih h nc')
  ·rw [if_neg hc] at h
   dsimp only at h
   cases q : y == n with
   | true =>
    rw [q] at h
    rcases h with h | h
    ·cases h; exact absurd rfl nck
    ·cases h; rw [show y = n from by simpa using q]; exact List.mem_cons_self
   | false => rw [q] at h; exact List.mem_cons_of_mem _ (ih h nc')
theorem CompOk.nc (c : CompOk X scope N cap) : ∀ z ∈ scope.names, z.2 ≠ .cell := fun z hz e => by
 have := List.all_eq_true.mp c.nocell z hz
 rw [e] at this
 exact absurd this (by decide)
theorem CompOk.lc (c : CompOk X scope N cap) : ∀ x ∈ scope.names, x.2 = .local → scope.names.lookup x.1 = some .local := fun x hx e => by
 have := List.all_eq_true.mp c.loc x hx
 rw [e] at this
 simpa using this
theorem block_ok (c : CompOk X scope N cap) (I : Inv X pins σ H s) (hf : ∀ b ∈ fp, FpOk X pins H b) (hlt : ∀ b ∈ fp, b < s.heap.objs.size) : (X.block scope N s H fp).Ok := by
 have lk : ∀ {y : Str} {a : Addr}, (closOf X.env.cells scope.names []).lookup y = some a → X.env.cells.lookup y = some a := fun e => closOf_look (c.freeH I.ok) (fun z => by simp at z) e
 refine ⟨I.ok.mod, c.kind, I.ok.glob, I.ok.blt, Nat.le_refl _, fun x y a h1 h2 => I.ok.inj x y a (lk h1) (lk h2), fun x hx => closOf_has (.inl (relabel_look hx c.nc)), fun x a h => absurd h (by simp [Cx.block]), I.ok.hd, I.ok.frames, .inl rfl, fun b hb => ⟨?_, fun x a h => (hf b hb).2.2.2.2.1 x a (lk h)⟩, I.bs, Nat.le_trans I.ok.bsz I.sz, fun b o e hb => ?_, fun b hb z => ?_, I.stack, I.stkFree⟩
 ·exact Nat.ne_of_lt (hlt b hb)
 ·rcases (hf b hb).2.2.2.1 with z | z
  ·exact I.ok.noex b o e z
  ·exact absurd (Nat.lt_of_lt_of_le (Heap.lt_size (I.ok.bs b o e).1) z) (Nat.lt_irrefl _)
 ·rcases List.mem_cons.mp (I.stkSub b z) with e | e
  ·exact (hf b hb).2.1 e
  ·exact (hf b hb).2.2.1 e
theorem capS_get {i : Nat} {v : V} (h : (capS cap σ)[i]? = some (some v)) : ∃ j, cap[i]? = some (some j) ∧ σ[j]? = some (some v) := by
 unfold capS at h
 rw [List.getElem?_map] at h
 cases q : cap[i]? with
 | none => rw [q] at h; cases h
 | some o =>
  rw [q] at h
  cases o with
  | none => cases h
  | some j =>
   refine ⟨j, rfl, ?_⟩
   have h' : (σ[j]?).join = some v := Option.some.inj h
   cases q2 : σ[j]? with
   | none => rw [q2] at h'; cases h'
   | some o =>
    rw [q2] at h'
    have : o = some v := h'
    rw [this]
theorem block_inv (c : CompOk X scope N cap) (I : Inv X pins σ H s) (hf : ∀ b ∈ fp, FpOk X pins H b) (hlt : ∀ b ∈ fp, b < s.heap.objs.size) {h1 : Heap} {t1 : Nat} (hns : h1.Ns s.heap.objs.size (fun x => ([] : List (Str × Value)).reverse.lookup x))
  (hsb : Heap.SameBut s.heap.objs.size (s.heap.push { cls := .type (if (some X.env : Option Env).isSome then "dict" else "frame"), data := .dict #[] }) h1) : Inv (X.block scope N s H fp) [] (capS cap σ) H { s with heap := h1, toks := t1 } := by
 have lk : ∀ {y : Str} {a : Addr}, (closOf X.env.cells scope.names []).lookup y = some a → X.env.cells.lookup y = some a := fun e => closOf_look (c.freeH I.ok) (fun z => by simp at z) e
 have keep : ∀ b o, s.heap.get? b = some o → h1.get? b = some o := fun b o e => (hsb.2 b (Nat.ne_of_lt (Heap.lt_size e))).trans (Heap.get?_push_of_some _ e)
 have cellK : ∀ {a : Addr} {v : Option Value}, s.heap.IsCell a v → h1.IsCell a v := fun ⟨o, e, d⟩ => ⟨o, keep _ _ e, d⟩
 refine ⟨block_ok c I hf hlt, rfl, I.bare, Un.kept keep, ⟨_, hns, fun i x v h1 h2 h3 => ?_⟩, fun x a e => ?_, I.hok.fresh (Nat.le_refl _), fun x a e => I.freeC x a (lk e), fun p hp => absurd (show p ∈ ([] : List (Addr × Obj)) from hp) (by simp), I.hok.kept keep, ?_⟩
 ·obtain ⟨j, hc, hs⟩ := capS_get h2
  have hN : N[i]? = some x := h1
  have hz : (cap.zip N)[i]? = some (some j, x) := by rw [List.getElem?_zip_eq_some]; exact ⟨hc, hN⟩
  have := List.all_eq_true.mp c.cap _ (List.mem_of_getElem? hz)
  simp only [Bool.and_eq_true, beq_iff_eq] at this
  obtain ⟨⟨e1, e2⟩, e3⟩ := this
  obtain ⟨m, hn, hl⟩ := I.loc
  have hk := isCl_iff e2
  obtain ⟨u, r, l⟩ := hl j x v e1 hs (by rcases hk with z | z; exact .inr (.inl z); exact .inr (.inr z))
  refine ⟨u, r, ?_⟩
  rcases l with ⟨l, _⟩ | ⟨_, a, ea, ca⟩
  ·rw [l] at hk; rcases hk with z | z <;> cases z
  ·have hk' := isCl_iff e3
   obtain ⟨a', ha'⟩ := closOf_has (cells := X.env.cells) (acc := []) (.inl (relabel_look hk' c.nc))
   have : a' = a := Option.some.inj ((lk ha').symm.trans ea)
   subst this
   exact .inr ⟨hk', a', ha', cellK ca⟩
 ·obtain ⟨v, hv⟩ := I.cell x a (lk e)
  exact ⟨v, cellK hv⟩
 ·unfold capS
  rw [List.length_map]
  exact c.len
end
end L2
set_option Elab.async false
set_option maxRecDepth 100000
namespace L2
open PySem PySem.Spec PyProof.Rows
theorem compLoop_go {prog : Program} {w : World} {A : Around} {R : Result → Shared → Prop} {s : Shared} {elt target iter : Expr} {ifs : List Expr} {scope : Scope} {pos : Pos} {it acc : Value} {env : Env} (J : Nat → Shared → Prop)
    (turn : ∀ n s, J n s → wpAny (model prog w) A (pyNext it) (fun r s₁ => match r with
      | none => R (.ok .next) s₁
      | some v => wpAny (model prog w) A (letOwnedTupleGo target it v) (fun _ s₀ => wpAny (model prog w) A (assign target env v) (fun _ s₂ =>
          wpAny (model prog w) A (forIn ifs true fun c r => if r = true then do let ok ← isTrue c env (eval c env); pure (ForInStep.yield ok) else pure (ForInStep.yield r)) (fun ok s₃ =>
            if ok = true then wpAny (model prog w) A (eval elt env) (fun x s₄ =>
              wpAny (model prog w) A (call (.builtin "list.append") [acc, x]) (fun _ s₅ => ∃ m, m < n ∧ J m s₅) (fun _ _ => False) s₄) (fun _ _ => False) s₃
            else ∃ m, m < n ∧ J m s₃) (fun _ _ => False) s₂) (fun _ _ => False) s₀) (fun _ _ => False) s₁) (fun _ _ => False) s)
    (n : Nat) (h : J n s) :
    codeAny (model prog w) A (.compLoop (.ListComp elt [⟨target, iter, ifs, 0⟩] scope pos) 0 it acc env) R s := by
  refine codeAny_loop rfl J (fun n s hI => ?_) n h
  show wpAny _ A ((compTurn (.ListComp elt [⟨target, iter, ifs, 0⟩] scope pos) 0 it acc env).onRaise (fun x => do noteFrame x env; theTreesLotGoes x)) _ _ s
  refine wpAny_noted ?_
  rw [compTurn_list]
  refine wpAny_bind (wpAny_standAt (wpAny_bind (wpAny_mono (turn n s hI) (fun r s₁ h₁ => ?_) fun _ _ h' => h'.elim)))
  cases r with
  | none => exact wpAny_pure h₁
  | some v =>
    refine wpAny_bind (wpAny_mono h₁ (fun _ s₀ h₀ => ?_) fun _ _ h' => h'.elim)
    refine wpAny_bind (wpAny_mono h₀ (fun _ s₂ h₂ => wpAny_bind (wpAny_mono h₂ (fun ok s₃ h₃ => ?_) fun _ _ h' => h'.elim)) fun _ _ h' => h'.elim)
    cases ok with
    | false => exact wpAny_pure ⟨rfl, h₃⟩
    | true =>
      exact wpAny_bind (wpAny_bind (wpAny_mono h₃ (fun x s₄ h₄ => wpAny_bind (wpAny_mono h₄ (fun _ s₅ h₅ => wpAny_pure (wpAny_pure ⟨rfl, h₅⟩)) fun _ _ h' => h'.elim)) fun _ _ h' => h'.elim))
def tComp (wi : TI) (g : TG) (tt : TT) (te : TE) (cap : List (Option Nat)) : TE := fun σ H Q => wi σ H fun J H1 => ∀ l, H1 l = none →
 ∃ (n : Nat) (Pv : Nat → List V → St → Hp → Prop), Pv 0 [] (capS cap σ) (upd H1 l (.lst [])) ∧
  (∀ i ys σ' H', i < n → Pv i ys σ' H' → J.go i H' ∧ ∀ x H2, J.yld i H' x H2 → g x σ' H2 fun σ3 H3 => tt σ3 H3 fun b H4 =>
   if b = true then te σ3 H4 fun y H5 => H5 l = some (.lst ys) ∧ ys.length < sizeLine ∧ Pv (i + 1) (ys ++ [y]) σ3 (upd H5 l (.lst (ys ++ [y]))) else Pv (i + 1) ys σ3 H4) ∧
  ∀ ys σ' H', Pv n ys σ' H' → J.stop n H' ∧ Q (.ref l) H'
section
variable {X : Cx} {elt tg iter : Expr} {ifs : List Expr} {scope : Scope} {pos : Pos} {N : List Str} {cap : List (Option Nat)} {wi : TI} {g : TG} {tt : TT} {te : TE}
theorem comp_run {U : Value → Addr → Shared → Prop} (hc : X.calm = true) (c : CompOk X scope N cap) (hi : PI X tg iter wi) (hg : ∀ s H fp, PG (X.block scope N s H fp) tg g) (ht : ∀ s H fp, PTs (X.block scope N s H fp) ifs tt)
    (he : ∀ s H fp, PE (X.block scope N s H fp) elt te)
    {pins : List (Addr × Obj)} {s : Shared} {σ : St} {H : Hp} {Q : VK} (I : Inv X pins σ H s) (h : tComp wi g tt te cap σ H Q)
    (hU : ∀ (l C : Addr) (H' : Hp) (s' : Shared), Inv X pins σ H' s' → (∃ m, s'.heap.Ns C m) → FpOk X pins H' C → Q (.ref l) H' → U (.ref l) C s')
    {RR : Value → Addr → Result → Shared → Prop} (hRR : ∀ a C s', U a C s' → RR a C (.ok .next) s') :
    wpAny (model X.prog X.w) X.A (eval iter X.env) (fun x s₁ => wpAny (model X.prog X.w) X.A (pyIter x) (fun it s₂ => wpAny (model X.prog X.w) X.A (newList []) (fun acc s₃ =>
      wpAny (model X.prog X.w) X.A (newFunctionEnv scope X.env.globals (closOf X.env.cells scope.names []) [] X.env.qual none .none (some X.env)) (fun cenv s₄ =>
        codeAny (model X.prog X.w) X.A (.compStart (.ListComp elt [⟨tg, iter, ifs, 0⟩] scope pos) 0 it acc { cenv with scope := relabel scope X.env }) (RR acc cenv.locals) s₄) X.xe s₃) X.xe s₂) X.xe s₁) X.xe s := by
  refine thn (hi pins s σ H _ I h) fun v s1 h1 => thn h1 fun itv s2 h2 => ?_
  obtain ⟨it, fp, tn, J, H2, e, I2, T, st2, f2, hq⟩ := h2
  subst e
  have hl : H2 s2.heap.objs.size = none := I2.hok.fresh (Nat.le_refl _)
  obtain ⟨n, Pv, p0, step, fin⟩ := hq _ hl
  refine wpAny_newObj_type ?_ (by show 0 ≤ sizeLine; exact Nat.zero_le _)
  have I3 : Inv X pins σ (upd H2 s2.heap.objs.size (.lst [])) { s2 with heap := s2.heap.push { cls := .type "list", data := .seq ([] : List Value).toArray } } :=
    I2.laid (t' := s2.toks) (fun b u e => Heap.get?_push_of_some _ e) (Nat.le_refl _) ⟨Nat.zero_le _, [], _, .nil, Heap.get?_push_size _ rfl⟩
  generalize hs3 : ({ s2 with heap := s2.heap.push { cls := .type "list", data := .seq ([] : List Value).toArray } } : Shared) = s3 at I3 ⊢
  have k23 : ∀ b o, s2.heap.get? b = some o → s3.heap.get? b = some o := fun b o e => by rw [← hs3]; exact Heap.get?_push_of_some _ e
  have fplt2 : ∀ b ∈ fp, b < s2.heap.objs.size := fun b hb => let ⟨o, e, _⟩ := T.obj _ _ st2 b hb; Heap.lt_size e
  have sz23 : s2.heap.objs.size ≤ s3.heap.objs.size := by rw [← hs3]; show _ ≤ (s2.heap.push _).objs.size; rw [Heap.size_push]; exact Nat.le_succ _
  have fplt : ∀ b ∈ fp, b < s3.heap.objs.size := fun b hb => Nat.lt_of_lt_of_le (fplt2 b hb) sz23
  have f3 : ∀ b ∈ fp, FpOk X pins (upd H2 s2.heap.objs.size (.lst [])) b := fun b hb => ⟨by rw [upd_ne (Nat.ne_of_lt (fplt2 b hb))]; exact (f2 b hb).1, (f2 b hb).2⟩
  have st3 : tn 0 s3.heap := T.keep _ _ _ st2 fun b hb o e => k23 b o e
  refine wpAny_newFunctionEnv c.nc (by intro y hy; simp at hy) (fun h4 hns hsb => ?_) c.kind
  have I4 := block_inv (t1 := s3.toks + ([] : List (Str × Value)).length) c I3 f3 fplt hns hsb
  have st4 : tn 0 h4 := T.keep _ _ _ st3 fun b hb o e => (hsb.2 b (Nat.ne_of_lt (fplt b hb))).trans (Heap.get?_push_of_some _ e)
  generalize hY : X.block scope N s3 (upd H2 s2.heap.objs.size (.lst [])) fp = Y at I4
  have yP : Y.prog = X.prog := by rw [← hY]; rfl
  have yw : Y.w = X.w := by rw [← hY]; rfl
  have yK : Y.K = X.K := by rw [← hY]; rfl
  have yA : Y.A = X.A := by rw [← hY]; rfl
  have yx : Y.xe = fun _ _ => False := by rw [← hY]; rfl
  have yc : Y.calm = true := by rw [← hY]; exact hc
  have yex : Y.ex = fp := by rw [← hY]; rfl
  have yfs : Y.fs = frs X.stack := by rw [← hY]; rfl
  have yH : Y.H₀ = upd H2 s2.heap.objs.size (.lst []) := by rw [← hY]; rfl
  have ys : Y.s₀ = s3 := by rw [← hY]; rfl
  have yC : Y.env.locals = s3.heap.objs.size := by rw [← hY]; rfl
  have yenv : compEnvC scope (closOf X.env.cells scope.names []) s3.heap.objs.size X.env = Y.env := by rw [← hY]; rfl
  have yg := hg s3 (upd H2 s2.heap.objs.size (.lst [])) fp
  have yt := ht s3 (upd H2 s2.heap.objs.size (.lst [])) fp
  have ye := he s3 (upd H2 s2.heap.objs.size (.lst [])) fp
  have ypn : Y.pn = [] := by rw [← hY]; rfl
  have ycl : Y.env.cells = closOf X.env.cells scope.names [] := by rw [← hY]; rfl
  rw [hY] at yg yt ye
  have lk : ∀ {y : Str} {a : Addr}, Y.env.cells.lookup y = some a → X.env.cells.lookup y = some a := fun e => by rw [ycl] at e; exact closOf_look (c.freeH I.ok) (fun z => by simp at z) e
  have stat : ∀ {H' : Hp}, (∀ b ∈ fp, H' b = none) → ∀ b ∈ fp, FpOk Y [] H' b := fun hn b hb => by
    refine ⟨hn b hb, by rw [yC]; exact Nat.ne_of_lt (fplt b hb), ?_, .inl (by rw [yex]; exact hb), fun x a e => (f2 b hb).2.2.2.2.1 x a (lk e), fun p hp => ?_⟩
    · rw [yfs]
      intro z
      rcases List.mem_cons.mp (I2.stkSub b z) with e | e
      · exact (f2 b hb).2.1 e
      · exact (f2 b hb).2.2.1 e
    · rw [ypn] at hp
      exact absurd hp (by simp)
  -- the end
  have done : ∀ {σ' : St} {H' : Hp} {s' : Shared}, Inv Y [] σ' H' s' → Q (.ref s2.heap.objs.size) H' → U (.ref s2.heap.objs.size) s3.heap.objs.size s' := fun {σ' H' s'} J' q => by
    have un := J'.base
    rw [yfs, yex, yH, ys] at un
    have J3 := I3.call' (s' := s') (ch := fp) (by rw [J'.os, ys]) un (by have := J'.hok; rw [yP, yw] at this; exact this) J'.bare fun b hb => ⟨(f3 b hb).2.2.2.1, (f3 b hb).2.1, (f3 b hb).2.2.2.2.1, (f3 b hb).2.2.2.2.2⟩
    have hCn : H' s3.heap.objs.size = none := by have := J'.free; rw [yC] at this; exact this
    have hne : s3.heap.objs.size ≠ X.env.locals := Nat.ne_of_gt I3.lt
    have hcl : ∀ x a, X.env.cells.lookup x = some a → a ≠ s3.heap.objs.size := fun x a e => let ⟨_, o, ho, _⟩ := I3.cell x a e; Nat.ne_of_lt (Heap.lt_size ho)
    have hpn : ∀ p ∈ X.pn ++ pins, p.1 ≠ s3.heap.objs.size := fun p hp => Nat.ne_of_lt (Heap.lt_size (I3.pin p hp).1)
    obtain ⟨m, hn, _⟩ := J'.loc
    rw [yC] at hn
    exact hU _ _ H' s' J3 ⟨m, hn⟩ ⟨hCn, hne, I3.nofs (Nat.le_refl _), .inr I3.sz, hcl, hpn⟩ q
  have loop : ∀ s5 : Shared, s5 = { s3 with heap := h4, toks := s3.toks + ([] : List (Str × Value)).length } →
      codeAny (model X.prog X.w) X.A (.compLoop (.ListComp elt [⟨tg, iter, ifs, 0⟩] scope pos) 0 (.ref it) (.ref s2.heap.objs.size) Y.env) (RR (.ref s2.heap.objs.size) s3.heap.objs.size) s5 := by
    rintro s5 rfl
    refine compLoop_go (fun k s' => ∃ i ys σ' H', Inv Y [] σ' H' s' ∧ tn i s'.heap ∧ (∀ b ∈ fp, H' b = none) ∧ i ≤ n ∧ k = n - i ∧ Pv i ys σ' H') ?_ n ⟨0, [], _, _, I4, st4, fun b hb => (f3 b hb).1, Nat.zero_le _, rfl, p0⟩
    rintro k s6 ⟨i, zs, σ6, H6, I6, st6, fr6, hin, rfl, pv6⟩
    by_cases hlt : i < n
    · obtain ⟨go, stp⟩ := step i zs σ6 H6 hlt pv6
      have q := T.item Y yP yw yK yc i [] s6 σ6 H6 (fun _ _ => False) I6 (stat fr6) st6 go
      rw [yA] at q
      refine thn q fun r s7 ⟨u, hr, h7⟩ => ?_
      subst hr
      refine thn h7 fun _ s8 ⟨x, H8, I8, r8, y8, st8, fr8⟩ => ?_
      have I8' := I8.pinned (stat fr8) (T.obj _ _ st8)
      have q := yg _ s8 σ6 H8 x u _ I8' r8 (stp x H8 y8)
      rw [yP, yw, yA, yx] at q
      refine thn q fun _ s9 ⟨σ9, H9, I9, q9⟩ => ?_
      have q := yt _ s9 σ9 H9 _ I9 q9
      rw [yP, yw, yA, yx] at q
      refine thn q fun b s10 ⟨H10, I10, q10⟩ => ?_
      have again : ∀ {ws : List V} {σ' : St} {H' : Hp} {s' : Shared}, Inv Y ([] ++ pinsAt fp s8.heap) σ' H' s' → Pv (i + 1) ws σ' H' → ∃ m, m < n - i ∧ ∃ i ys σ' H', Inv Y [] σ' H' s' ∧ tn i s'.heap ∧ (∀ b ∈ fp, H' b = none) ∧ i ≤ n ∧ m = n - i ∧ Pv i ys σ' H' := fun {ws σ' H' s'} J' p' => by
        refine ⟨n - (i + 1), by omega, i + 1, ws, σ', H', J'.unpinned, T.keep _ _ _ st8 fun b hb o e => (J'.pin (b, o) (List.mem_append_right _ (List.mem_append_right _ (mem_pinsAt hb e)))).1, fun b hb => ?_, hlt, rfl, p'⟩
        obtain ⟨o, e, d⟩ := T.obj _ _ st8 b hb
        exact (J'.pin (b, o) (List.mem_append_right _ (List.mem_append_right _ (mem_pinsAt hb e)))).2.1
      cases b with
      | false => exact again I10 q10
      | true =>
        have q10 := (if_pos (α := Prop) rfl).mp q10
        have q := ye _ s10 σ9 H10 _ I10 q10
        rw [yP, yw, yA, yx] at q
        refine iteT ?_
        refine thn q fun xv s11 ⟨y, H11, I11, r11, hl11, hz, p11⟩ => ?_
        have q := mt_append (X := Y) _ s11 σ9 H11 (.ref s2.heap.objs.size) [y] _ [xv] (fun _ H' => Pv (i + 1) (zs ++ [y]) σ9 H') I11 rfl (.cons r11 .nil) ⟨_, _, _, rfl, rfl, hl11, hz, p11⟩
        rw [yP, yw, yA, yx] at q
        exact thn q fun _ s12 ⟨_, H12, I12, _, p12⟩ => again I12 p12
    · have e : i = n := by omega
      subst e
      obtain ⟨stop, q⟩ := fin zs σ6 H6 pv6
      have qd := T.done Y yP yw yK yc i [] s6 σ6 H6 (fun _ _ => False) I6 (stat fr6) st6 stop
      rw [yA] at qd
      refine thn qd fun r s7 ⟨hr, I7⟩ => ?_
      subst hr
      exact hRR _ _ _ (done I7 q)
  show codeAny _ _ (.compStart _ 0 (.ref it) _ (compEnvC scope (closOf X.env.cells scope.names []) s3.heap.objs.size X.env)) (RR (.ref s2.heap.objs.size) s3.heap.objs.size) _
  rw [yenv]
  exact codeAny_compStart_list (loop _ rfl) (T.self X.A 0 _ _ _ st4 (loop _ rfl))
theorem FpOk.turned {pins : List (Addr × Obj)} {σ : St} {H : Hp} {s : Shared} {C : Addr} {h' : Heap} (f : FpOk X pins H C) (I : Inv X pins σ H s) (sb : Heap.SameBut C s.heap h') : Inv X pins σ H { s with heap := h' } :=
 I.turned (t' := s.toks) (fun b o hb e => (sb.2 b hb).trans e) f.1 f.2.1 f.2.2.2.1 f.2.2.2.2.1 f.2.2.2.2.2
theorem pe_comp (hc : X.calm = true) (c : CompOk X scope N cap) (hi : PI X tg iter wi) (hg : ∀ s H fp, PG (X.block scope N s H fp) tg g) (ht : ∀ s H fp, PTs (X.block scope N s H fp) ifs tt)
  (he : ∀ s H fp, PE (X.block scope N s H fp) elt te) (hs : ∀ x, foldedSetIterable iter X.env x = pure x := by intro _; rfl) : PE X (.ListComp elt [⟨tg, iter, ifs, 0⟩] scope pos) (tComp wi g tt te cap) := by
 intro pins s σ H Q I h
 rw [eval_ListComp]
 refine wpAny_comprehension_free rfl hs (closureFor_of (c.freeH I.ok)) c.kind c.lc ?_
 exact comp_run (U := fun a C s' => ∃ m, s'.heap.Ns C m ∧ ∀ h', Heap.SameBut C s'.heap h' → EP X pins σ Q a { s' with heap := h' }) hc c hi hg ht he I h
  (fun l C H' s' I' ⟨m, hn⟩ f q => ⟨m, hn, fun h' sb => ⟨.ref l, H', f.turned I' sb, rfl, q⟩⟩) fun a C s' u => u
theorem ps_setC {i : Nat} {x : Str} {pos' pos2 : Pos} (hN : X.N.Nodup) (hi' : X.N[i]? = some x) (hx : Loc X.env.scope x) (hc : X.calm = true) (c : CompOk X scope N cap) (hi : PI X tg iter wi) (hg : ∀ s H fp, PG (X.block scope N s H fp) tg g) (ht : ∀ s H fp, PTs (X.block scope N s H fp) ifs tt)
  (he : ∀ s H fp, PE (X.block scope N s H fp) elt te) (hsw : swapsWith (.ListComp elt [⟨tg, iter, ifs, 0⟩] scope pos) (some (.Name x pos')) pos2.line X.env = pure true) (hs : ∀ x, foldedSetIterable iter X.env x = pure x := by intro _; rfl)
  (hf : X.fn x = true ∨ X.env.scope.names.lookup x = some .local := by first | exact .inl rfl | exact .inr rfl | assumption) : PS X (.Assign [.Name x pos'] (.ListComp elt [⟨tg, iter, ifs, 0⟩] scope pos) pos2) (tAsg (tComp wi g tt te cap) (gName i)) := by
 intro pins s σ H D I h
 rw [exec_Assign_Name_used _ _ _ _ hsw]
 refine wpAny_bind (wpAny_standAt (wpAny_bind ?_))
 show wpAny _ X.A (do let _ ← comprehension (.ListComp elt [⟨tg, iter, ifs, 0⟩] scope pos) scope X.env _ (newList []) false (eval iter X.env) (some (assign (.Name x pos') X.env))) _ _ s
 refine wpAny_bind (wpAny_mono (wpAny_comprehension_free (Q := fun _ s' => SP X pins D .next s') rfl hs (closureFor_of (c.freeH I.ok)) c.kind c.lc ?_) (fun _ s' hq => wpAny_pure (wpAny_pure hq)) fun _ _ e => e)
 refine comp_run (U := fun a C s' => wpAny (model X.prog X.w) X.A (assign (.Name x pos') X.env a) (fun _ s'' => ∃ m, s''.heap.Ns C m ∧ ∀ h', Heap.SameBut C s''.heap h' → SP X pins D .next { s'' with heap := h' }) X.xe s') hc c hi hg ht he I h ?_ fun a C s' u => u
 intro l C H' s' I' hn f q
 obtain ⟨m, o, es, ep, ho, hd, r⟩ := hn
 have I2 : Inv X (pins ++ [(C, o)]) σ H' s' := I'.pins_of fun p hp => by
  rcases List.mem_append.mp hp with z | z
  ·exact I'.pin p (List.mem_append_right _ z)
  ·have e : p = (C, o) := by simpa using z
   subst e
   exact ⟨ho, f.1, f.2.1, f.2.2.1, fun v z => by rw [hd] at z; cases z⟩
 refine wpAny_assign_Name (store_ok I2 hN hi' hx (v := .ref l) rfl (fun s2 I3 => ?_) hf)
 have pc := (I3.pin (C, o) (List.mem_append_right _ (List.mem_append_right _ List.mem_cons_self))).1
 exact ⟨m, ⟨o, es, ep, pc, hd, r⟩, fun h' sb => ⟨_, H', f.turned I3.unpinned sb, q⟩⟩
end
end L2
set_option Elab.async false
set_option maxRecDepth 100000
namespace L2
open PySem PySem.Spec PyProof.Rows
section
variable {X : Cx}
theorem call_isinst : CallR X (.builtin "isinstance") (fun xs H Q => ∃ x n t b, xs = [x, .ty n] ∧ TyOf X.K H x t ∧ PySem.W.kitOne X.K t (.type n) = some b ∧ Q (.bl b) H) := by
 intro pins s σ H xs us Q I r h
 obtain ⟨x, n, t, b, rfl, ty, e, q⟩ := h
 obtain ⟨u, v, rfl, ru, rv⟩ := r.two
 cases (show v = Value.type n from rv)
 exact isinst_ok I ru ty e fun tk => ⟨.bl b, H, I.tok tk, rfl, q⟩
theorem in1_hd {A : Around} (h : A.handled = none) : A.in1.handled = none := h
theorem vals_getD {its : List Value} {bs : List Bool} (r : Vals (bs.map V.bl) its) {i : Nat} {v : Value} (e : its[i]? = some v) : v = .bool (bs.getD i false) := by
 have hl := r.length
 rw [List.length_map] at hl
 have hi : i < its.length := (List.getElem?_eq_some_iff.mp e).1
 have hb : (bs.map V.bl)[i]? = some (V.bl (bs.getD i false)) := by
  rw [List.getElem?_map, List.getD_eq_getElem?_getD, List.getElem?_eq_getElem (by omega)]
  rfl
 obtain ⟨u, hu, ru⟩ := r.get hb
 rw [e] at hu
 cases hu
 exact ru
theorem range_all (bs : List Bool) : (List.range bs.length).all (fun i => bs.getD i false) = bs.all id := by
 rw [Bool.eq_iff_iff]
 simp only [List.all_eq_true, List.mem_range, id]
 constructor
 ·intro h b hb
  obtain ⟨i, hi, rfl⟩ := List.mem_iff_getElem.mp hb
  have := h i hi
  rwa [List.getD_eq_getElem?_getD, List.getElem?_eq_getElem hi] at this
 ·intro h i hi
  rw [List.getD_eq_getElem?_getD, List.getElem?_eq_getElem hi]
  exact h _ (List.getElem_mem hi)
theorem call_all_bl (hc : X.calm = true) : CallR X (.builtin "all") (fun xs H Q => ∃ (p : Addr) (bs : List Bool), xs = [.ref p] ∧ SqL X.K H p (bs.map V.bl) ∧ Q (.bl (bs.all id)) H) := by
 intro pins s σ H xs us Q I r h
 obtain ⟨p, bs, rfl, hp, q⟩ := h
 obtain ⟨u, rfl, ru⟩ := r.one
 cases (show u = Value.ref p from ru)
 obtain ⟨its, rv, pl, hz⟩ := I.list hp
 have hh := in1_hd (I.ok.hd hc)
 have hlt : p < s.heap.objs.size := let ⟨o, ho, _⟩ := pl.isList; Heap.lt_size ho
 refine call_all_walk (wpAny_pyIter_list pl.isList ?_)
 refine ⟨s.heap.objs.size, _, _, _, _, _, fun i => bs.getD i false, rfl, Walks.list hh s.heap.objs.size p (Nat.ne_of_lt hlt) its.toArray, ⟨⟨_, Heap.get?_push_size _ rfl, rfl, rfl⟩, pl.isList.push _⟩, fun i v s' Q' E' hP hQ => ?_, fun h' tk hk => ?_⟩
 ·have := vals_getD rv (i := i) (v := v) (by simpa using hP)
  subst this
  exact wpAny_truthy_bool hQ
 ·have hl := rv.length
  rw [List.length_map] at hl
  refine ⟨.bl (bs.all id), H, I.kept (h' := h') (t' := tk) fun b o e => hk b o (by simpa using Nat.ne_of_lt (Heap.lt_size e)) (Heap.get?_push_of_some _ e), ?_, q⟩
  show _ = _
  rw [List.size_toArray, ← hl, range_all]
end
end L2
set_option Elab.async false
set_option maxRecDepth 100000
namespace L2
open PySem PySem.Spec PyProof.Rows
mutual
def Rep (H : Hp) : PyData → V → Prop
 | .none, v => v = .non
 | .bool b, v => v = .bl b
 | .int i, v => v = .int i
 | .str x, v => v = .str x
 | .list ds, v => ∃ a xs, v = .ref a ∧ H a = some (.lst xs) ∧ RepL H ds xs
 | .tuple ds, v => ∃ a xs, v = .ref a ∧ H a = some (.tup xs) ∧ RepL H ds xs
 | .dict _, _ => False
def RepL (H : Hp) : List PyData → List V → Prop
 | [], xs => xs = []
 | d :: ds, xs => ∃ x r, xs = x :: r ∧ Rep H d x ∧ RepL H ds r
end
mutual
theorem Rep.mono {H H' : Hp} (s : Same H H') : ∀ {d : PyData} {v : V}, Rep H d v → Rep H' d v
 | .none, _, h => by simpa [Rep] using h
 | .bool _, _, h => by simpa [Rep] using h
 | .int _, _, h => by simpa [Rep] using h
 | .str _, _, h => by simpa [Rep] using h
 | .list ds, _, h => by
  simp only [Rep] at h ⊢
  obtain ⟨a, xs, e, h1, h2⟩ := h
  exact ⟨a, xs, e, s _ _ h1, RepL.mono s h2⟩
 | .tuple ds, _, h => by
  simp only [Rep] at h ⊢
  obtain ⟨a, xs, e, h1, h2⟩ := h
  exact ⟨a, xs, e, s _ _ h1, RepL.mono s h2⟩
 | .dict _, _, h => by simp only [Rep] at h
theorem RepL.mono {H H' : Hp} (s : Same H H') : ∀ {ds : List PyData} {xs : List V}, RepL H ds xs → RepL H' ds xs
 | [], _, h => by simpa [RepL] using h
 | d :: ds, _, h => by
  simp only [RepL] at h ⊢
  obtain ⟨x, r, e, h1, h2⟩ := h
  exact ⟨x, r, e, Rep.mono s h1, RepL.mono s h2⟩
end
section
variable {X : Cx} {pins : List (Addr × Obj)} {σ : St} {H : Hp} {s : Shared}
mutual
theorem Rep.reads (I : Inv X pins σ H s) : ∀ {d : PyData} {v : V} {u : Value}, Rep H d v → RelV v u → ∃ as, Reads s.heap u d as
 | .none, _, _, h, r => by simp only [Rep] at h; subst h; cases r; exact ⟨_, .none⟩
 | .bool _, _, _, h, r => by simp only [Rep] at h; subst h; cases r; exact ⟨_, .bool _⟩
 | .int _, _, _, h, r => by simp only [Rep] at h; subst h; obtain ⟨t, rfl⟩ := r; exact ⟨_, .int _ _⟩
 | .str _, _, _, h, r => by simp only [Rep] at h; subst h; obtain ⟨t, rfl⟩ := r; exact ⟨_, .str _ _⟩
 | .list ds, _, _, h, r => by
  simp only [Rep] at h
  obtain ⟨a, xs, rfl, h1, h2⟩ := h
  cases (show _ = Value.ref a from r)
  obtain ⟨its, rv, pl, _⟩ := I.list (SqL.of h1)
  obtain ⟨as, ra⟩ := RepL.reads I h2 rv
  obtain ⟨o, n, e, c, _, d⟩ := pl
  exact ⟨_, .list e c d (by simpa using ra)⟩
 | .tuple ds, _, _, h, r => by
  simp only [Rep] at h
  obtain ⟨a, xs, rfl, h1, h2⟩ := h
  cases (show _ = Value.ref a from r)
  obtain ⟨its, rv, pl, _⟩ := I.tuple (SqT.of h1)
  obtain ⟨as, ra⟩ := RepL.reads I h2 rv
  obtain ⟨o, e, c, n, d⟩ := pl
  exact ⟨_, .tuple e c d (by simpa using ra)⟩
 | .dict _, _, _, h, _ => by simp only [Rep] at h
theorem RepL.reads (I : Inv X pins σ H s) : ∀ {ds : List PyData} {xs : List V} {us : List Value}, RepL H ds xs → Vals xs us → ∃ as, ReadsAll s.heap us ds as
 | [], _, _, h, r => by simp only [RepL] at h; subst h; cases r; exact ⟨_, .nil⟩
 | d :: ds, _, _, h, r => by
  simp only [RepL] at h
  obtain ⟨x, t, rfl, h1, h2⟩ := h
  cases r with
  | cons r1 r2 =>
   obtain ⟨as, a1⟩ := Rep.reads I h1 r1
   obtain ⟨bs, a2⟩ := RepL.reads I h2 r2
   exact ⟨_, .cons a1 a2⟩
end
end
def rEqD (neg : Bool) : R2 := fun x y H Q => ∃ d e, Rep H d x ∧ Rep H e y ∧ SeqAt.shaped d = true ∧ SeqAt.shaped e = true ∧ Q (.bl (if neg then !PyData.eqv d e else PyData.eqv d e)) H
section
variable {X : Cx}
theorem op_eqD (hu : X.A.units + 64 < cLine) : OpR X (compareOp .Eq) (rEqD false) := by
 intro pins s σ H x y v u Q I rx ry h
 obtain ⟨d, e, h1, h2, s1, s2, q⟩ := h
 obtain ⟨as, r1⟩ := h1.reads I rx
 obtain ⟨bs, r2⟩ := h2.reads I ry
 exact eq_dataH r1 r2 s1 s2 hu ⟨.bl _, H, I, rfl, q⟩
theorem op_neD (hu : X.A.units + 64 < cLine) : OpR X (compareOp .NotEq) (rEqD true) := by
 intro pins s σ H x y v u Q I rx ry h
 obtain ⟨d, e, h1, h2, s1, s2, q⟩ := h
 obtain ⟨as, r1⟩ := h1.reads I rx
 obtain ⟨bs, r2⟩ := h2.reads I ry
 exact ne_dataH r1 r2 s1 s2 hu ⟨.bl _, H, I, rfl, q⟩
end
def tyD : PyData → String
 | .none => "NoneType"
 | .bool _ => "bool"
 | .int _ => "int"
 | .str _ => "str"
 | .list _ => "list"
 | .tuple _ => "tuple"
 | .dict _ => "dict"
theorem Rep.ty {K : PySem.W.Frag} {H : Hp} {d : PyData} {v : V} (h : Rep H d v) : TyOf K H v (.type (tyD d)) := by
 cases d with
 | none => simp only [Rep] at h; subst h; exact .non
 | bool b => simp only [Rep] at h; subst h; exact .bl b
 | int b => simp only [Rep] at h; subst h; exact .int b
 | str b => simp only [Rep] at h; subst h; exact .str b
 | list ds => simp only [Rep] at h; obtain ⟨a, xs, rfl, e, _⟩ := h; exact .lst e
 | tuple ds => simp only [Rep] at h; obtain ⟨a, xs, rfl, e, _⟩ := h; exact .tup e
 | dict _ => simp only [Rep] at h
def isD (T : String) : PyData → Bool
 | .none => T == "NoneType"
 | .bool _ => T == "bool" || T == "int"
 | .int _ => T == "int"
 | .str _ => T == "str"
 | .list _ => T == "list"
 | .tuple _ => T == "tuple"
 | .dict _ => T == "dict"
theorem kit_bool {K : PySem.W.Frag} (d : PyData) : PySem.W.kitOne K (.type (tyD d)) (.type "bool") = some (isD "bool" d) := by cases d <;> kernel_rfl
theorem kit_int {K : PySem.W.Frag} (d : PyData) : PySem.W.kitOne K (.type (tyD d)) (.type "int") = some (isD "int" d) := by cases d <;> kernel_rfl
theorem kit_str {K : PySem.W.Frag} (d : PyData) : PySem.W.kitOne K (.type (tyD d)) (.type "str") = some (isD "str" d) := by cases d <;> kernel_rfl
theorem kit_list {K : PySem.W.Frag} (d : PyData) : PySem.W.kitOne K (.type (tyD d)) (.type "list") = some (isD "list" d) := by cases d <;> kernel_rfl
theorem kit_tuple {K : PySem.W.Frag} (d : PyData) : PySem.W.kitOne K (.type (tyD d)) (.type "tuple") = some (isD "tuple" d) := by cases d <;> kernel_rfl
end L2
set_option Elab.async false
set_option maxRecDepth 100000
namespace L2
open PySem PySem.Spec PyProof.Rows
theorem Inv.turnedL {X : Cx} {pins : List (Addr × Obj)} {σ : St} {H : Hp} {s : Shared} {h' : Heap} {t' : Nat} {ch : List Addr} {T : Addr} {o : HO} (I : Inv X pins σ H s) (k : ∀ b o, b ∉ ch → s.heap.get? b = some o → h'.get? b = some o)
  (f : ∀ b ∈ ch, FpOk X pins H b) (there : ∀ b ∈ ch, ∃ o, h'.get? b = some o) (hT : s.heap.objs.size ≤ T) (new : ObjOk X.prog X.w (upd H T o) h' T o) : Inv X pins σ (upd H T o) { s with heap := h', toks := t' } := by
 have nit : ∀ b u, H b = some u → b ∉ ch := fun b u e z => by rw [(f b z).1] at e; cases e
 have ltT : ∀ b ob, s.heap.get? b = some ob → b ≠ T := fun b ob e => Nat.ne_of_lt (Nat.lt_of_lt_of_le (Heap.lt_size e) hT)
 have hTn : H T = none := I.hok.fresh hT
 have neT : ∀ b u, H b = some u → b ≠ T := fun b u e => ne_of_none e hTn
 refine I.step (g' := s.gens) (d' := s.drawn) (ch := ch) (fun b hb => ⟨(f b hb).2.2.2.1, (f b hb).2.1, (f b hb).2.2.2.2.1, (f b hb).2.2.2.2.2⟩) (fun b o _ _ hc e _ => k b o hc e) (fun b o _ _ hc e _ => ⟨o.slots, k b o hc e⟩) (fun b o _ e n => by rw [upd_ne (ltT b o e)]; exact n)
  (fun b o hc e => ⟨o, k b o hc e⟩) (fun b _ e => by rw [upd_ne (neT b _ e)]; exact e) (fun b _ _ e => by rw [upd_ne (neT b _ e)]; exact e) (fun b ps e => ⟨#[], by rw [upd_ne (neT b _ e), e]; simp⟩) (fun m hm => ?_) (fun b u e => ?_) I.bare
 ·obtain ⟨ob, es, ep, ho, r⟩ := hm
  exact ⟨ob, es, ep, k _ ob (fun z => (f _ z).2.1 rfl) ho, r⟩
 ·by_cases hb : b = T
  ·subst hb
   rw [upd_same] at e
   cases e
   exact new
  ·rw [upd_ne hb] at e
   refine (I.hok b u e).stay (fun c v hc q => k c v ?_ q) (fun q e' => ?_) fun a q e' => ?_
   ·rcases hc with z | z
    ·rw [z]; exact nit b u e
    ·exact nit c _ z
   ·rw [upd_ne (neT _ _ e')]; exact e'
   ·rw [upd_ne (neT _ _ e')]; exact e'
def Itz (K : PySem.W.Frag) (a b : Addr) : It :=
  ⟨fun i H => ∃ xs ys x y, SqL K H a xs ∧ SqL K H b ys ∧ xs[i]? = some x ∧ ys[i]? = some y,
   fun i H v H' => ∃ T, v = .ref T ∧ H T = none ∧ ∀ xs ys, SqL K H a xs → SqL K H b ys → ∃ x y, xs[i]? = some x ∧ ys[i]? = some y ∧ H' = upd H T (.tup [x, y]),
   fun i H => ∃ xs ys, SqL K H a xs ∧ SqL K H b ys ∧ (xs.length ≤ i ∨ ys.length ≤ i)⟩
theorem turn_zip {P : Program} {w : World} {K : PySem.W.Frag} {elts : List Expr} {kt : Nat} {pt : Pos} {a b n : Addr} (ha : a < n) (hb : b < n) :
    Turn P w K (.Tuple elts kt pt) (Itz K a b) [n + 4, n + 2, n + 3, n, n + 1] (n + 4) (fun i h => IsZip h (n + 4) (n + 2) (n + 3) .none ∧ IsPair h (n + 2) (.ref n) (.ref (n + 1)) ∧ (∃ x y, IsPair h (n + 3) x y) ∧ h.IsListIter n a i ∧ h.IsListIter (n + 1) b i) where
  mem := by simp
  obj := fun i h st c hc => by
    obtain ⟨z1, z2, ⟨x, y, z3⟩, ⟨o4, e4, c4, d4⟩, ⟨o5, e5, c5, d5⟩⟩ := st
    simp only [List.mem_cons, List.not_mem_nil, or_false] at hc
    rcases hc with rfl | rfl | rfl | rfl | rfl
    · exact ⟨_, z1, fun v z => by cases z⟩
    · exact ⟨_, z2, fun v z => by cases z⟩
    · exact ⟨_, z3, fun v z => by cases z⟩
    · exact ⟨_, e4, fun v z => by rw [d4] at z; cases z⟩
    · exact ⟨_, e5, fun v z => by rw [d5] at z; cases z⟩
  keep := fun i h h' st k => by
    obtain ⟨z1, z2, ⟨x, y, z3⟩, z4, z5⟩ := st
    exact ⟨k _ (by simp) _ z1, k _ (by simp) _ z2, ⟨x, y, k _ (by simp) _ z3⟩, z4.at fun o e => k _ (by simp) o e, z5.at fun o e => k _ (by simp) o e⟩
  item := by
    intro X hP hw hK hc i pins s σ H E I hf st hg
    subst hP hw hK
    obtain ⟨xs, ys, x, y, hqa, hqb, hx, hy⟩ := hg
    obtain ⟨its, rv, p, hz⟩ := I.list hqa
    obtain ⟨jts, rw', p', hz'⟩ := I.list hqb
    obtain ⟨u, hu, ru⟩ := rv.get hx
    obtain ⟨u', hu', ru'⟩ := rw'.get hy
    obtain ⟨z1, z2, ⟨x0, y0, z3⟩, z4, z5⟩ := st
    have D : ZipApart (n + 4) (n + 2) (n + 3) n (n + 1) a b := PyProof.Rows.zipApart_new ha hb
    have ltz : n + 4 < s.heap.objs.size := Heap.lt_size z1
    refine wpAny_pyNext_zip_item D z1 z2 z3 z4 z5 p.isList p'.isList (x := u) (y := u') (by simpa using hu) (by simpa using hu') fun h' a1 a2 a3 a4 a5 a6 hk => ?_
    refine ⟨_, rfl, wpAny_letOwnedTupleGo_zip (s := { s with heap := h' }) a1 fun h2 b1 hs => ?_⟩
    have neT : ∀ {c : Addr}, c ≤ n + 4 → c ≠ s.heap.objs.size := fun h => Nat.ne_of_lt (Nat.lt_of_le_of_lt h ltz)
    have kk : ∀ c o, c ∉ [n + 4, n + 3, n, n + 1] → s.heap.get? c = some o → h2.get? c = some o := fun c o hc e => by
      simp only [List.mem_cons, List.not_mem_nil, or_false, not_or] at hc
      exact (hs.2 c hc.1).trans (hk c o hc.1 hc.2.1 hc.2.2.1 hc.2.2.2 e)
    have q2 : h2.get? (n + 2) = _ := kk _ _ (by simp only [List.mem_cons, List.not_mem_nil, or_false, not_or]; exact ⟨D.TIz, D.TITO, D.TIi1, D.TIi2⟩) z2
    have q3 : h2.get? (n + 3) = _ := (hs.2 _ D.TOz).trans a2
    obtain ⟨o4, e4, c4⟩ := a3
    obtain ⟨o5, e5, c5⟩ := a4
    have q4 : h2.get? n = _ := (hs.2 _ D.i1z).trans e4
    have q5 : h2.get? (n + 1) = _ := (hs.2 _ D.i2z).trans e5
    have qT : h2.get? s.heap.objs.size = _ := (hs.2 _ (Ne.symm (neT (Nat.le_refl _)))).trans a5
    have sub : ∀ c ∈ [n + 4, n + 3, n, n + 1], c ∈ [n + 4, n + 2, n + 3, n, n + 1] := fun c hc => by
      simp only [List.mem_cons, List.not_mem_nil, or_false] at hc ⊢
      rcases hc with e | e | e | e
      · exact .inl e
      · exact .inr (.inr (.inl e))
      · exact .inr (.inr (.inr (.inl e)))
      · exact .inr (.inr (.inr (.inr e)))
    have I1 : Inv X pins σ (upd H s.heap.objs.size (.tup [x, y])) { s with heap := h2, toks := s.toks } := I.turnedL (ch := [n + 4, n + 3, n, n + 1]) kk (fun c hc => hf c (sub c hc)) (fun c hc => by
        simp only [List.mem_cons, List.not_mem_nil, or_false] at hc
        rcases hc with rfl | rfl | rfl | rfl
        · exact ⟨_, b1⟩
        · exact ⟨_, q3⟩
        · exact ⟨_, q4⟩
        · exact ⟨_, q5⟩) (Nat.le_refl _) ⟨by show 2 ≤ sizeLine; decide, [u, u'], .cons ru (.cons ru' .nil), _, qT, rfl, _, rfl⟩
    refine ⟨.ref s.heap.objs.size, _, I1, rfl, ⟨_, rfl, I.hok.fresh (Nat.le_refl _), fun vs ws hv hw => ?_⟩, ⟨b1, q2, ⟨_, _, q3⟩, ⟨_, q4, c4⟩, ⟨_, q5, c5⟩⟩, fun c hc => ?_⟩
    · rw [I.list_inj hv hqa, I.list_inj hw hqb]
      exact ⟨x, y, hx, hy, rfl⟩
    · have hle : c ≤ n + 4 := by
        simp only [List.mem_cons, List.not_mem_nil, or_false] at hc
        rcases hc with rfl | rfl | rfl | rfl | rfl
        · exact Nat.le_refl _
        · exact Nat.le_add_right (n + 2) 2
        · exact Nat.le_add_right (n + 3) 1
        · exact Nat.le_add_right _ 4
        · exact Nat.le_add_right (n + 1) 3
      rw [upd_ne (neT hle)]
      exact (hf c hc).1
  done := by
    intro X hP hw hK hc i pins s σ H E I hf st hg
    subst hP hw hK
    obtain ⟨xs, ys, hqa, hqb, hl⟩ := hg
    obtain ⟨its, rv, p, hz⟩ := I.list hqa
    obtain ⟨jts, rw', p', hz'⟩ := I.list hqb
    obtain ⟨z1, z2, ⟨x0, y0, z3⟩, z4, z5⟩ := st
    have D : ZipApart (n + 4) (n + 2) (n + 3) n (n + 1) a b := PyProof.Rows.zipApart_new ha hb
    have l1 := rv.length
    have l2 := rw'.length
    refine wpAny_pyNext_zip_end (I.ok.hd hc) D z1 z2 z3 z4 z5 p.isList p'.isList ?_ fun h' hk => ⟨rfl, ?_⟩
    · rcases hl with h | h
      · exact .inl (by simp; omega)
      · exact .inr (by simp; omega)
    · have fp : ∀ c ∈ [n + 4, n + 3, n, n + 1], FpOk X pins H c := fun c hc => hf c (by
        simp only [List.mem_cons, List.not_mem_nil, or_false] at hc ⊢
        rcases hc with e | e | e | e
        · exact .inl e
        · exact .inr (.inr (.inl e))
        · exact .inr (.inr (.inr (.inl e)))
        · exact .inr (.inr (.inr (.inr e))))
      have kk : ∀ c o, c ∉ [n + 4, n + 3, n, n + 1] → s.heap.get? c = some o → h'.get? c = some o := fun c o hc e => by
        simp only [List.mem_cons, List.not_mem_nil, or_false, not_or] at hc
        exact hk c o hc.1 hc.2.1 hc.2.2.1 hc.2.2.2 e
      have nit : ∀ c u, H c = some u → c ∉ [n + 4, n + 3, n, n + 1] := fun c u e z => by rw [(fp c z).1] at e; cases e
      refine I.step (g' := s.gens) (d' := s.drawn) (t' := s.toks) (ch := [n + 4, n + 3, n, n + 1]) (fun c hc => ⟨(fp c hc).2.2.2.1, (fp c hc).2.1, (fp c hc).2.2.2.2.1, (fp c hc).2.2.2.2.2⟩) (fun c o _ _ hc e _ => kk c o hc e) (fun c o _ _ hc e _ => ⟨o.slots, kk c o hc e⟩) (fun _ _ _ _ n => n)
        (fun c o hc e => ⟨o, kk c o hc e⟩) (fun _ _ e => e) (fun _ _ _ e => e) (fun _ ps e => ⟨#[], by rw [e]; simp⟩) (fun m hm => ?_) (fun c u e => ?_) I.bare
      · obtain ⟨ob, es, ep, ho, r⟩ := hm
        exact ⟨ob, es, ep, kk _ ob (fun z => (fp _ z).2.1 rfl) ho, r⟩
      · refine (I.hok c u e).stay (fun d v hd q => kk d v ?_ q) (fun _ e' => e') fun _ _ e' => e'
        rcases hd with z | z
        · rw [z]; exact nit c u e
        · exact nit d _ z
  self := fun _ _ _ _ _ st h => wpAny_pyIter_zip st.1 h
section
variable {X : Cx} {elts : List Expr} {kt : Nat} {pt : Pos}
end
end L2
set_option Elab.async false
set_option maxRecDepth 100000
namespace L2
open PySem PySem.Spec PyProof.Rows
section
variable {σ : St} {H : Hp} {Q : VK} {D : Ends} {QB : Bool → Hp → Prop} {QA : List V → Hp → Prop}
theorem rd_next (h : D.nx σ H) : tNext D σ H := h
theorem rd_asg {te : TE} {g : TG} (h : te σ H fun x H1 => g x σ H1 D.nx) : tAsg te g D σ H := h
theorem rd_name {i : Nat} {v : V} {Q : St → Hp → Prop} (h : Q (σ.set i (some v)) H) : gName i v σ H Q := h
theorem rd_ret {te : TE} (h : te σ H D.rt) : tRet te D σ H := h
theorem rd_drop {te : TE} (h : te σ H fun _ H1 => D.nx σ H1) : tDrop te D σ H := h
theorem rd_ifS {c : TT} {t u : TS} (h : c σ H fun b H1 => if b = true then t D σ H1 else u D σ H1) : tIfS c t u D σ H := h
theorem rd_tB {t : TE} (h : t σ H fun x H1 => ∃ c, x = .bl c ∧ QB c H1) : tB t σ H QB := h
theorem rd_tTest {t : TE} (h : t σ H fun x H1 => ∃ c, x = .bl c ∧ QB c H1) : tTest t σ H QB := h
theorem rd_exbl {b : Bool} {P : Bool → Prop} (h : P b) : ∃ c, V.bl b = V.bl c ∧ P c := ⟨b, rfl, h⟩
theorem rd_exref {a : Addr} {P : Addr → Prop} (h : P a) : ∃ c, V.ref a = V.ref c ∧ P c := ⟨a, rfl, h⟩
theorem rd_exint {i : Int} {P : Int → Prop} (h : P i) : ∃ c, V.int i = V.int c ∧ P c := ⟨i, rfl, h⟩
theorem rd_var {i : Nat} {v : V} (e : σ[i]? = some (some v)) (h : Q v H) : tVar i σ H Q := ⟨v, e, h⟩
theorem rd_c {v : V} (h : Q v H) : tC v σ H Q := h
theorem rd_op {r : R2} {ta tb : TE} (h : ta σ H fun x H1 => tb σ H1 fun y H2 => r x y H2 Q) : tOp r ta tb σ H Q := h
theorem rd_un {r : V → Hp → VK → Prop} {ta : TE} (h : ta σ H fun x H1 => r x H1 Q) : tUn r ta σ H Q := h
theorem rd_andV {ta tb : TE} (h : ta σ H fun x H1 => ∃ c, x = .bl c ∧ if c = true then tb σ H1 Q else Q (.bl false) H1) : tAndV ta tb σ H Q := h
theorem rd_notV {ta : TE} (h : ta σ H fun x H1 => ∃ c, x = .bl c ∧ Q (.bl (!c)) H1) : tNotV ta σ H Q := h
theorem rd_and {t u : TT} (h : t σ H fun c H1 => if c = true then u σ H1 QB else QB false H1) : tAnd t u σ H QB := h
theorem rd_or {t u : TT} (h : t σ H fun c H1 => if c = true then QB true H1 else u σ H1 QB) : tOr t u σ H QB := h
theorem rd_not {t : TT} (h : t σ H fun c H1 => QB (!c) H1) : tNot t σ H QB := h
theorem rd_if {t : TT} {ta tb : TE} (h : t σ H fun c H1 => if c = true then ta σ H1 Q else tb σ H1 Q) : tIf t ta tb σ H Q := h
theorem rd_true (h : QB true H) : tTrue σ H QB := h
theorem rd_I0 {g : Int → Int → V} {i j : Int} (h : Q (g i j) H) : rI0 g (.int i) (.int j) H Q := ⟨i, j, rfl, rfl, h⟩
theorem rd_I {C : Int → Int → Prop} {g : Int → Int → V} {i j : Int} (c : C i j) (h : Q (g i j) H) : rI C g (.int i) (.int j) H Q := ⟨i, j, rfl, rfl, c, h⟩
theorem rd_U {g : Int → V} {i : Int} (h : Q (g i) H) : rU g (.int i) H Q := ⟨i, rfl, h⟩
theorem rd_eqI {i j : Int} (h : Q (.bl (decide (i = j))) H) : rEq (.int i) (.int j) H Q := ⟨rfl, by
 rw [dec_int, Int.instDecidableEq.eq_def] <;> first | exact h | (simpa [dec_int] using h)⟩
theorem rd_neI {i j : Int} (h : Q (.bl (!decide (i = j))) H) : rNe (.int i) (.int j) H Q := ⟨rfl, by
 have e : decide (V.int i = V.int j) = decide (i = j) := by by_cases z : i = j <;> simp [z]
 rw [e]; exact h⟩
theorem rd_eqS {i j : Str} (h : Q (.bl (decide (i = j))) H) : rEq (.str i) (.str j) H Q := ⟨rfl, by
 have e : decide (V.str i = V.str j) = decide (i = j) := by by_cases z : i = j <;> simp [z]
 rw [e]; exact h⟩
theorem rd_eqB {i j : Bool} (h : Q (.bl (decide (i = j))) H) : rEq (.bl i) (.bl j) H Q := ⟨rfl, by
 have e : decide (V.bl i = V.bl j) = decide (i = j) := by by_cases z : i = j <;> simp [z]
 rw [e]; exact h⟩
theorem rd_neB {i j : Bool} (h : Q (.bl (!decide (i = j))) H) : rNe (.bl i) (.bl j) H Q := ⟨rfl, by
 have e : decide (V.bl i = V.bl j) = decide (i = j) := by by_cases z : i = j <;> simp [z]
 rw [e]; exact h⟩
theorem rd_ixL {K : PySem.W.Frag} {p : Addr} {xs : List V} {i : Int} {v : V} (h : SqL K H p xs) (e : atI xs i = some v) (q : Q v H) : rIxL K (.ref p) (.int i) H Q := ⟨p, xs, i, v, rfl, rfl, h, e, q⟩
theorem rd_ixT {K : PySem.W.Frag} {p : Addr} {xs : List V} {i : Int} {v : V} (h : SqT K H p xs) (e : atI xs i = some v) (q : Q v H) : rIxT K (.ref p) (.int i) H Q := ⟨p, xs, i, v, rfl, rfl, h, e, q⟩
theorem rd_chain {r r' : R2} {ta tb tc : TE} (h : ta σ H fun x H1 => tb σ H1 fun y H2 => r x y H2 fun z H3 => ∃ k, z = .bl k ∧ if k = true then tc σ H3 fun y' H4 => r' y y' H4 Q else Q (.bl false) H3) : tChain r r' ta tb tc σ H Q := h
theorem rd_call {sp : Sp} {dvs : List V} {E : XK} {t : TA} (h : t σ H fun vs H1 => sp (vs ++ dvs) H1 Q E) : tCall sp dvs E t σ H Q := h
theorem rd_nil (h : QA [] H) : tNil σ H QA := h
theorem rd_cons {ta : TE} {tr : TA} (h : ta σ H fun x H1 => tr σ H1 fun xs H2 => QA (x :: xs) H2) : tCons ta tr σ H QA := h
theorem rd_CB {r : List V → Hp → VK → Prop} {t : TA} (h : t σ H fun vs H1 => r vs H1 Q) : tCB r t σ H Q := h
theorem rd_tup {t : TA} (h : t σ H fun xs H1 => xs.length ≤ sizeLine ∧ ∀ p, H1 p = none → Q (.ref p) (upd H1 p (.tup xs))) : tTup t σ H Q := h
theorem rd_lst {t : TA} (h : t σ H fun xs H1 => xs.length ≤ sizeLine ∧ ∀ p, H1 p = none → Q (.ref p) (upd H1 p (.lst xs))) : tLst t σ H Q := h
end
end L2
set_option Elab.async false
set_option maxRecDepth 100000
namespace L2
open PySem PySem.Spec PyProof.Rows
theorem kit_ii {K : PySem.W.Frag} : PySem.W.kitOne K (.type "int") (.type "int") = some true := by kernel_rfl
theorem kit_ib {K : PySem.W.Frag} : PySem.W.kitOne K (.type "int") (.type "bool") = some false := by kernel_rfl
section
variable {X : Cx} {K : PySem.W.Frag} {H : Hp} {Q : VK} {σ : St}
def rIsi (K : PySem.W.Frag) : List V → Hp → VK → Prop := fun xs H Q => ∃ x n t b, xs = [x, .ty n] ∧ TyOf K H x t ∧ PySem.W.kitOne K t (.type n) = some b ∧ Q (.bl b) H
theorem cI_isinst : CallR X (.builtin "isinstance") (rIsi X.K) := call_isinst
theorem rd_isi {x : V} {n : String} {t : Value} {b : Bool} (ty : TyOf K H x t) (e : PySem.W.kitOne K t (.type n) = some b) (h : Q (.bl b) H) : rIsi K [x, .ty n] H Q := ⟨x, n, t, b, rfl, ty, e, h⟩
def rLen (K : PySem.W.Frag) : List V → Hp → VK → Prop := fun xs H Q => ∃ p ys, xs = [.ref p] ∧ (SqL K H p ys ∨ SqT K H p ys) ∧ Q (.int ys.length) H
theorem cI_len : CallR X (.builtin "len") (rLen X.K) := call_len_seq
theorem rd_lenL {p : Addr} {ys : List V} (h : H p = some (.lst ys)) (q : Q (.int ys.length) H) : rLen K [.ref p] H Q := ⟨p, ys, rfl, .inl (SqL.of h), q⟩
theorem rd_lenT {p : Addr} {ys : List V} (h : H p = some (.tup ys)) (q : Q (.int ys.length) H) : rLen K [.ref p] H Q := ⟨p, ys, rfl, .inr (SqT.of h), q⟩
def rAll (K : PySem.W.Frag) : List V → Hp → VK → Prop := fun xs H Q => ∃ (p : Addr) (bs : List Bool), xs = [.ref p] ∧ SqL K H p (bs.map V.bl) ∧ Q (.bl (bs.all id)) H
theorem cI_all (hc : X.calm = true) : CallR X (.builtin "all") (rAll X.K) := call_all_bl hc
theorem rd_all {p : Addr} {bs : List Bool} (h : H p = some (.lst (bs.map V.bl))) (q : Q (.bl (bs.all id)) H) : rAll K [.ref p] H Q := ⟨p, bs, rfl, SqL.of h, q⟩
def rAbs : List V → Hp → VK → Prop := fun xs H Q => ∃ i, xs = [.int i] ∧ Q (.int (if i < 0 then -i else i)) H
theorem cI_abs : CallR X (.builtin "abs") rAbs := call_abs
theorem rd_abs {i : Int} (q : Q (.int (if i < 0 then -i else i)) H) : rAbs [.int i] H Q := ⟨i, rfl, q⟩
def rList (K : PySem.W.Frag) : List V → Hp → VK → Prop := fun xs H Q => ∃ p ys, xs = [.ref p] ∧ (SqL K H p ys ∨ SqT K H p ys) ∧ ∀ l, H l = none → Q (.ref l) (upd H l (.lst ys))
theorem cI_list : CallR X (.type "list") (rList X.K) := call_list_of
theorem rd_listL {p : Addr} {ys : List V} (h : H p = some (.lst ys)) (q : ∀ l, H l = none → Q (.ref l) (upd H l (.lst ys))) : rList K [.ref p] H Q := ⟨p, ys, rfl, .inl (SqL.of h), q⟩
def rTuple (K : PySem.W.Frag) : List V → Hp → VK → Prop := fun xs H Q => ∃ p ys, xs = [.ref p] ∧ ((SqL K H p ys ∧ ∀ l, H l = none → Q (.ref l) (upd H l (.tup ys))) ∨ (SqT K H p ys ∧ Q (.ref p) H))
theorem cI_tuple : CallR X (.type "tuple") (rTuple X.K) := call_tuple_of
theorem rd_tupleL {p : Addr} {ys : List V} (h : H p = some (.lst ys)) (q : ∀ l, H l = none → Q (.ref l) (upd H l (.tup ys))) : rTuple K [.ref p] H Q := ⟨p, ys, rfl, .inl ⟨SqL.of h, q⟩⟩
def rFld (K : PySem.W.Frag) (f : Str) : V → Hp → VK → Prop := fun x H1 Q => ∃ a C dx fs v, x = .ref a ∧ H1 a = some (.ins C dx fs) ∧ Cls K C ∧ NoAttr K C f ∧ fs.lookup f = some v ∧ Q v H1
theorem rd_fld {ta : TE} {f : Str} (h : ta σ H fun x H1 => rFld K f x H1 Q) : tFld K ta f σ H Q := h
theorem rd_fldv {f : Str} {a C dx : Addr} {fs : List (Str × V)} {v : V} (h : H a = some (.ins C dx fs)) (c : Cls K C) (n : NoAttr K C f) (l : fs.lookup f = some v) (q : Q v H) : rFld K f (.ref a) H Q := ⟨a, C, dx, fs, v, rfl, h, c, n, l, q⟩
def rMeth (C : Addr) (m : Str) : V → Hp → Prop → Prop := fun x H1 q => ∃ a dx fs, x = .ref a ∧ H1 a = some (.ins C dx fs) ∧ fs.lookup m = none ∧ q
theorem rd_meth {C : Addr} {m : Str} {sp : Sp} {dvs : List V} {E : XK} {ta : TE} {t : TA} (h : ta σ H fun x H1 => rMeth C m x H1 (t σ H1 fun vs H2 => sp (x :: (vs ++ dvs)) H2 Q E)) : tMeth C m sp dvs E ta t σ H Q := h
theorem rd_methv {C a dx : Addr} {m : Str} {fs : List (Str × V)} {q : Prop} (h : H a = some (.ins C dx fs)) (l : fs.lookup m = none) (hq : q) : rMeth C m (.ref a) H q := ⟨a, dx, fs, rfl, h, l, hq⟩
theorem rd_make {C : Addr} {sp : Sp} {dvs : List V} {E : XK} {t : TA} (h : t σ H fun vs H1 => ∀ x dx, H1 x = none → H1 dx = none → dx ≠ x →
 sp (.ref x :: (vs ++ dvs)) (upd (upd H1 dx (.own x)) x (.ins C dx [])) (fun v H2 => v = .non ∧ Q (.ref x) H2) E) : tMake C sp dvs E t σ H Q := h
def rBM (K : PySem.W.Frag) (T : String) : V → Hp → Prop → Prop := fun x H1 q => tyV K T x H1 ∧ q
theorem rd_bm {T : String} {r : V → List V → Hp → VK → Prop} {to : TE} {t : TA} (h : to σ H fun x H1 => rBM K T x H1 (t σ H1 fun xs H2 => r x xs H2 Q)) : tBM K T r to t σ H Q := h
theorem rd_bm0 {T : String} {r : V → List V → Hp → VK → Prop} {to : TE} (h : to σ H fun x H1 => rBM K T x H1 (r x [] H1 Q)) : tBM0 K T r to σ H Q := h
theorem rd_bmL {l : Addr} {xs : List V} {q : Prop} (h : H l = some (.lst xs)) (hq : q) : rBM K "list" (.ref l) H q := ⟨.inl ⟨rfl, _, SqL.of h⟩, hq⟩
theorem rd_append {l : Addr} {xs : List V} {y : V} (h : H l = some (.lst xs)) (z : xs.length < sizeLine) (q : Q .non (upd H l (.lst (xs ++ [y])))) : rAppend (.ref l) [y] H Q := ⟨l, xs, y, rfl, rfl, h, z, q⟩
theorem rd_clear {l : Addr} {xs : List V} (h : H l = some (.lst xs)) (q : Q .non (upd H l (.lst []))) : rClear (.ref l) [] H Q := ⟨l, xs, rfl, rfl, h, q⟩
theorem rd_sl {r : V → Option Int → Option Int → Hp → VK → Prop} {te : TE} {tl th : TO} (h : te σ H fun x H1 => tl σ H1 fun l H2 => th σ H2 fun u H3 => r x l u H3 Q) : tSl r te tl th σ H Q := h
theorem rd_nopart {Q : Option Int → Hp → Prop} (h : Q none H) : tNoPart σ H Q := h
theorem rd_part {t : TE} {Q : Option Int → Hp → Prop} (h : t σ H fun x H1 => ∃ i, x = .int i ∧ Q (some i) H1) : tPart t σ H Q := h
theorem rd_slL {a : Addr} {xs : List V} {lo hi : Option Int} (h : H a = some (.lst xs)) (q : ∀ p, H p = none → Q (.ref p) (upd H p (.lst (cutV xs lo hi)))) : rSlL K (.ref a) lo hi H Q := ⟨a, xs, rfl, SqL.of h, q⟩
def ForW (J : It) (g : TG) (tb : TS) (D : Ends) (σ : St) (H1 : Hp) : Prop := ∃ W : Nat → Nat → St → Hp → Prop, (∃ m, W 0 m σ H1) ∧ ∀ i m σ H, W i m σ H →
 (J.stop i H ∧ D.nx σ H) ∨ (J.go i H ∧ ∃ N : St → Hp → Prop, (∀ σ' H', N σ' H' → ∃ m', m' < m ∧ W (i + 1) m' σ' H') ∧ ∀ x H', J.yld i H x H' → g x σ H' fun σ2 H2 => tb { D with nx := N, ct := N, bk := D.nx } σ2 H2)
theorem rd_for {wi : TI} {g : TG} {tb : TS} {D : Ends} (h : wi σ H fun J H1 => ForW J g tb D σ H1) : tFor wi g tb D σ H := h
theorem forW_list {a : Addr} {xs : List V} {g : TG} {tb : TS} {D : Ends} (Pv : Nat → St → Hp → Prop) (h0 : Pv 0 σ H) (hl : ∀ i σ H, i ≤ xs.length → Pv i σ H → SqL K H a xs)
  (hs : ∀ i x σ H, xs[i]? = some x → Pv i σ H → g x σ H fun σ2 H2 => tb { D with nx := Pv (i + 1), ct := Pv (i + 1), bk := D.nx } σ2 H2) (hd : ∀ σ H, Pv xs.length σ H → D.nx σ H) : ForW (Itl K a) g tb D σ H := for_list Pv h0 hl hs hd
theorem forW_range {lo : Int} {n : Nat} {g : TG} {tb : TS} {D : Ends} (Pv : Nat → St → Hp → Prop) (h0 : Pv 0 σ H)
  (hs : ∀ i σ H, i < n → Pv i σ H → g (.int (lo + i)) σ H fun σ2 H2 => tb { D with nx := Pv (i + 1), ct := Pv (i + 1), bk := D.nx } σ2 H2) (hd : ∀ σ H, Pv n σ H → D.nx σ H) : ForW (Itr lo n) g tb D σ H := for_range Pv h0 hs hd
theorem rd_rng1 {ta : TA} {R : It → Hp → Prop} (h : ta σ H fun vs H1 => ∃ j : Int, vs = [.int j] ∧ -(2 ^ 62) ≤ j ∧ j < 2 ^ 62 ∧ R (Itr 0 j.toNat) H1) : iRng1 ta σ H R := h
theorem rd_ilist {tl : TE} {R : It → Hp → Prop} (h : tl σ H fun x H1 => ∃ a, x = .ref a ∧ (∃ xs, SqL K H1 a xs) ∧ R (Itl K a) H1) : iList K tl σ H R := h
end
theorem atI_ints {zs : List Int} {i : Int} (h0 : 0 ≤ i) (h1 : i < zs.length) : atI (zs.map V.int) i = some (.int (zs.getD i.toNat 0)) := by
 obtain ⟨k, rfl⟩ : ∃ k : Nat, i = (k : Int) := ⟨i.toNat, by omega⟩
 refine atI_nat ?_
 have hk : k < zs.length := by omega
 simp [hk]
theorem small_line {n : Nat} (h : n ≤ 1000) : n ≤ sizeLine := Nat.le_of_lt (small1000 h)
theorem Same.new {H : Hp} {p : Addr} {o : HO} (h : H p = none) : Same H (upd H p o) := fun b u e => by rw [upd_ne (ne_of_none e h)]; exact e
theorem Same.later {H0 H : Hp} {p : Addr} {o : HO} (s : Same H0 H) (h : H0 p = none) : Same H0 (upd H p o) := fun b u e => by rw [upd_ne (ne_of_none e h)]; exact s b u e
end L2
set_option Elab.async false
set_option maxRecDepth 100000
namespace L2
open PySem PySem.Spec PyProof.Rows
theorem iteNN {b : Bool} {A B : Prop} (h : if b = true then B else A) : if (!b) = true then A else B := by cases b <;> exact h
section
variable {prog : Program} {w : World} {A : Around} {E : Value → Shared → Prop} {s : Shared}
end
def CompW (J : It) (g : TG) (tt : TT) (te : TE) (cap : List (Option Nat)) (l : Addr) (σ : St) (H1 : Hp) (Q : VK) : Prop :=
 ∃ (n : Nat) (Pv : Nat → List V → St → Hp → Prop), Pv 0 [] (capS cap σ) (upd H1 l (.lst [])) ∧
  (∀ i ys σ' H', i < n → Pv i ys σ' H' → J.go i H' ∧ ∀ x H2, J.yld i H' x H2 → g x σ' H2 fun σ3 H3 => tt σ3 H3 fun b H4 =>
   if b = true then te σ3 H4 fun y H5 => H5 l = some (.lst ys) ∧ ys.length < sizeLine ∧ Pv (i + 1) (ys ++ [y]) σ3 (upd H5 l (.lst (ys ++ [y]))) else Pv (i + 1) ys σ3 H4) ∧
  ∀ ys σ' H', Pv n ys σ' H' → J.stop n H' ∧ Q (.ref l) H'
section
variable {K : PySem.W.Frag} {σ : St} {H : Hp} {Q : VK} {te : TE} {cap : List (Option Nat)} {l : Addr}
theorem rd_comp {wi : TI} {g : TG} {tt : TT} (h : wi σ H fun J H1 => ∀ l, H1 l = none → CompW J g tt te cap l σ H1 Q) : tComp wi g tt te cap σ H Q := h
theorem take_succ_map {α β : Type} (F : α → β) (xs : List α) (i : Nat) {x : α} (h : xs[i]? = some x) : (xs.take (i + 1)).map F = (xs.take i).map F ++ [F x] := by
 rw [List.take_add_one, h, List.map_append]
 rfl
theorem compW_list {a : Addr} {xs : List V} (F : V → V) (hs : SqL K H a xs) (hz : xs.length ≤ 1000) (hl : H l = none)
  (step : ∀ x o H' (Q' : VK), x ∈ xs → Same H H' → (∀ H5, Same H' H5 → Q' (F x) H5) → te (((capS (none :: cap) σ).set 0 o).set 0 (some x)) H' Q')
  (fin : ∀ H', Same H H' → H' l = some (.lst (xs.map F)) → Q (.ref l) H') : CompW (Itl K a) (gName 0) tTrue te (none :: cap) l σ H Q := by
 refine ⟨xs.length, fun i ys σ' H' => ys = (xs.take i).map F ∧ (∃ o, σ' = (capS (none :: cap) σ).set 0 o) ∧ Same H H' ∧ H' l = some (.lst ys), ⟨rfl, ⟨none, rfl⟩, Same.new hl, upd_same⟩, ?_, ?_⟩
 ·rintro i ys σ' H' hi ⟨rfl, ⟨o, rfl⟩, s, e⟩
  refine ⟨⟨xs, xs[i], s.seq hs, by simp [hi]⟩, fun x H2 y => ?_⟩
  obtain ⟨e2, y⟩ := y
  subst e2
  have hx := y xs (s.seq hs)
  refine rd_name (rd_true (iteT ?_))
  refine step x o H2 _ (List.mem_of_getElem? hx) s fun H5 s5 => ⟨s5 _ _ e, ?_, ?_⟩
  ·rw [List.length_map, List.length_take]
   exact small1000 (by omega)
  ·exact ⟨(take_succ_map F xs i hx).symm, ⟨_, List.set_set ..⟩, (s.trans s5).later hl, upd_same⟩
 ·rintro ys σ' H' ⟨rfl, _, s, e⟩
  rw [List.take_of_length_le (Nat.le_refl _)] at e
  exact ⟨⟨xs, s.seq hs, Nat.le_refl _⟩, fin H' s e⟩
theorem compW_range {n : Nat} (F : Nat → V) (hz : n ≤ 1000) (hl : H l = none)
  (step : ∀ i o H' (Q' : VK), i < n → Same H H' → (∀ H5, Same H' H5 → Q' (F i) H5) → te (((capS (none :: cap) σ).set 0 o).set 0 (some (.int ((0 : Int) + (i : Nat))))) H' Q')
  (fin : ∀ H', Same H H' → H' l = some (.lst ((List.range n).map F)) → Q (.ref l) H') : CompW (Itr 0 n) (gName 0) tTrue te (none :: cap) l σ H Q := by
 refine ⟨n, fun i ys σ' H' => ys = (List.range i).map F ∧ (∃ o, σ' = (capS (none :: cap) σ).set 0 o) ∧ Same H H' ∧ H' l = some (.lst ys), ⟨rfl, ⟨none, rfl⟩, Same.new hl, upd_same⟩, ?_, ?_⟩
 ·rintro i ys σ' H' hi ⟨rfl, ⟨o, rfl⟩, s, e⟩
  refine ⟨hi, fun x H2 y => ?_⟩
  obtain ⟨e2, rfl⟩ := y
  subst e2
  refine rd_name (rd_true (iteT ?_))
  refine step i o H2 _ hi s fun H5 s5 => ⟨s5 _ _ e, ?_, ?_⟩
  ·rw [List.length_map, List.length_range]
   exact small1000 (by omega)
  ·refine ⟨?_, ⟨_, List.set_set ..⟩, (s.trans s5).later hl, upd_same⟩
   rw [List.range_succ, List.map_append]
   rfl
 ·rintro ys σ' H' ⟨rfl, _, s, e⟩
  exact ⟨Nat.le_refl _, fin H' s e⟩
def rSFld (K : PySem.W.Frag) (f : Str) (y x : V) (H2 : Hp) (k : Hp → Prop) : Prop := ∃ a C dx fs, x = .ref a ∧ H2 a = some (.ins C dx fs) ∧ Cls K C ∧ NoAttr K C f ∧ fs.length < 1000 ∧ k (upd H2 a (.ins C dx (putF f y fs)))
theorem rd_sfld {D : Ends} {ta tv : TE} {f : Str} (h : tv σ H fun y H1 => ta σ H1 fun x H2 => rSFld K f y x H2 fun H3 => D.nx σ H3) : sFld K ta tv f D σ H := h
theorem rd_sfldv {f : Str} {y : V} {k : Hp → Prop} {a C dx : Addr} {fs : List (Str × V)} (h : H a = some (.ins C dx fs)) (c : Cls K C) (n : NoAttr K C f) (z : fs.length < 1000) (q : k (upd H a (.ins C dx (putF f y fs)))) : rSFld K f y (.ref a) H k := ⟨a, C, dx, fs, rfl, h, c, n, z, q⟩
def WhileW (c : TT) (tb : TS) (D : Ends) (σ : St) (H : Hp) : Prop := ∃ W : Nat → St → Hp → Prop, (∃ m, W m σ H) ∧ ∀ m σ H, W m σ H →
 c σ H fun b H1 => if b = true then ∃ N : St → Hp → Prop, (∀ σ' H', N σ' H' → ∃ m', m' < m ∧ W m' σ' H') ∧ tb { D with nx := N, ct := N, bk := D.nx } σ H1 else D.nx σ H1
theorem rd_while {D : Ends} {c : TT} {tb : TS} (h : WhileW c tb D σ H) : tWhile c tb D σ H := h
theorem rd_aug {D : Ends} {i : Nat} {te : TE} {ti : TIp} {x : V} (e : σ[i]? = some (some x)) (h : te σ H fun y H1 => ti x y H1 fun z H2 => D.nx (σ.set i (some z)) H2) : tAug i te ti D σ H := ⟨x, e, h⟩
theorem rd_ipI {f : Int → Int → Int} {i j : Int} (h : Q (.int (f i j)) H) : ipI f (.int i) (.int j) H Q := ⟨i, j, rfl, rfl, h⟩
theorem rd_gtup {n : Nat} {tt : TGs} {a : Addr} {xs : List V} {QS : St → Hp → Prop} (h : H a = some (.tup xs)) (hl : xs.length = n) (q : tt xs σ H QS) : gTup K n tt (.ref a) σ H QS := ⟨a, xs, rfl, SqT.of h, hl, q⟩
theorem rd_gcons {tg : TG} {u : TGs} {v : V} {r : List V} {QS : St → Hp → Prop} (h : tg v σ H fun σ' H' => u r σ' H' QS) : gCons tg u (v :: r) σ H QS := ⟨v, r, rfl, h⟩
theorem rd_gnil {QS : St → Hp → Prop} (h : QS σ H) : gNil [] σ H QS := ⟨rfl, h⟩
end
section
variable {X : Cx} (K : PySem.W.Frag) (h : X.K = K)
include h
theorem ix_listK : IxR X (rIxL K) := h ▸ ix_list
theorem ix_tupK : IxR X (rIxT K) := h ▸ ix_tup
theorem cI_isinstK : CallR X (.builtin "isinstance") (rIsi K) := h ▸ cI_isinst
theorem cI_lenK : CallR X (.builtin "len") (rLen K) := h ▸ cI_len
theorem cI_allK (hc : X.calm = true) : CallR X (.builtin "all") (rAll K) := h ▸ cI_all hc
theorem cI_listK : CallR X (.type "list") (rList K) := h ▸ cI_list
theorem cI_tupleK : CallR X (.type "tuple") (rTuple K) := h ▸ cI_tuple
theorem sl_listK : SlR X (rSlL K) := h ▸ sl_list
theorem pe_fldK {e : Expr} {ta : TE} {f : Str} {pos : Pos} (he : PE X e ta) (hb : attributeBase e f X.env (eval e X.env) = eval e X.env) : PE X (.Attribute e f pos) (tFld K ta f) := h ▸ pe_fld he hb
end
theorem cutV_drop {zs : List Int} {k : Nat} : cutV (zs.map V.int) (some (k : Int)) none = (zs.drop k).map V.int := by
 unfold cutV
 rw [HT.sIx_none, HT.sIx_nat, List.length_map]
 rcases Nat.le_total k zs.length with h | h
 ·rw [Nat.min_eq_left h, ← List.map_drop, List.take_of_length_le (by rw [List.length_map, List.length_drop]; omega)]
 ·rw [Nat.min_eq_right h, List.drop_eq_nil_of_le h, Nat.sub_self, List.take_zero]; rfl
theorem getD_mem {α : Type} {zs : List α} {k : Nat} {d : α} (h : k < zs.length) : zs.getD k d ∈ zs := by
 rw [List.getD_eq_getElem?_getD, List.getElem?_eq_getElem h]
 exact List.getElem_mem h
end L2
set_option Elab.async false
set_option maxRecDepth 100000
namespace L2
open PySem PySem.Spec PyProof.Rows
theorem pg_tupK {X : Cx} (K : PySem.W.Frag) (hK : X.K = K) {es : List Expr} {k : Nat} {t : TGs} {n : Nat} {pos : Pos} (hc : X.calm = true) (h : PGs X es t)
  (hn : (assignEach es X.env).length = n := by rfl) (hst : (assignEach es X.env).findIdx? (·.1) = none := by rfl) : PG X (.Tuple es k pos) (gTup K n t) := hK ▸ pg_tup hc h hn hst
theorem repL_get {H : Hp} : ∀ {ds : List PyData} {xs : List V}, RepL H ds xs → ds.length = xs.length ∧ ∀ (i : Nat) x, xs[i]? = some x → ∃ d, ds[i]? = some d ∧ Rep H d x
 | [], xs, h => by simp only [RepL] at h; subst h; exact ⟨rfl, fun i x e => by simp at e⟩
 | d :: ds, xs, h => by
  simp only [RepL] at h
  obtain ⟨x, r, rfl, h1, h2⟩ := h
  obtain ⟨l, g⟩ := repL_get h2
  refine ⟨by simp [l], fun i y e => ?_⟩
  cases i with
  | zero => simp at e; subst e; exact ⟨d, rfl, h1⟩
  | succ i => exact g i y (by simpa using e)
end L2
set_option Elab.async false
set_option maxRecDepth 100000
namespace L2
open PySem PySem.Spec PyProof.Rows
structure Exc (g h : Heap) (H : Hp) (e C : Addr) : Prop where
 tr : h.Traced g e (.ref C)
 ne : g.get? e = none
 he : H e = none
 hT : ∀ oe vs T, h.get? e = some oe → oe.data = .fields vs → vs[1]? = some (.ref T) → H T = none
def CX1 (P : Program) (w : World) : CXT := fun outer H s E x s' => ∃ (e C : Addr) (H' : Hp), x = .ref e ∧ s'.os = s.os ∧ AllBare s'.gens ∧ Un (frs outer) [] H H' s.heap s'.heap ∧ HOk P w H' s'.heap ∧ Exc s.heap s'.heap H' e C ∧ E (.ref C) none H'
section
variable {X : Cx} {pins : List (Addr × Obj)} {σ : St} {H : Hp} {s : Shared}
theorem Inv.left {h' : Heap} {es : List Addr} (I : Inv X pins σ H s) (hs : X.stack = X.env :: X.outer) (he : ∀ b ∈ es, H b = none ∧ X.s₀.heap.get? b = none)
  (keep : ∀ b o, s.heap.get? b = some o → b ∉ frs X.stack → b ∉ es → h'.get? b = some o) (slot : ∀ b o, s.heap.get? b = some o → b ∈ frs X.stack → ∃ sl, h'.get? b = some { o with slots := sl }) : Un X.fs X.ex X.H₀ H X.s₀.heap h' ∧ HOk X.prog X.w H h' := by
 have sub : ∀ b ∈ X.fs, b ∈ frs X.stack := fun b hb => by
  rw [hs]; unfold frs; rw [List.filterMap_cons]
  cases X.env.frame with
  | none => exact hb
  | some f => exact List.mem_cons_of_mem _ hb
 have nfr : ∀ b u, H b = some u → b ∉ frs X.stack := fun b u e z => by rw [I.stkFree b z] at e; cases e
 have nes : ∀ b u, H b = some u → b ∉ es := fun b u e z => by rw [(he b z).1] at e; cases e
 have neL : ∀ b o, X.s₀.heap.get? b = some o → b ∉ X.fs → b ∉ frs X.stack := fun b o e hb z => by
  rcases List.mem_cons.mp (I.stkSub b z) with q | q
  ·exact absurd (Nat.lt_of_lt_of_le (Heap.lt_size e) (q ▸ I.ok.above)) (Nat.lt_irrefl _)
  ·exact hb q
 have ne0 : ∀ b o, X.s₀.heap.get? b = some o → b ∉ es := fun b o e z => by rw [(he b z).2] at e; cases e
 refine ⟨⟨fun b o e n hb hx => keep b o (I.base.keep b o e n hb hx) (neL b o e hb) (ne0 b o e), fun b o e n hb hx => ?_, I.base.free, fun b o e hx => ?_, I.base.tups, I.base.frzs, I.base.tbls⟩, fun b u e => ?_⟩
 ·obtain ⟨sl, e1⟩ := I.base.slot b o e n hb hx
  obtain ⟨sl', e2⟩ := slot b _ e1 (sub b hb)
  exact ⟨sl', e2⟩
 ·obtain ⟨o', e1⟩ := I.base.there b o e hx
  by_cases hf : b ∈ frs X.stack
  ·obtain ⟨sl, e2⟩ := slot b o' e1 hf
   exact ⟨_, e2⟩
  ·exact ⟨o', keep b o' e1 hf (ne0 b o e)⟩
 ·refine (I.hok b u e).stay (fun c v hc q => ?_) (fun _ q => q) fun _ _ q => q
  rcases hc with z | z
  ·rw [z] at q ⊢; exact keep b v q (nfr b u e) (nes b u e)
  ·exact keep c v q (nfr c _ z) (nes c _ z)
end
theorem ObjOk.get {P : Program} {w : World} {H : Hp} {h : Heap} {a : Addr} {o : HO} (x : ObjOk P w H h a o) : ∃ ob, h.get? a = some ob := by
 cases o with
 | lst xs => obtain ⟨_, _, _, _, e⟩ := x; exact ⟨_, e⟩
 | tup xs => obtain ⟨_, _, _, p⟩ := x; obtain ⟨o, e, _⟩ := p; exact ⟨_, e⟩
 | dK kvs => obtain ⟨_, _, _, _, o, _, _, e, _⟩ := x; exact ⟨_, e⟩
 | dT kvs => obtain ⟨_, _, _, _, o, _, _, e, _⟩ := x; exact ⟨_, e⟩
 | set S n => obtain ⟨o, _, _, _, e, _⟩ := x; exact ⟨_, e⟩
 | ins C dx fs => obtain ⟨_, _, _, e, _⟩ := x; exact ⟨_, e⟩
 | own y => obtain ⟨_, e⟩ := x; exact ⟨_, e⟩
 | xd fs => obtain ⟨_, ⟨_, _, _, e, _⟩, _⟩ := x; exact ⟨_, e⟩
 | rng lo hi => obtain ⟨_, _, _, e⟩ := x; exact ⟨_, e⟩
 | frz ob u => obtain ⟨e, _⟩ := x; exact ⟨_, e⟩
 | tbl ps => exact ⟨_, (show h.get? a = some _ from x)⟩
 | met f y => exact ⟨_, (show h.get? a = some _ from x)⟩
 | ext φ => obtain ⟨_, ⟨_, e⟩, _⟩ := x; exact ⟨_, e⟩
theorem HOk.none_of {P : Program} {w : World} {H : Hp} {h : Heap} {a : Addr} (k : HOk P w H h) (e : h.get? a = none) : H a = none := by
 cases q : H a with
 | none => rfl
 | some o => obtain ⟨_, z⟩ := (k a o q).get; rw [e] at z; cases z
section
variable {P : Program} {w : World} {K : PySem.W.Frag} {mg : Str → Option Value} {base : Heap} {N : List Str} {qual : Str} {scope : Scope} {f : Addr} {cd : Value} {A : Around} {outer : List Env} {s₀ : Shared} {H₀ : Hp} {E : XK} {pins : List (Addr × Obj)} {σ : St} {H : Hp} {s : Shared}
theorem stack_in {l : List Env} {as : List Addr} (h : ∀ b ∈ frs l, b ∈ as) : ∀ env ∈ l, ∀ a, env.frame = some a → a ∈ as := fun env he a ha => h a (List.mem_filterMap.mpr ⟨env, he, ha⟩)
theorem xe_new {h' : Heap} {t' : Nat} {e C : Addr} {vs : List Value} (I : Inv (cxOf (CX1 P w) P w K mg base N qual scope f cd A outer s₀ H₀ E) pins σ H s) (hx : Heap.MadeExcOf s.heap h' e (.ref C) vs) (q : E (.ref C) none H) :
  (cxOf (CX1 P w) P w K mg base N qual scope f cd A outer s₀ H₀ E).xe (.ref e) { s with heap := h', toks := t' } := by
 have I1 := I.kept (t' := t') hx.keeps
 obtain ⟨t, he, ht, _⟩ := hx.there
 have hs0 : s₀.heap.get? e = none := by
  cases z : s₀.heap.get? e with
  | none => rfl
  | some o => obtain ⟨o', z'⟩ := I.base.there e o z (by intro q; cases q); rw [hx.new] at z'; cases z'
 have hHe : H e = none := I.hok.none_of hx.new
 have ff := I1.stack
 have hl := PySem.W.funFrames_hide (as := e :: frs (cxOf (CX1 P w) P w K mg base N qual scope f cd A outer s₀ H₀ E).stack) ff (stack_in fun b hb => List.mem_cons_of_mem _ hb)
 refine wpAny_leaving_first (base := PySem.W.hideAll h' (e :: frs (cxOf (CX1 P w) P w K mg base N qual scope f cd A outer s₀ H₀ E).stack)) (L := s₀.heap.objs.size) (e := e) (s := { s with heap := h', toks := t' }) I.ok.frames hl rfl he (fun b o z => ?_) (PySem.W.hideAll_none _ List.mem_cons_self) rfl rfl fun h2 lf => ?_
 ·exact PySem.W.of_hideAll _ z
 ·obtain ⟨st, ff2, tr, up⟩ := lf
  have lf := I1.left (h' := h2) (es := [e]) rfl (fun b hb => by rw [List.mem_singleton.mp hb]; exact ⟨hHe, hs0⟩) (fun b o z nf ne => st b o (PySem.W.hideAll_get _ z (by intro m; rcases List.mem_cons.mp m with r | r; exact ne (by simp [r]); exact nf r)))
   (fun b o z hb => by
    obtain ⟨_, o', z', hd⟩ := ff.mem hb
    rw [z] at z'; cases z'
    exact up b o z hd)
  obtain ⟨oe, ws, T, oT, ts, g1, g2, g3, g4, g5, g6, g7, g8, g9⟩ := tr
  have nT : T ∉ frs (cxOf (CX1 P w) P w K mg base N qual scope f cd A outer s₀ H₀ E).stack := fun z => by
   obtain ⟨_, o, zo, hd⟩ := ff2.mem z
   rw [g7] at zo; cases zo
   exact hd ts g8
  have key : ∀ o, h'.get? T = some o → False := fun o z => by
   rw [PySem.W.hideAll_get _ z (by intro m; rcases List.mem_cons.mp m with r | r; exact g6 r; exact nT r)] at g5
   cases g5
  have hT0 : s₀.heap.get? T = none := by
   cases z : s₀.heap.get? T with
   | none => rfl
   | some o => obtain ⟨o', z'⟩ := I1.base.there T o z (by intro q; cases q); exact (key o' z').elim
  have hHT : H T = none := by
   cases z : H T with
   | none => rfl
   | some o => obtain ⟨o', z'⟩ := (I1.hok T o z).get; exact (key o' z').elim
  refine ⟨e, C, H, rfl, I.os, I.bare, lf.1, lf.2, ⟨⟨oe, ws, T, oT, ts, g1, g2, g3, g4, hT0, g6, g7, g8, g9⟩, hs0, hHe, fun oe' vs' T' z1 z2 z3 => ?_⟩, q⟩
  rw [g1] at z1; cases z1
  rw [g3] at z2; cases z2
  rw [g4] at z3; cases z3
  exact hHT
theorem pass1 : Passes (CX1 P w) (cxOf (CX1 P w) P w K mg base N qual scope f cd A outer s₀ H₀ E) E := by
  intro pins σ H s x s' I h
  obtain ⟨e, C, H', rfl, os, bare, un, hok, ex, q⟩ := h
  have J := I.call' (s' := s') (ch := []) os un hok bare (fun b hb => by cases hb)
  obtain ⟨⟨oe, ws, T, oT, ts, g1, g2, g3, g4, g5, g6, g7, g8, g9⟩, ne, hHe, hHT⟩ := ex
  have hHT := hHT oe ws T g1 g3 g4
  have s0 : ∀ {b : Addr}, s.heap.get? b = none → s₀.heap.get? b = none := fun {b} hb => by
    cases z : s₀.heap.get? b with
    | none => rfl
    | some o => obtain ⟨o', z'⟩ := I.base.there b o z (by intro q; cases q); rw [hb] at z'; cases z'
  have ff := J.stack
  have hl := PySem.W.funFrames_hide (as := e :: T :: frs (cxOf (CX1 P w) P w K mg base N qual scope f cd A outer s₀ H₀ E).stack) ff (stack_in fun b hb => List.mem_cons_of_mem _ (List.mem_cons_of_mem _ hb))
  refine wpAny_leaving_next (base := PySem.W.hideAll s'.heap (e :: T :: frs (cxOf (CX1 P w) P w K mg base N qual scope f cd A outer s₀ H₀ E).stack)) (L := s₀.heap.objs.size) (e := e) (s := s') J.ok.frames hl rfl
    ⟨oe, ws, T, oT, ts, g1, g2, g3, g4, PySem.W.hideAll_none _ (List.mem_cons_of_mem _ List.mem_cons_self), g6, g7, g8, g9⟩ (fun b o z => PySem.W.of_hideAll _ z) (PySem.W.hideAll_none _ List.mem_cons_self) fun h2 lf => ?_
  obtain ⟨st, ff2, tr, up⟩ := lf
  have lf := J.left (h' := h2) (es := [e, T]) rfl (fun b hb => by
      simp only [List.mem_cons, List.not_mem_nil, or_false] at hb
      rcases hb with rfl | rfl
      · exact ⟨hHe, s0 ne⟩
      · exact ⟨hHT, s0 g5⟩) (fun b o z nf ne => st b o (PySem.W.hideAll_get _ z (by
        intro m
        rcases List.mem_cons.mp m with r | m
        · exact ne (by simp [r])
        · rcases List.mem_cons.mp m with r | r
          · exact ne (by simp [r])
          · exact nf r)))
      (fun b o z hb => by
        obtain ⟨_, o', z', hd⟩ := ff.mem hb
        rw [z] at z'; cases z'
        exact up b o z hd)
  obtain ⟨oe2, ws2, T2, oT2, ts2, k1, k2, k3, k4, k5, k6, k7, k8, k9⟩ := tr
  have nT : T2 ∉ frs (cxOf (CX1 P w) P w K mg base N qual scope f cd A outer s₀ H₀ E).stack := fun z => by
    obtain ⟨_, o, zo, hd⟩ := ff2.mem z
    rw [k7] at zo; cases zo
    exact hd ts2 k8
  have hT0 : s₀.heap.get? T2 = none ∧ H' T2 = none := by
    by_cases r : T2 = T
    · subst r; exact ⟨s0 g5, hHT⟩
    · have key : ∀ o, s'.heap.get? T2 = some o → False := fun o z => by
        rw [PySem.W.hideAll_get _ z (by
          intro m
          rcases List.mem_cons.mp m with q | m
          · exact k6 q
          · rcases List.mem_cons.mp m with q | q
            · exact r q
            · exact nT q)] at k5
        cases k5
      constructor
      · cases z : s₀.heap.get? T2 with
        | none => rfl
        | some o => obtain ⟨o', z'⟩ := J.base.there T2 o z (by intro q; cases q); exact (key o' z').elim
      · cases z : H' T2 with
        | none => rfl
        | some o => obtain ⟨o', z'⟩ := (J.hok T2 o z).get; exact (key o' z').elim
  refine ⟨e, C, H', rfl, J.os, J.bare, lf.1, lf.2, ⟨⟨oe2, ws2, T2, oT2, ts2, k1, k2, k3, k4, hT0.1, k6, k7, k8, k9⟩, s0 ne, hHe, fun oe' vs' T' z1 z2 z3 => ?_⟩, q⟩
  rw [k1] at z1; cases z1
  rw [k3] at z2; cases z2
  rw [k4] at z3; cases z3
  exact hT0.2
end
end L2
set_option Elab.async false
set_option maxRecDepth 100000
namespace L2
open PySem PySem.Spec PyProof.Rows
def tRaise (C : Addr) (E : XK) (t : TA) : TS := fun _ σ H => t σ H fun vs H1 => vs.length ≤ sizeLine ∧ E (.ref C) none H1
theorem ps_raise {X : Cx} {E : XK} {x : Str} {C : Addr} {B newId initId : String} {bm : List Value} {np cpos pos : Pos} {e : Expr} {es : List Expr} {t : TA} (O : OwnCls x C bm newId X.mg X.base) (FB : ExcBaseFacts B newId initId bm) (hc : X.calm = true) (hg : Gl X x)
  (hx : ∀ (pins : List (Addr × Obj)) (σ : St) (H : Hp) (s : Shared) (h' : Heap) (t' : Nat) (e : Addr) (vs : List Value), Inv X pins σ H s → Heap.MadeExcOf s.heap h' e (.ref C) vs → E (.ref C) none H → X.xe (.ref e) { s with heap := h', toks := t' })
  (ha : PA X (e :: es) t) (hd : (x == ("__debug__" : Str)) = false := by decide) (he : starEach (e :: es) X.env = (false, eval e X.env) :: starEach es X.env := by rfl) (hpl : (backTo cpos (starEach es X.env)).any (·.1) = false := by rfl) :
  PS X (.Raise (some (.Call (.Name x np) (e :: es) [] cpos)) none pos) (tRaise C E t) := by
 intro pins s σ H D I h
 obtain ⟨tl, N, nm, q, bs, hdct, sn, sub, ab, col, dd, k0, k1, k2, k3, k5, mN, hC, hN, hni, T⟩ := O.obj
 refine wpAny_Raise_call_subT (C := C) (nm := nm) (q := q) (N := N) (bs := bs) (bm := tl) (hdct := hdct) (sn := sn) (sub := sub) (ab := ab) (col := col) (dd := dd) (k0 := k0) (k1 := k1) (k2 := k2) (k3 := k3) (k5 := k5)
  FB (mN := mN) (T.hasType FB.hasBase) (I.ok.hd hc) (by rw [he]; show (false || (backTo cpos (starEach es X.env)).any (·.1)) = false; rw [hpl]; rfl) hni (ld_glob I hg O.bound ⟨rfl, ?_⟩ hd)
 have h1 := ha cpos pins s σ H _ I h
 rw [he] at h1 ⊢
 refine Calls.evalArgs_plain (wpAny_mono h1 (fun us s2 ⟨vs, H2, I2, r2, hl, hE⟩ => ⟨rfl, by show us.length ≤ sizeLine; rw [← r2.length]; exact hl, I2.bk _ _ hC, hN.keeps I2.bk, T.keeps I2.bk, fun h' a mk => ?_⟩) fun _ _ y => y)
 exact hx pins σ H2 s2 h' s2.toks a us I2 mk hE
section
variable {P : Program} {w : World} {K : PySem.W.Frag} {mg : Str → Option Value} {base : Heap}
theorem Fun.ok1 {x qual : Str} {st : Stmt} {f : Addr} {fd : FuncData} {N ps : List Str} {k : Nat} {sp : Sp} (F : Fun K x qual st f fd) (S : FnScope N ps (defScope st)) (len : ∀ vs H Q E, sp vs H Q E → vs.length = ps.length)
  (hbody : ∀ (cdv : Value) (A : Around) (outer : List Env) (s : Shared) (H : Hp) (vs : List V) (Q : VK) (E : XK), Room k (A.deeper (envOfC qual (defScope st) s.heap.objs.size f cdv)) → sp vs H Q E →
   ∃ t, PSs (cxOf (CX1 P w) P w K mg base N qual (defScope st) f cdv A outer s H E) (defBody st) t ∧ t { nx := fun _ H' => Q .non H', rt := Q } (start N vs) H) : FnOk P w K mg base (CX1 P w) (k + 1) f fd ps sp := by
 obtain ⟨oc, od, kV, doc, pm, an, cdv, ct, osl, rfl, lk, hcd⟩ := F.ex
 exact fn_of lk hcd S len fun A outer s H vs Q E hr hsp => hbody cdv A outer s H vs Q E hr hsp
theorem FnOk.up {k : Nat} {f : Addr} {fd : FuncData} {ps : List Str} {sp : Sp} (F : FnOk P w K mg base CX0 k f fd ps sp) : FnOk P w K mg base (CX1 P w) k f fd ps sp :=
 ⟨F.len, fun A outer s H args us vs Q E hr e0 hb hv hs => codeAny_mono (F.run A outer s H args us vs Q E hr e0 hb hv hs) fun r s' h => by
  cases r with
  | error e => exact False.elim h
  | ok fl => cases fl <;> exact h⟩
end
end L2
set_option Elab.async false
set_option maxRecDepth 100000
namespace L2
open PySem PySem.Spec PyProof.Rows PySem.W Builtin Builtin.ObjectAttr Builtin.Getset_descriptor
section
variable {prog : Program} {w : World} {A : Around} {E : Value → Shared → Prop} {s : Shared} {K : PySem.W.Frag} {x C : Addr} {R : Result → Shared → Prop}
theorem cls_get {tp : Value} (X : K.In s.heap) (LT : Looks (model prog w) s.heap (typeOf (.ref x)) (.ref C)) (hm : mroIn K C (.type "object") = some true)
  (h : R (.ok (.ret (.ref C))) s) : codeAny (model prog w) A (.call (.builtin "getset_descriptor.__get__") ⟨[.builtin "object.__class__", .ref x, tp], []⟩) R s := by
 have L1 := looks_mroIn (M := model prog w) X hm; obtain ⟨hh, g, dr, t, os⟩ := s
 refine codeAny_call_builtin KF.slot_gs.plain KF.entry_gs (KF.slot_gs.check _ _ _ _ _ _ _ _ KF.type_class (KF.args_gs _ _ _) ?_); unfold Builtin.«getset_descriptor.__get__» descrGet; rw [dga_obj]
 refine wpAny_bind (wpAny_pure ?_); unfold descrGetter descrCheckInstance descrNameAndClass isInstance; simp only [KF.owner_class]
 repeat lk
 refine ⟨Code.quiet_builtin _ (by decide +kernel), codeAny_builtin KF.entry_class ?_⟩; unfold Builtin.«object.__class__» shownTypeOf
 repeat lk
 exact h
theorem exc_class {Q : Option Value → Shared → Prop} (X : K.In s.heap) (LT : Looks (model prog w) s.heap (typeOf (.ref x)) (.ref C))
  (hga : findIn K (.ref C) "__getattribute__" = some (some (.builtin "BaseException.__getattribute__"))) (hgt : findIn K (.ref C) "__getattr__" = some none)
  (ha : findIn K (.ref C) "__class__" = some (some (.builtin "object.__class__"))) (hn : specialIn K (.builtin "object.__class__") "__get__" = some (some (.builtin "getset_descriptor.__get__"))) (htk : takesIn K (.builtin "object.__class__") = some true)
  (hm : mroIn K C (.type "object") = some true) (hb : mroIn K C (.type "BaseException") = some true)
  (h : Q (some (.ref C)) { s with toks := s.toks + 1 }) : wpAny (model prog w) A (getAttr? (.ref x) "__class__") Q E s := by
 obtain ⟨hh, g, d, t, os⟩ := s
 have L1 := looks_findIn (M := model prog w) X hga
 have L2 := looks_findIn (M := model prog w) X hgt
 have L3 := looks_mroIn (M := model prog w) X hb
 have L4 : Looks (model prog w) hh (find (.ref x) (.ref C) "__class__") (.bind (.builtin "getset_descriptor.__get__") (.builtin "object.__class__")) := by
  have a1 := looks_findIn (M := model prog w) X ha
  have a2 : Looks (model prog w) hh (getOf (some (.builtin "object.__class__"))) (some (.builtin "getset_descriptor.__get__")) := looks_specialIn X hn
  have a3 := looks_takesIn (M := model prog w) X htk
  refine a1.andThen (a2.andThen ?_)
  have a4 : Looks (model prog w) hh (dataDescriptor? (some (.builtin "object.__class__")) (some (.builtin "getset_descriptor.__get__"))) (some (.builtin "getset_descriptor.__get__", .builtin "object.__class__")) := a3.andThen .now
  exact a4.andThen (Looks.tag .now)
 have f3 := (F.attrBase_ValueError).ga.bind (.ref x)
 unfold getAttr? getAttrBy? getAttrBy
 refine wpAny_bind (wpAny_mkText (wpAny_bind (wpAny_attempt (wpAny_holding (wpAny_bind (LT.at (wpAny_bind (L1.at ?_))))))))
 show wpAny _ _ (getAttrByItsOwn _ _ _ _ _ _) _ _ _
 unfold getAttrByItsOwn hookBefore
 refine wpAny_bind (L2.at ?_)
 refine wpAny_bind (wpAny_attempt (wpAny_holding ?_))
 show wpAny _ _ (boundAndCalled _ _ _) _ _ _
 unfold boundAndCalled
 rw [f3]
 refine wpAny_bind (wpAny_pure (wpAny_call ?_))
 have hk : builtinKind "BaseException.__getattribute__" = some .slot := (by decide +kernel); have hsplit : splitId "BaseException.__getattribute__" = some ("BaseException", "__getattribute__") := by decide +kernel
 refine codeAny_call_builtin (F.attrBase_ValueError).ga.plain F.entry_bexc_ga ?_
 have ha := F.args_bexc_ga (.ref x) (.str "__class__" t)
 simp only [checkBuiltinCall, hk, hsplit]; refine wpAny_bind ?_
 unfold isInstance
 refine wpAny_bind (LT.at (L3.at ?_))
 simp only [Bool.not_true, Bool.false_eq_true, if_false]; refine wpAny_of_eq (a := ()) ha ?_
 unfold Builtin.«object.__getattribute__»
 repeat (first | with_reducible refine wpAny_call (cls_get X LT hm ?_) | lk)
 exact h
end
end L2
set_option Elab.async false
set_option maxRecDepth 100000
namespace L2
open PySem PySem.Spec PyProof.Rows
structure ExcIn (K : PySem.W.Frag) (C : Addr) : Prop where
 ga : PySem.W.findIn K (.ref C) "__getattribute__" = some (some (.builtin "BaseException.__getattribute__"))
 gt : PySem.W.findIn K (.ref C) "__getattr__" = some none
 cl : PySem.W.findIn K (.ref C) "__class__" = some (some (.builtin "object.__class__"))
 gs : PySem.W.specialIn K (.builtin "object.__class__") "__get__" = some (some (.builtin "getset_descriptor.__get__"))
 tk : PySem.W.takesIn K (.builtin "object.__class__") = some true
 mo : PySem.W.mroIn K C (.type "object") = some true
 mb : PySem.W.mroIn K C (.type "BaseException") = some true
theorem ExcIn.cls {K : PySem.W.Frag} {C : Addr} (e : ExcIn K C) : ∃ cd, PySem.W.clsIn K C = some cd := by
 obtain ⟨cd, hc, _⟩ := Option.bind_eq_some_iff.mp e.mo
 exact ⟨cd, hc⟩
def ExcAt (e C : Addr) (h : Heap) : Prop := ∃ o, h.get? e = some o ∧ o.cls = .ref C
theorem ExcAt.looks {e C : Addr} {h : Heap} {M : Model} (p : ExcAt e C h) : PySem.W.Looks M h (typeOf (.ref e)) (.ref C) := by
 obtain ⟨o, h1, h2⟩ := p
 rw [← h2]; exact (PySem.W.Looks.ld h1).andThen .now
def ExcO (e C : Addr) : HO := .ext (ExcAt e C)
theorem kitx_exc {K : PySem.W.Frag} {e C : Addr} (x : ExcIn K C) : PySem.W.KitX K (.ref e) (.ref C) (ExcAt e C) where
 ty := fun _ _ _ p => ExcAt.looks p
 it := fun _ _ X _ => by
  obtain ⟨cdD, hcD⟩ := x.cls
  unfold PySem.W.clsIn at hcD
  split at hcD
  ·rename_i ho
   intro A' Q' E' s' k q
   unfold isType loadHead
   exact wpAny_bind (wpAny_loadPart (k _ _ (X _ _ ho)) (wpAny_pure q))
  ·cases hcD
 ne := fun h tp dd its n sl X htp => by
  obtain ⟨cdD, hcD⟩ := x.cls
  refine Bool.eq_false_iff.mpr fun q => ?_
  have z := Value.ref.inj (beq_iff_eq.mp q)
  subst z
  unfold PySem.W.clsIn at hcD
  split at hcD
  ·rename_i ho
   have z := (X _ _ ho).symm.trans htp
   cases z
  ·cases hcD
 ca := fun X p k => exc_class X (ExcAt.looks p) x.ga x.gt x.cl x.gs x.tk x.mo x.mb k
def rIsiX (K : PySem.W.Frag) : List V → Hp → VK → Prop := fun xs H Q => ∃ e C y c b, xs = [.ref e, y] ∧ H e = some (ExcO e C) ∧ ExcIn K C ∧ RelV y c ∧ PySem.W.kitOne K (.ref C) c = some b ∧ Q (.bl b) H
theorem cI_isinstX {X : Cx} : CallR X (.builtin "isinstance") (rIsiX X.K) := by
 intro pins s σ H xs us Q I r h
 obtain ⟨e, C, y, c, b, rfl, he, ex, ry, k, q⟩ := h
 obtain ⟨u, v, rfl, ru, rv⟩ := r.two
 cases (show u = Value.ref e from ru)
 have hv : v = c := by
  cases y with
  | ref a => exact (show v = Value.ref a from rv).trans (show c = Value.ref a from ry).symm
  | ty n => exact (show v = Value.type n from rv).trans (show c = Value.type n from ry).symm
  | non => exact (show v = Value.none from rv).trans (show c = Value.none from ry).symm
  | bl z => exact (show v = Value.bool z from rv).trans (show c = Value.bool z from ry).symm
  | int i => obtain ⟨t, rfl⟩ := ry; simp [PySem.W.kitOne, PySem.W.kitCls] at k
  | str i => obtain ⟨t, rfl⟩ := ry; simp [PySem.W.kitOne, PySem.W.kitCls] at k
  | byt i => obtain ⟨t, rfl⟩ := ry; simp [PySem.W.kitOne, PySem.W.kitCls] at k
  | flt i => obtain ⟨t, rfl⟩ := ry; simp [PySem.W.kitOne, PySem.W.kitCls] at k
 subst hv
 have p : ExcAt e C s.heap := (show ObjOk X.prog X.w H s.heap e (.ext (ExcAt e C)) from I.hok e _ he).1
 exact PySem.W.kia_one (kitx_exc ex) I.kIn p k (fun z => nomatch z) fun tk => ⟨.bl b, H, I.tok tk, rfl, q⟩
theorem cI_isinstXK {X : Cx} (K : PySem.W.Frag) (h : X.K = K) : CallR X (.builtin "isinstance") (rIsiX K) := h ▸ cI_isinstX
theorem rd_isiX {K : PySem.W.Frag} {H : Hp} {Q : VK} {e C D : Addr} {b : Bool} (he : H e = some (ExcO e C)) (x : ExcIn K C) (k : PySem.W.kitOne K (.ref C) (.ref D) = some b) (q : Q (.bl b) H) : rIsiX K [.ref e, .ref D] H Q :=
 ⟨e, C, .ref D, .ref D, b, rfl, he, x, rfl, k, q⟩
theorem rd_isiXT {K : PySem.W.Frag} {H : Hp} {Q : VK} {e C : Addr} {n : String} {b : Bool} (he : H e = some (ExcO e C)) (x : ExcIn K C) (k : PySem.W.kitOne K (.ref C) (.type n) = some b) (q : Q (.bl b) H) : rIsiX K [.ref e, .ty n] H Q :=
 ⟨e, C, .ty n, .type n, b, rfl, he, x, rfl, k, q⟩
section
variable {X : Cx} {pins : List (Addr × Obj)} {σ : St} {H : Hp} {s : Shared}
theorem Inv.held {h' : Heap} {es : List Addr} (I : Inv X pins σ H s) (hs : X.stack = X.env :: X.outer) (hf : X.env.frame = some X.env.locals)
  (he : ∀ b ∈ es, H b = none ∧ X.s₀.heap.get? b = none ∧ (∀ p ∈ X.pn ++ pins, p.1 ≠ b) ∧ ∃ o vs, s.heap.get? b = some o ∧ o.data = .fields vs)
  (keep : ∀ b o, s.heap.get? b = some o → b ∉ frs X.stack → b ∉ es → h'.get? b = some o) (slot : ∀ b o, s.heap.get? b = some o → b ∈ frs X.stack → ∃ sl, h'.get? b = some { o with slots := sl }) : Inv X pins σ H { s with heap := h' } := by
 have lf := I.left hs (fun b hb => ⟨(he b hb).1, (he b hb).2.1⟩) keep slot
 have inL : X.env.locals ∈ frs X.stack := by rw [hs]; unfold frs; rw [List.filterMap_cons, hf]; exact List.mem_cons_self
 have cellK : ∀ c v, s.heap.IsCell c v → h'.IsCell c v := fun c v ⟨o, ho, hd⟩ => by
  by_cases hb : c ∈ frs X.stack
  ·obtain ⟨sl, q⟩ := slot c o ho hb
   exact ⟨_, q, hd⟩
  ·refine ⟨o, keep c o ho hb fun hm => ?_, hd⟩
   obtain ⟨_, _, _, o', vs, ho', hd'⟩ := he c hm
   rw [ho] at ho'; cases ho'; rw [hd] at hd'; cases hd'
 refine ⟨I.ok, I.os, I.bare, lf.1, ?_, fun x c e => ?_, I.free, I.freeC, fun p hp => ?_, lf.2, I.len⟩
 ·obtain ⟨m, ⟨o, es', ep, ho, r⟩, hl⟩ := I.loc
  obtain ⟨sl, hL⟩ := slot _ o ho inL
  refine ⟨m, ⟨_, es', ep, hL, r⟩, fun i x v e1 e2 e3 => ?_⟩
  obtain ⟨u, ru, l⟩ := hl i x v e1 e2 e3
  refine ⟨u, ru, ?_⟩
  rcases l with l | ⟨k, c, e, z⟩
  ·exact .inl l
  ·exact .inr ⟨k, c, e, cellK c _ z⟩
 ·obtain ⟨v, z⟩ := I.cell x c e
  exact ⟨v, cellK c v z⟩
 ·obtain ⟨e, n, ne, nf, d⟩ := I.pin p hp
  refine ⟨keep p.1 p.2 e (fun z => ?_) fun z => (he p.1 z).2.2.1 p hp rfl, n, ne, nf, d⟩
  rcases List.mem_cons.mp (I.stkSub p.1 z) with q | q
  ·exact ne q
  ·exact nf q
theorem Inv.track {e : Addr} {φ : Heap → Prop} (I : Inv X pins σ H s) (hH : H e = none) (h0 : X.s₀.heap.get? e = none) (hp : ∀ p ∈ X.pn ++ pins, p.1 ≠ e) (hd : ∃ o vs, s.heap.get? e = some o ∧ o.data = .fields vs)
    (hφ : φ s.heap) (st : ∀ h1 h2 : Heap, φ h1 → (∀ o, h1.get? e = some o → h2.get? e = some o) → φ h2) : Inv X pins σ (upd H e (.ext φ)) s := by
  obtain ⟨oe, vs, ho, hdd⟩ := hd
  have ne : ∀ b u, H b = some u → b ≠ e := fun b u z => ne_of_none z hH
  have n0 : ∀ b o, X.s₀.heap.get? b = some o → b ≠ e := fun b o z q => by rw [q, h0] at z; cases z
  have nH0 : ∀ b u, X.H₀ b = some u → H b ≠ none → b ≠ e := fun b u _ z q => z (q ▸ hH)
  refine ⟨I.ok, I.os, I.bare, ⟨I.base.keep, I.base.slot, fun b o z n hx => ?_, I.base.there, fun b xs z => ?_, fun b o u z => ?_, fun b ps z => ?_⟩, I.loc, I.cell, ?_, fun x c z => ?_, fun p hp' => ?_, fun b u z => ?_, I.len⟩
  · rw [upd_ne (n0 b o z)]; exact I.base.free b o z n hx
  · have q := I.base.tups b xs z
    rw [upd_ne (ne _ _ q)]; exact q
  · have q := I.base.frzs b o u z
    rw [upd_ne (ne _ _ q)]; exact q
  · obtain ⟨m, q⟩ := I.base.tbls b ps z
    exact ⟨m, by rw [upd_ne (ne _ _ q)]; exact q⟩
  · have q : X.env.locals ≠ e := fun q => by
      obtain ⟨m, ⟨o', es, ep, ho', hd', _⟩, _⟩ := I.loc
      rw [q, ho] at ho'; cases ho'; rw [hdd] at hd'; cases hd'
    rw [upd_ne q]; exact I.free
  · have q : c ≠ e := fun q => by
      obtain ⟨v, o', ho', hd'⟩ := I.cell x c z
      rw [q, ho] at ho'; cases ho'; rw [hdd] at hd'; cases hd'
    rw [upd_ne q]; exact I.freeC x c z
  · obtain ⟨a, n, r⟩ := I.pin p hp'
    exact ⟨a, by rw [upd_ne (hp p hp')]; exact n, r⟩
  · by_cases q : b = e
    · subst q
      rw [upd_same] at z
      cases z
      exact ⟨hφ, ⟨oe, ho⟩, st⟩
    · rw [upd_ne q] at z
      refine (I.hok b u z).stay (fun _ _ _ w => w) (fun c w => ?_) fun c xs w => ?_
      · rw [upd_ne (ne _ _ w)]; exact w
      · rw [upd_ne (ne _ _ w)]; exact w
end
end L2
set_option Elab.async false
set_option maxRecDepth 100000
namespace L2
open PySem PySem.Spec PyProof.Rows
abbrev Cx.tryIn (X : Cx) (pins : List (Addr × Obj)) (E : Value → Shared → Prop) : Cx := { X with pn := X.pn ++ pins, xe := E }
section
variable {X : Cx} {pins pins' : List (Addr × Obj)} {σ : St} {H : Hp} {s : Shared} {E : Value → Shared → Prop}
theorem Cx.Ok.tryIn (ok : X.Ok) : (X.tryIn pins E).Ok :=
 ⟨ok.mod, ok.kind, ok.glob, ok.blt, ok.above, ok.inj, ok.has, ok.cab, ok.hd, ok.frames, ok.stk, ok.exf, ok.bs, ok.bsz, ok.noex, ok.exfs, ok.funs, ok.frf⟩
theorem Cx.Ok.tryOut (ok : (X.tryIn pins E).Ok) : X.Ok :=
 ⟨ok.mod, ok.kind, ok.glob, ok.blt, ok.above, ok.inj, ok.has, ok.cab, ok.hd, ok.frames, ok.stk, ok.exf, ok.bs, ok.bsz, ok.noex, ok.exfs, ok.funs, ok.frf⟩
theorem Inv.tryIn (I : Inv X pins σ H s) (E : Value → Shared → Prop) : Inv (X.tryIn pins E) [] σ H s :=
 ⟨I.ok.tryIn, I.os, I.bare, I.base, I.loc, I.cell, I.free, I.freeC, fun p hp => I.pin p (by simpa using hp), I.hok, I.len⟩
theorem Inv.tryOut (I : Inv (X.tryIn pins E) pins' σ H s) : Inv X pins σ H s :=
 ⟨I.ok.tryOut, I.os, I.bare, I.base, I.loc, I.cell, I.free, I.freeC, fun p hp => I.pin p (List.mem_append_left _ hp), I.hok, I.len⟩
theorem SP.tryOut {D : Ends} {f : Flow} {s' : Shared} (h : SP (X.tryIn pins E) pins' D f s') : SP X pins D f s' := by
 cases f with
 | next => obtain ⟨σ', H', I, q⟩ := h; exact ⟨σ', H', I.tryOut, q⟩
 | brk => obtain ⟨σ', H', I, q⟩ := h; exact ⟨σ', H', I.tryOut, q⟩
 | cont => obtain ⟨σ', H', I, q⟩ := h; exact ⟨σ', H', I.tryOut, q⟩
 | ret u => obtain ⟨v, σ', H', I, r, q⟩ := h; exact ⟨v, σ', H', I.tryOut, r, q⟩
end
def XT (X : Cx) (pins : List (Addr × Obj)) (ET : St → XK) : Value → Shared → Prop := fun x s' => ∃ (σ : St) (e C : Addr) (H' : Hp), x = .ref e ∧ Inv X pins σ H' s' ∧ Exc X.s₀.heap s'.heap H' e C ∧
 (∀ p ∈ X.pn ++ pins, p.1 ≠ e ∧ ∀ oe vs T, s'.heap.get? e = some oe → oe.data = .fields vs → vs[1]? = some (.ref T) → p.1 ≠ T) ∧ ET σ (.ref C) none H'
def PassesS (CX : CXT) (X : Cx) (ET : St → XK) : Prop := ∀ (pins : List (Addr × Obj)) (σ : St) (H : Hp) (s : Shared) (e : Value) (s' : Shared), Inv X pins σ H s → CX X.stack H s (ET σ) e s' → X.xe e s'
theorem passT {X : Cx} {pins : List (Addr × Obj)} {ET : St → XK} (hx : X.ex = [] := by rfl) : PassesS (CX1 X.prog X.w) (X.tryIn pins (XT X pins ET)) ET := by
 intro pins' σ H s x s' I h
 obtain ⟨e, C, H', rfl, os, bare, un, hok, ex, q⟩ := h
 have J := I.call' (s' := s') (ch := []) os un hok bare (fun b hb => by cases hb)
 obtain ⟨⟨oe, ws, T, oT, ts, g1, g2, g3, g4, g5, g6, g7, g8, g9⟩, ne, hHe, hHT⟩ := ex
 have s0 : ∀ {b : Addr}, s.heap.get? b = none → X.s₀.heap.get? b = none := fun {b} hb => by
  cases z : X.s₀.heap.get? b with
  | none => rfl
  | some o => obtain ⟨o', z'⟩ := I.base.there b o z (by show b ∉ X.ex; rw [hx]; simp); rw [hb] at z'; cases z'
 refine ⟨σ, e, C, H', rfl, J.tryOut, ⟨⟨oe, ws, T, oT, ts, g1, g2, g3, g4, s0 g5, g6, g7, g8, g9⟩, s0 ne, hHe, hHT⟩, fun p hp => ?_, q⟩
 have hp' := (I.pin p (List.mem_append_left _ hp)).1
 refine ⟨fun z => (by rw [z, ne] at hp'; cases hp'), fun oe' vs' T' z1 z2 z3 z => ?_⟩
 rw [g1] at z1; cases z1
 rw [g3] at z2; cases z2
 rw [g4] at z3; cases z3
 rw [z, g5] at hp'
 cases hp'
def tCallS (sp : Sp) (dvs : List V) (ET : St → XK) (t : TA) : TE := fun σ H Q => t σ H fun vs H1 => sp (vs ++ dvs) H1 Q (ET σ)
section
variable {X : Cx} {CX : CXT} {k : Nat} {f C : Addr} {fd : FuncData} {ps : List Str} {sp : Sp} {dvs : List V} {ds : List Value} {ET : St → XK} {x m : Str} {p pos apos : Pos} {e o : Expr} {es : List Expr} {ta : TE} {t : TA}
theorem run_fnS {pins : List (Addr × Obj)} {σ : St} {H : Hp} {s : Shared} {Q : VK} {us : List Value} {vs : List V} (F : FnOk X.prog X.w X.K X.mg X.base CX k f fd ps sp) (hr : Room k X.A) (hb : Binds X.K fd ps ds) (hd : Vals dvs ds) (hx : PassesS CX X ET)
  (I : Inv X pins σ H s) (r : Vals vs us) (h : sp (vs ++ dvs) H Q (ET σ)) : wpAny (model X.prog X.w) X.A (call (.ref f) us) (EP X pins σ Q) X.xe s := by
 have r2 : Vals (vs ++ dvs) (us ++ ds) := r.append hd
 have hl : (us ++ ds).length = ps.length := by rw [← r2.length]; exact F.len _ _ _ _ h
 refine wpAny_call (codeAny_mono (F.run X.A X.stack s H ⟨us, []⟩ (us ++ ds) (vs ++ dvs) Q (ET σ) hr I.env0 (hb s us I.kIn hl) r2 h) fun r s' hq => ?_)
 cases r with
 | error e => exact hx pins σ H s e s' I hq
 | ok fl =>
  cases fl with
  | ret u => exact I.after hq
  | next => exact False.elim hq
  | brk => exact False.elim hq
  | cont => exact False.elim hq
theorem pe_callS (F : FnOk X.prog X.w X.K X.mg X.base CX k f fd ps sp) (hr : Room k X.A) (hg : Gl X x) (hm : X.mg x = some (.ref f)) (hk : PySem.W.keepIn X.K (.ref f) = true) (hb : Binds X.K fd ps ds) (hd : Vals dvs ds) (hx : PassesS CX X ET)
  (ha : PA X (e :: es) t) (hdb : (x == ("__debug__" : Str)) = false := by decide) (he : starEach (e :: es) X.env = (false, eval e X.env) :: starEach es X.env := by rfl) (hpl : (backTo pos (starEach es X.env)).any (·.1) = false := by rfl) :
  PE X (.Call (.Name x p) (e :: es) [] pos) (tCallS sp dvs ET t) := by
 intro pins s σ H Q I h
 refine wpAny_Call_Name_kw (ld_glob I hg hm ?_ hdb)
 refine PySem.W.callWith_K (h₀ := X.base) I.ok.mod.kin hk (thn (ha pos pins s σ H _ I h) fun us s1 ⟨vs, H1, I1, r, q⟩ => ⟨I1.kIn, ?_⟩) he hpl
 exact run_fnS F hr hb hd hx I1 r q
end
section
variable {σ : St} {H : Hp} {Q : VK}
theorem rd_callS {sp : Sp} {dvs : List V} {ET : St → XK} {t : TA} (h : t σ H fun vs H1 => sp (vs ++ dvs) H1 Q (ET σ)) : tCallS sp dvs ET t σ H Q := h
end
abbrev Cx.suite (X : Cx) (e : Addr) : Cx := { X with A := X.A.mark (some (.ref e)), calm := false, xe := fun _ _ => False }
section
variable {X : Cx} {pins : List (Addr × Obj)} {σ : St} {H : Hp} {s : Shared} {e : Addr}
theorem Cx.Ok.suite (ok : X.Ok) : (X.suite e).Ok :=
 ⟨ok.mod, ok.kind, ok.glob, ok.blt, ok.above, ok.inj, ok.has, ok.cab, fun z => Bool.noConfusion z, ok.frames, ok.stk, ok.exf, ok.bs, ok.bsz, ok.noex, ok.exfs, ok.funs, ok.frf⟩
theorem Inv.suite (I : Inv X pins σ H s) : Inv (X.suite e) pins σ H s := ⟨I.ok.suite, I.os, I.bare, I.base, I.loc, I.cell, I.free, I.freeC, I.pin, I.hok, I.len⟩
theorem Inv.unsuite (ok : X.Ok) (I : Inv (X.suite e) pins σ H s) : Inv X pins σ H s := ⟨ok, I.os, I.bare, I.base, I.loc, I.cell, I.free, I.freeC, I.pin, I.hok, I.len⟩
end
end L2
set_option Elab.async false
set_option maxRecDepth 100000
namespace L2
open PySem PySem.Spec PyProof.Rows
def Dh (i : Nat) (D : Ends) : Ends := { nx := fun σ H => D.nx (σ.set i none) H, rt := D.rt, bk := fun σ H => D.bk (σ.set i none) H, ct := fun σ H => D.ct (σ.set i none) H }
def ETof (K : PySem.W.Frag) (S : Addr) (i : Nat) (ts : TS) (D : Ends) : St → XK := fun σ cls _ H1 => ∃ C, cls = .ref C ∧ PySem.W.exmOne K (.ref C) (.ref S) = some true ∧ ∀ e, H1 e = none → ts (Dh i D) (σ.set i (some (.ref e))) (upd H1 e (ExcO e C))
def tTry (K : PySem.W.Frag) (S : Addr) (i : Nat) (tb : (St → XK) → TS) (ts : TS) : TS := fun D σ H => tb (ETof K S i ts D) D σ H
theorem gone_ok {X : Cx} {pins : List (Addr × Obj)} {σ : St} {H : Hp} {s : Shared} {M : Model} {A : Around} {E : Value → Shared → Prop} {i : Nat} {n : Str} {pos : Pos} {Q : Unit → Shared → Prop} (I : Inv X pins σ H s) (hN : X.N.Nodup) (hi : X.N[i]? = some n)
  (hk : X.env.kindOf n = some .local) (h : ∀ s', Inv X pins (σ.set i none) H s' → Q () s') : wpAny M A (do bindName X.env n .none; unbindBehindTheSuite X.env n pos) Q E s := by
 obtain ⟨m, hn, hl⟩ := id I.loc
 have hcls : (X.env.scope.kind == .class || (X.env.scope.kind == .module && X.env.locals != X.env.globals)) = false := by rw [I.ok.kind]; rfl
 have cne := I.cne
 refine wpAny_nameGoes_keeps hk hn hcls fun h' v hn' hs => h _ ?_
 obtain ⟨oL, _, _, hoL, _⟩ := id hn
 have hk' : HOk X.prog X.w H h' := fun b ob e => by
  refine (I.hok b ob e).stay (fun c w' hc q => (hs.2 c ?_).trans q) (fun _ q => q) fun _ _ q => q
  rintro rfl
  rcases hc with rfl | hc
  ·rw [I.free] at e; cases e
  ·rw [I.free] at hc; cases hc
 have nL : ∀ b o, X.s₀.heap.get? b = some o → b ≠ X.env.locals := fun b o e => Nat.ne_of_lt (Nat.lt_of_lt_of_le (Heap.lt_size e) I.ok.above)
 refine ⟨I.ok, I.os, I.bare, ⟨fun b o e n hb hx => (hs.2 b (nL b o e)).trans (I.base.keep b o e n hb hx), fun b o e n hb hx => ?_, I.base.free, fun b o e hx => ?_, I.base.tups, I.base.frzs, I.base.tbls⟩, ⟨_, hn', fun j y v' e1 e2 e3 => ?_⟩, fun y c e => ?_, I.free, I.freeC, fun p hp => ?_, hk', by simpa using I.len⟩
 ·obtain ⟨sl, e1⟩ := I.base.slot b o e n hb hx
  exact ⟨sl, (hs.2 b (nL b o e)).trans e1⟩
 ·obtain ⟨o', e1⟩ := I.base.there b o e hx
  exact ⟨o', (hs.2 b (nL b o e)).trans e1⟩
 ·by_cases hj : j = i
  ·subst hj
   have hiσ : j < σ.length := by rw [I.len]; exact (List.getElem?_eq_some_iff.mp hi).1
   rw [List.getElem?_set_self hiσ] at e2
   cases e2
  ·rw [List.getElem?_set_ne (Ne.symm hj)] at e2
   obtain ⟨u', r', q⟩ := hl j y v' e1 e2 e3
   refine ⟨u', r', ?_⟩
   rcases q with ⟨k, e⟩ | ⟨k, c, e, z⟩
   ·refine .inl ⟨k, ?_⟩
    have : y ≠ n := fun e => hj (nodup_ix hN e1 (e ▸ hi))
    simp [this, e]
   ·exact .inr ⟨k, c, e, z.sameBut hs (cne y c e)⟩
 ·obtain ⟨w', z⟩ := I.cell y c e
  exact ⟨w', z.sameBut hs (cne y c e)⟩
 ·obtain ⟨e, n, ne, nf, d⟩ := I.pin p hp
  exact ⟨(hs.2 p.1 ne).trans e, n, ne, nf, d⟩
theorem ps_try {X : Cx} {i : Nat} {n x : Str} {S : Addr} {body suite : List Stmt} {b₀ : Stmt} {np hpos pos : Pos} {tb : (St → XK) → TS} {ts : TS} (hN : X.N.Nodup) (hi : X.N[i]? = some n) (hk : X.env.kindOf n = some .local)
  (hg : Gl X x) (hm : X.mg x = some (.ref S)) (hb : ∀ pins ET, PSs (X.tryIn pins (XT X pins ET)) body (tb ET)) (hh : ∀ e, PSs (X.suite e) (b₀ :: suite) ts)
  (hs : X.stack = X.env :: X.outer := by rfl) (hf : X.env.frame = some X.env.locals := by rfl) (hd : (x == ("__debug__" : Str)) = false := by decide) :
  PS X (.Try body [.ExceptHandler (some (.Name x np)) (some n) (b₀ :: suite) hpos] [] [] pos) (tTry X.K S i tb ts) := by
 intro pins s σ H D I h
 refine wpAny_Try_except (wpAny_mono (hb pins (ETof X.K S i ts D) [] s σ H D (I.tryIn _) h) (fun f s1 q => ?_) (fun y s1 q => ?_))
 ·have q := q.tryOut
  cases f with
  | next =>
   obtain ⟨σ', H', I', q'⟩ := q
   exact pss_nil pins s1 σ' H' D I' q'
  | brk => exact q
  | cont => exact q
  | ret u => exact q
 ·obtain ⟨σ1, e, C, H1, rfl, I1, ex, hp, C', hC, hx', k⟩ := q
  cases hC
  obtain ⟨⟨oe, ws, T, oT, tl, g1, g2, g3, g4, g5, g6, g7, g8, g9⟩, ne, hHe, hHT⟩ := ex
  have hHT := hHT oe ws T g1 g3 g4
  obtain ⟨a0, h0⟩ : ∃ a0, ws[0]? = some a0 := by
   have hsz : 1 < ws.size := (Array.getElem?_eq_some_iff.mp g4).1
   exact ⟨ws[0], by simp [show 0 < ws.size by omega]⟩
  have ff := I1.stack
  have hl := PySem.W.funFrames_hide (as := e :: T :: frs X.stack) ff (stack_in fun b hb => List.mem_cons_of_mem _ (List.mem_cons_of_mem _ hb))
  have fl : Heap.FlyingW (PySem.W.hideAll s1.heap (e :: T :: frs X.stack)) (X.env :: X.outer) e (.ref C) a0 s1.heap :=
   ⟨fun b o z => PySem.W.of_hideAll _ z, PySem.W.hideAll_none _ List.mem_cons_self, hs ▸ hl, ⟨oe, ws, T, oT, tl, g1, ⟨g2, h0⟩, g3, g4, PySem.W.hideAll_none _ (List.mem_cons_of_mem _ List.mem_cons_self), g6, g7, g8, g9⟩⟩
  have stay : ∀ h', Heap.StaysIn (PySem.W.hideAll s1.heap (e :: T :: frs X.stack)) h' → s1.heap.UpToSlots h' → Inv X pins σ1 H1 { s1 with heap := h' } := fun h' st sm => by
   refine I1.held (es := [e, T]) hs hf (fun b hb => ?_) (fun b o z nf nm => st b o (PySem.W.hideAll_get _ z ?_)) fun b o z hb => ?_
   ·simp only [List.mem_cons, List.not_mem_nil, or_false] at hb
    rcases hb with rfl | rfl
    ·exact ⟨hHe, ne, fun p hq => (hp p hq).1, oe, ws, g1, g3⟩
    ·exact ⟨hHT, g5, fun p hq => (hp p hq).2 oe ws _ g1 g3 g4, oT, tl, g7, g8⟩
   ·intro m
    rcases List.mem_cons.mp m with r | m
    ·exact nm (by simp [r])
    ·rcases List.mem_cons.mp m with r | r
     ·exact nm (by simp [r])
     ·exact nf r
   ·obtain ⟨_, o', z', hd'⟩ := ff.mem hb
    rw [z] at z'; cases z'
    exact sm b o z hd'
  refine wpAny_looks_onW (I1.ok.frames.trans (congrArg some hs)) hf fl fun h4 held sm4 => ?_
  refine wpAny_landsW (s := { s1 with heap := h4 }) held fun h5 fl5 sm5 => ?_
  have I5 := stay h5 fl5.1 (sm4.trans sm5)
  refine wpAny_handleBy_cons (codeAny_handlers_test (ld_glob (X := X.suite e) I5.suite hg hm ?_ hd)) (by intro q; cases q)
  have LT : PySem.W.Looks (model X.prog X.w) h5 (typeOf (.ref e)) (.ref C) := ExcAt.looks fl5.there
  refine (PySem.W.exm_one (h := h5) I5.kIn LT hx').here ?_
  refine codeAny_handlers_suite_as ?_
  refine lands_againW (s := { s1 with heap := h5 }) fl5 fun h6 fl6 sm6 => ?_
  have I6 := stay h6 fl6.1 ((sm4.trans sm5).trans sm6)
  obtain ⟨oe6, ws6, z1, z2, z3, _⟩ := fl6.first
  have I7 : Inv X pins σ1 (upd H1 e (ExcO e C)) { s1 with heap := h6 } := I6.track hHe ne (fun p hq => (hp p hq).1) ⟨oe6, ws6, z1, z3⟩ ⟨oe6, z1, z2⟩ fun ha hb ⟨o, p1, p2⟩ kk => ⟨o, kk o p1, p2⟩
  refine store_ok (X := X.suite e) (v := .ref e) I7.suite hN hi (.inl hk) rfl (fun s8 I8 => ?_) (.inr hk)
  refine wpAny_mono (hh e pins s8 _ _ (Dh i D) I8 (k e hHe)) (fun f s9 q => ?_) fun _ _ z => False.elim z
  show wpAny _ _ _ _ _ _
  cases f with
  | next =>
   obtain ⟨σ', H', I', q'⟩ := q
   exact gone_ok (I'.unsuite I.ok) hN hi hk fun s' J => ⟨_, H', J, q'⟩
  | brk =>
   obtain ⟨σ', H', I', q'⟩ := q
   exact gone_ok (I'.unsuite I.ok) hN hi hk fun s' J => ⟨_, H', J, q'⟩
  | cont =>
   obtain ⟨σ', H', I', q'⟩ := q
   exact gone_ok (I'.unsuite I.ok) hN hi hk fun s' J => ⟨_, H', J, q'⟩
  | ret u =>
   obtain ⟨v, σ', H', I', r, q'⟩ := q
   exact gone_ok (I'.unsuite I.ok) hN hi hk fun s' J => ⟨v, _, H', J, r, q'⟩
end L2
set_option Elab.async false
set_option maxRecDepth 100000
namespace L2
open PySem PySem.Spec PyProof.Rows
structure RoomQ (k : Nat) (A : Around) : Prop where
 dp : A.depth + 3 * k + 5 < recursionLimit
 un : A.units + 16 * k + 200 < cLine
theorem Room.q {k : Nat} {A : Around} (r : Room k A) : RoomQ k A := ⟨r.dp, r.un⟩
theorem RoomQ.mono {j k : Nat} {A : Around} (r : RoomQ k A) (h : j ≤ k) : RoomQ j A := ⟨by have := r.dp; omega, by have := r.un; omega⟩
theorem RoomQ.deeper {k : Nat} {A : Around} (r : RoomQ (k + 1) A) (env : Env) : RoomQ k (A.deeper env) :=
 ⟨by have := r.dp; show A.depth + 1 + 3 * k + 5 < _; omega, by have := r.un; show A.units + 3 + 16 * k + 200 < _; omega⟩
theorem RoomQ.mark {k : Nat} {A : Around} {v : Option Value} (r : RoomQ k A) : RoomQ k (A.mark v) := ⟨r.dp, r.un⟩
structure FnOkQ (P : Program) (w : World) (K : PySem.W.Frag) (mg : Str → Option Value) (base : Heap) (k : Nat) (f : Addr) (fd : FuncData) (ps : List Str) (sp : Sp) : Prop where
 len : ∀ vs H Q E, sp vs H Q E → vs.length = ps.length
 run : ∀ (A : Around) (outer : List Env) (s : Shared) (H : Hp) (args : Args) (us : List Value) (vs : List V) (Q : VK) (E : XK), RoomQ k A → Env0 P w K mg base A outer s H → BindsTo s fd args (ps.zip us) → Vals vs us → sp vs H Q E →
  codeAny (model P w) A (.call (.ref f) args) (CR CX0 outer P w H s Q E) s
abbrev Cx.quiet (X : Cx) : Cx := { X with calm := false }
section
variable {P : Program} {w : World} {K : PySem.W.Frag} {mg : Str → Option Value} {base : Heap}
theorem Fun.okQ {x qual : Str} {st : Stmt} {f : Addr} {fd : FuncData} {N ps : List Str} {k : Nat} {sp : Sp} (F : Fun K x qual st f fd) (S : FnScope N ps (defScope st)) (len : ∀ vs H Q E, sp vs H Q E → vs.length = ps.length)
  (hbody : ∀ (cdv : Value) (A : Around) (outer : List Env) (s : Shared) (H : Hp) (vs : List V) (Q : VK) (E : XK), RoomQ k (A.deeper (envOfC qual (defScope st) s.heap.objs.size f cdv)) → sp vs H Q E →
   ∃ t, PSs (cxOf CX0 P w K mg base N qual (defScope st) f cdv A outer s H E).quiet.nox (defBody st) t ∧ t { nx := fun _ H' => Q .non H', rt := Q } (start N vs) H) : FnOkQ P w K mg base (k + 1) f fd ps sp := by
 obtain ⟨oc, od, kV, doc, pm, an, cdv, ct, osl, rfl, lk, hcd⟩ := F.ex
 refine ⟨len, fun A outer s H args us vs Q E hr e0 hb r hsp => ?_⟩
 have hl := len _ _ _ _ hsp
 have KX : K.In s.heap := e0.mod.kin.keeps fun b o e => (e0.bs b o e).1
 have lim : s.heap.NoLimit := e0.mod.nolimit.keeps fun b o e => (e0.bs b o e).1
 have hkind : ∀ y ∈ ps.zip us, (defScope st).names.lookup y.1 = some .local ∨ ((defScope st).names.lookup y.1 = some .cell ∧ ((cellsFrom (s.heap.objs.size + 1) (defScope st).names []).lookup y.1).isSome = true) := fun ⟨n, v⟩ hy => by
  rcases S.par n (List.of_mem_zip hy).1 with q | q
  ·exact .inl q
  ·exact .inr ⟨q, PySem.W.cellsFrom_some _ _ _ (.inl q)⟩
 refine codeAny_call_function (by have := hr.dp; omega) (KX _ _ lk) rfl S.co S.gen rfl (PySem.W.codeRec_of KX hcd) (hb _ _ _ _ ?_)
 refine wpAny_newFunctionEnv_cells S.kind hkind fun env he s1 x => ?_
 subst he
 refine ⟨lim.keeps x.toInCall.keep, codeAny_func ?_⟩
 obtain ⟨t, ht, hq⟩ := hbody cdv A outer s H vs Q E (hr.deeper _) hsp
 have I0 : Inv (cxOf CX0 P w K mg base N qual (defScope st) f cdv { A with handled := none } outer s H E) [] (start N vs) H s1 := inv_start S rfl ⟨e0.frames, e0.mod, e0.bs, e0.bsz, e0.funs, e0.frf, e0.hok, e0.bare⟩ hl r x
 have I : Inv (cxOf CX0 P w K mg base N qual (defScope st) f cdv A outer s H E).quiet.nox [] (start N vs) H s1 :=
  ⟨⟨I0.ok.mod, I0.ok.kind, I0.ok.glob, I0.ok.blt, I0.ok.above, I0.ok.inj, I0.ok.has, I0.ok.cab, fun z => Bool.noConfusion z, I0.ok.frames, I0.ok.stk, I0.ok.exf, I0.ok.bs, I0.ok.bsz, I0.ok.noex, I0.ok.exfs, I0.ok.funs, I0.ok.frf⟩, I0.os, I0.bare, I0.base, I0.loc, I0.cell, I0.free, I0.freeC, I0.pin, I0.hok, I0.len⟩
 refine wpAny_mono (ht [] s1 (start N vs) H _ I hq) (fun fl s' hs => ?_) fun e s' hs => False.elim hs
 have fin : ∀ {σ' : St} {H' : Hp} {v : V} {u : Value}, Inv (cxOf CX0 P w K mg base N qual (defScope st) f cdv A outer s H E).quiet.nox [] σ' H' s' → RelV v u → Q v H' → CE outer P w H s Q u s' :=
  fun {σ' H' v u} J rv q => ⟨v, H', J.os, J.bare, J.base, J.hok, rv, q⟩
 cases fl with
 | ret u =>
  obtain ⟨v, σ', H', J, rv, q⟩ := hs
  exact fin J rv q
 | next =>
  obtain ⟨σ', H', J, q⟩ := hs
  exact fin (v := V.non) (u := Value.none) J rfl q
 | brk =>
  obtain ⟨_, _, _, q⟩ := hs
  exact False.elim q
 | cont =>
  obtain ⟨_, _, _, q⟩ := hs
  exact False.elim q
end
section
variable {X : Cx} {k : Nat} {f C : Addr} {fd : FuncData} {ps : List Str} {sp : Sp} {dvs : List V} {ds : List Value} {x m : Str} {p pos apos : Pos} {e o : Expr} {es : List Expr} {ta : TE} {t : TA}
theorem pe_callQ (F : FnOkQ X.prog X.w X.K X.mg X.base k f fd ps sp) (hr : RoomQ k X.A) (hg : Gl X x) (hm : X.mg x = some (.ref f)) (hk : PySem.W.keepIn X.K (.ref f) = true) (hb : Binds X.K fd ps ds) (hd : Vals dvs ds)
  (ha : PA X (e :: es) t) (hdb : (x == ("__debug__" : Str)) = false := by decide) (he : starEach (e :: es) X.env = (false, eval e X.env) :: starEach es X.env := by rfl) (hpl : (backTo pos (starEach es X.env)).any (·.1) = false := by rfl) :
  PE X (.Call (.Name x p) (e :: es) [] pos) (tCall sp dvs E0 t) := by
 intro pins s σ H Q I h
 refine wpAny_Call_Name_kw (ld_glob I hg hm ?_ hdb)
 refine PySem.W.callWith_K (h₀ := X.base) I.ok.mod.kin hk (thn (ha pos pins s σ H _ I h) fun us s1 ⟨vs, H1, I1, r, q⟩ => ⟨I1.kIn, ?_⟩) he hpl
 have r2 : Vals (vs ++ dvs) (us ++ ds) := r.append hd
 have hl : (us ++ ds).length = ps.length := by rw [← r2.length]; exact F.len _ _ _ _ q
 refine wpAny_call (codeAny_mono (F.run X.A X.stack s1 H1 ⟨us, []⟩ (us ++ ds) (vs ++ dvs) Q E0 hr I1.env0 (hb s1 us I1.kIn hl) r2 q) fun r s' hq => ?_)
 cases r with
 | error e => exact False.elim hq
 | ok fl =>
  cases fl with
  | ret u => exact I1.after hq
  | next => exact False.elim hq
  | brk => exact False.elim hq
  | cont => exact False.elim hq
end
end L2
set_option Elab.async false
set_option maxRecDepth 100000
namespace L2
open PySem PySem.Spec PyProof.Rows
theorem exm_of {K : PySem.W.Frag} {A S : Addr} (bs : PySem.W.subIn K (.ref S) (.type "BaseException") = some true) (mo : PySem.W.mroIn K S (.type "object") = some true) (ty : PySem.W.typeIn K (.ref S) = some (.type "type"))
  (sb : PySem.W.subIn K (.ref A) (.ref S) = some true) : PySem.W.exmOne K (.ref A) (.ref S) = some true := by
 obtain ⟨cd, hc, _⟩ := Option.bind_eq_some_iff.mp mo
 simp only [PySem.W.exmOne, PySem.W.kitCls]
 simp [bs, hc, ty, sb]
theorem own_of {K : PySem.W.Frag} {h : Heap} {mg : Str → Option Value} {x : Str} {C : Addr} {bmB : List Value} {newId : String} (X : K.In h) (hm : mg x = some (.ref C)) (q : PySem.W.excIn K C bmB newId = true) : OwnCls x C bmB newId mg h := by
 refine ⟨hm, ?_⟩
 simp only [PySem.W.excIn] at q
 split at q
 case h_2 => cases q
 case h_1 dd cd sl ho =>
  split at q
  case h_2 => cases q
  case h_1 C' bm k0 k1 k2 k3 n k5 hmr hsl =>
   simp only [Bool.and_eq_true, beq_iff_eq, Bool.not_eq_true'] at q
   obtain ⟨⟨⟨⟨⟨e1, e2⟩, hdel⟩, ht⟩, hok⟩, hni⟩ := q
   subst e1 e2
   have hh := X _ _ ho
   obtain ⟨nm, bs, mro, ns, qn, hd, sn, sub, ab, col, del⟩ := cd
   simp only at hmr hdel hok hni
   subst hmr hdel
   obtain ⟨l⟩ := sl
   simp only at hsl
   subst hsl
   exact ⟨bm, ns, nm, qn, bs, hd, sn, sub, ab, col, dd, k0, k1, k2, k3, k5, _, hh, .of_isNs (PySem.W.isNs_of_in X hok), PySem.W.nsMap_none_of_in X hok hni, PySem.W.tail_of_in X ht⟩
theorem ps_raiseK {X : Cx} {E : XK} {x : Str} {C : Addr} {B newId initId : String} {bm : List Value} {np cpos pos : Pos} {e : Expr} {es : List Expr} {t : TA} (hm : X.mg x = some (.ref C)) (q : PySem.W.excIn X.K C bm newId = true) (FB : ExcBaseFacts B newId initId bm) (hc : X.calm = true) (hg : Gl X x)
  (hx : ∀ (pins : List (Addr × Obj)) (σ : St) (H : Hp) (s : Shared) (h' : Heap) (t' : Nat) (e : Addr) (vs : List Value), Inv X pins σ H s → Heap.MadeExcOf s.heap h' e (.ref C) vs → E (.ref C) none H → X.xe (.ref e) { s with heap := h', toks := t' })
  (ha : PA X (e :: es) t) (hd : (x == ("__debug__" : Str)) = false := by decide) (he : starEach (e :: es) X.env = (false, eval e X.env) :: starEach es X.env := by rfl) (hpl : (backTo cpos (starEach es X.env)).any (·.1) = false := by rfl) :
  PS X (.Raise (some (.Call (.Name x np) (e :: es) [] cpos)) none pos) (tRaise C E t) := fun pins s σ H D I h =>
 ps_raise (own_of I.ok.mod.kin hm q) FB hc hg hx ha hd he hpl pins s σ H D I h
theorem rd_raise {C : Addr} {E : XK} {t : TA} {D : Ends} {σ : St} {H : Hp} (h : t σ H fun vs H1 => vs.length ≤ sizeLine ∧ E (.ref C) none H1) : tRaise C E t D σ H := h
section
variable {P : Program} {w : World} {K : PySem.W.Frag} {mg : Str → Option Value} {base : Heap}
theorem FnOk.down {k : Nat} {f : Addr} {fd : FuncData} {ps : List Str} {sp sp' : Sp} (F : FnOk P w K mg base (CX1 P w) k f fd ps sp) (h : ∀ vs H Q E, sp' vs H Q E → sp vs H Q (fun _ _ _ => False)) : FnOk P w K mg base CX0 k f fd ps sp' :=
 ⟨fun vs H Q E q => F.len vs H Q _ (h _ _ _ _ q), fun A outer s H args us vs Q E hr e0 hb hv hs => codeAny_mono (F.run A outer s H args us vs Q _ hr e0 hb hv (h _ _ _ _ hs)) fun r s' hq => by
  cases r with
  | error e => obtain ⟨_, _, _, _, _, _, _, _, _, z⟩ := hq; exact z.elim
  | ok fl => cases fl <;> exact hq⟩
end
theorem rd_try {K : PySem.W.Frag} {S : Addr} {i : Nat} {tb : (St → XK) → TS} {ts : TS} {D : Ends} {σ : St} {H : Hp} (h : tb (ETof K S i ts D) D σ H) : tTry K S i tb ts D σ H := h
end L2
set_option Elab.async false
set_option maxRecDepth 100000
namespace L2
open PySem PySem.Spec PyProof.Rows
theorem rd_cat {H : Hp} {Q : VK} {a b : Addr} {xs zs : List V} (ha : H a = some (.lst xs)) (hb : H b = some (.lst zs)) (z : xs.length + zs.length ≤ sizeLine) (q : ∀ p, H p = none → Q (.ref p) (upd H p (.lst (xs ++ zs)))) : rCat (.ref a) (.ref b) H Q :=
 ⟨a, b, xs, zs, rfl, rfl, ha, hb, z, q⟩
theorem repL_bools {H : Hp} : ∀ (bs : List Bool), RepL H (bs.map PyData.bool) (bs.map V.bl)
 | [] => by simp only [List.map_nil, RepL]
 | n :: r => by
  simp only [List.map_cons, RepL, Rep]
  exact ⟨_, _, rfl, rfl, repL_bools r⟩
theorem rep_bools {H : Hp} {a : Addr} {bs : List Bool} (h : H a = some (.lst (bs.map V.bl))) : Rep H (.list (bs.map PyData.bool)) (.ref a) := by
 simp only [Rep]
 exact ⟨a, _, rfl, h, repL_bools bs⟩
theorem eqv_bools : ∀ ns ms : List Bool, PyData.eqvAll (ns.map PyData.bool) (ms.map PyData.bool) = decide (ns = ms)
 | [], [] => by simp [PyData.eqvAll]
 | [], _ :: _ => by simp [PyData.eqvAll]
 | _ :: _, [] => by simp [PyData.eqvAll]
 | a :: r, b :: u => by
  simp only [List.map_cons, PyData.eqvAll, PyData.eqv, eqv_bools r u]
  by_cases h : a = b <;> by_cases h' : r = u <;> simp [h, h']
theorem lay_bools : ∀ bs : List Bool, PyData.canLayAll0 (bs.map PyData.bool) = true
 | [] => rfl
 | _ :: r => by simp [PyData.canLayAll0, PyData.canLay0, lay_bools r]
theorem deep_bools : ∀ bs : List Bool, PyData.depthAll (bs.map PyData.bool) = 0
 | [] => rfl
 | _ :: r => by simp [PyData.depthAll, PyData.depth, deep_bools r]
theorem shaped_bools (bs : List Bool) : SeqAt.shaped (.list (bs.map PyData.bool)) = true := by
 simp [SeqAt.shaped, PyData.canLay0, PyData.depth, lay_bools, deep_bools]
theorem rd_neBools {H : Hp} {Q : VK} {a b : Addr} {ns ms : List Bool} (ha : H a = some (.lst (ns.map V.bl))) (hb : H b = some (.lst (ms.map V.bl))) (q : Q (.bl (!decide (ns = ms))) H) : rEqD true (.ref a) (.ref b) H Q :=
 ⟨_, _, rep_bools ha, rep_bools hb, shaped_bools _, shaped_bools _, by
  have e : PyData.eqv (.list (ns.map PyData.bool)) (.list (ms.map PyData.bool)) = decide (ns = ms) := by simp only [PyData.eqv]; exact eqv_bools ns ms
  rw [e]; exact q⟩
def SameBut (l : Addr) (H H' : Hp) : Prop := ∀ b o, H b = some o → b ≠ l → H' b = some o
section
variable {K : PySem.W.Frag} {σ : St} {H : Hp} {Q : VK} {te : TE} {cap : List (Option Nat)} {l : Addr}
end
def tJoin (t : TS) : TS := fun D σ H => ∃ J : St → Hp → Prop, t { D with nx := J } σ H ∧ ∀ σ' H', J σ' H' → D.nx σ' H'
theorem ps_join {X : Cx} {st : Stmt} {t : TS} (h : PS X st t) : PS X st (tJoin t) := by
 intro pins s σ H D I ⟨J, h1, h2⟩
 refine wpAny_mono (h pins s σ H _ I h1) (fun f s' q => ?_) fun _ _ z => z
 cases f with
 | next => obtain ⟨σ', H', J', q⟩ := q; exact ⟨σ', H', J', h2 σ' H' q⟩
 | brk => exact q
 | cont => exact q
 | ret u => exact q
theorem rd_join {t : TS} {D : Ends} {σ : St} {H : Hp} (J : St → Hp → Prop) (h1 : t { D with nx := J } σ H) (h2 : ∀ σ' H', J σ' H' → D.nx σ' H') : tJoin t D σ H := ⟨J, h1, h2⟩
end L2
set_option Elab.async false
set_option maxRecDepth 100000
namespace L2
open PySem PySem.Spec PyProof.Rows
section
variable {prog : Program} {w : World} {A : Around} {E : Value → Shared → Prop} {s : Shared}
theorem tupNext {I u : Addr} {k : Nat} {its : Array Value} {x : Value} {Q : Value → Shared → Prop} (hI : s.heap.IsTupleIter I u k) (hu : s.heap.IsTuple u its) (hx : its[k]? = some x)
  (hQ : ∀ g, g.IsTupleIter I u (k + 1) → Heap.SameBut I s.heap g → Q x { s with heap := g }) : wpAny (model prog w) A (Builtin.SmallTypes.nextOf (.ref I)) Q E s := by
 obtain ⟨oI, eI, cI, dI⟩ := id hI
 obtain ⟨ou, eu, _, nu, du⟩ := hu
 unfold Builtin.SmallTypes.nextOf
 refine wpAny_bind (wpAny_callSpecial?_slot (name := Str.ofString "__next__") hI.typeIs F.slot_tuple_iterator_next (wpAny_call_entry F.slot_tuple_iterator_next hI.typeIs F.entry_tuple_iterator_next ?_ (F.args_tuple_iterator_next_1 _)))
 show wpAny _ _ (field (.ref I) 0 >>= _) _ _ s
 refine wpAny_bind (wpAny_field eI dI (x := .ref u) rfl ?_)
 show wpAny _ _ (if (Value.ref u == Value.none) = true then _ else _) _ _ s
 rw [if_neg (show ¬ ((Value.ref u == Value.none) = true) from Bool.false_ne_true)]
 show wpAny _ _ (field (.ref I) 1 >>= _) _ _ s
 refine wpAny_bind (wpAny_field eI dI (x := .int k 0) rfl ?_)
 show wpAny _ _ (seqItems? (.ref u) >>= _) _ _ s
 refine wpAny_bind (wpAny_seqItems eu du ?_)
 rw [Int.toNat_natCast]; simp only [hx]
 refine wpAny_bind (wpAny_setField eI dI (by simp) (wpAny_pure ⟨x, rfl, wpAny_pure (hQ _ ?_ (Heap.SameBut.update ..))⟩))
 exact ⟨_, Heap.get?_update_self _ eI (Obj.isFreed_of_fields (Obj.data_mapFields dI _)), (Obj.cls_mapFields ..).trans cI, by rw [Obj.data_mapFields dI]; simp [rawInt]⟩
theorem tupStop {I u : Addr} {k : Nat} {its : Array Value} {Q : Value → Shared → Prop} (hd0 : A.handled = none) (hI : s.heap.IsTupleIter I u k) (hu : s.heap.IsTuple u its) (hx : its[k]? = none)
  (hE : ∀ g e, Heap.ExtBut I s.heap g → (∃ o, g.get? e = some o ∧ o.cls = .type "StopIteration") → E (.ref e) { s with heap := g }) : wpAny (model prog w) A (Builtin.SmallTypes.nextOf (.ref I)) Q E s := by
 obtain ⟨oI, eI, cI, dI⟩ := id hI
 obtain ⟨ou, eu, _, nu, du⟩ := hu
 unfold Builtin.SmallTypes.nextOf
 refine wpAny_bind (wpAny_callSpecial?_slot (name := Str.ofString "__next__") hI.typeIs F.slot_tuple_iterator_next (wpAny_call_entry F.slot_tuple_iterator_next hI.typeIs F.entry_tuple_iterator_next ?_ (F.args_tuple_iterator_next_1 _)))
 show wpAny _ _ (field (.ref I) 0 >>= _) _ _ s
 refine wpAny_bind (wpAny_field eI dI (x := .ref u) rfl ?_)
 show wpAny _ _ (if (Value.ref u == Value.none) = true then _ else _) _ _ s
 rw [if_neg (show ¬ ((Value.ref u == Value.none) = true) from Bool.false_ne_true)]
 show wpAny _ _ (field (.ref I) 1 >>= _) _ _ s
 refine wpAny_bind (wpAny_field eI dI (x := .int k 0) rfl ?_)
 show wpAny _ _ (seqItems? (.ref u) >>= _) _ _ s
 refine wpAny_bind (wpAny_seqItems eu du ?_)
 rw [Int.toNat_natCast]; simp only [hx]
 refine wpAny_bind (wpAny_rule (wpAny_bind (wpAny_setField eI dI (by simp) ?_)))
 show wpAny _ _ (newExc (.type "StopIteration") [] >>= _) _ _ _; refine wpAny_bind ?_
 simp only [newExc, newTuple]; refine wpAny_bind (wpAny_newObj_type ?_ (by size_fits))
 refine wpAny_bind (m := firstArgMember _ _) (wpAny_of_eq (a := Value.none) (by first | rfl | (simp only [firstArgMember]; rfl)) ?_); refine wpAny_newObj_type ?_ (by size_fits)
 simp only [raiseNew]; refine wpAny_bind (wpAny_handled ?_); rw [show A.in1.handled = none from hd0]
 refine wpAny_bind (wpAny_pure (wpAny_throw ?_)); exact hE _ _ (((Heap.SameBut.update ..).extBut.push _).push _) ⟨_, Heap.get?_push_size _ rfl, rfl⟩
theorem zipT_item {Z TI TO i j u v : Addr} {k l : Nat} {xs ys : Array Value} {x y a b : Value} {Q : Option Value → Shared → Prop} (D : ZipApart Z TI TO i j u v)
  (eZ : IsZip s.heap Z TI TO .none) (eI : IsPair s.heap TI (.ref i) (.ref j)) (eO : IsPair s.heap TO a b) (ei : s.heap.IsTupleIter i u k) (ej : s.heap.IsTupleIter j v l) (eu : s.heap.IsTuple u xs) (ev : s.heap.IsTuple v ys) (hx : xs[k]? = some x) (hy : ys[l]? = some y)
  (hQ : ∀ g, IsZip g Z TI TO (rawInt s.heap.objs.size) → IsPair g TO x y → g.IsTupleIter i u (k + 1) → g.IsTupleIter j v (l + 1) → IsPair g s.heap.objs.size x y → g.objs.size = s.heap.objs.size + 1 →
   (∀ c o, c ≠ Z → c ≠ TO → c ≠ i → c ≠ j → s.heap.get? c = some o → g.get? c = some o) → Q (some (.ref s.heap.objs.size)) { s with heap := g }) : wpAny (model prog w) A (pyNext (.ref Z)) Q E s := by
 have hT : s.TypeIs (.ref Z) "zip" := ⟨_, eZ, rfl⟩
 unfold pyNext
 refine wpAny_bind (wpAny_attempt (wpAny_callSpecial?_slot (name := Str.ofString "__next__") hT F.slot_zip_next (wpAny_call_entry F.slot_zip_next hT F.entry_zip_next ?_ (F.args_zip_next_1 _))))
 show wpAny _ _ (field (.ref Z) 2 >>= _) _ _ _
 refine wpAny_bind (wpAny_field eZ rfl (x := .bool false) rfl ?_)
 show wpAny _ _ (field (.ref Z) 3 >>= _) _ _ _
 refine wpAny_bind (wpAny_field eZ rfl (x := .ref TI) rfl ?_); refine wpAny_bind (wpAny_seqItems eI rfl ?_)
 show wpAny _ _ (Builtin.SmallTypes.ownedTupleIsFree (.ref Z) >>= _) _ _ _
 refine wpAny_bind ?_; unfold Builtin.SmallTypes.ownedTupleIsFree
 refine wpAny_bind (wpAny_field eZ rfl (x := .none) rfl (wpAny_pure ?_)); simp only [if_true]
 refine wpAny_bind (wpAny_rule ?_); refine wpAny_bind (wpAny_field eZ rfl (x := .ref TO) rfl ?_)
 refine wpAny_bind (wpAny_setField_rec eZ (by simp) fun g1 z1 t1 => ?_)
 replace z1 : IsZip g1 Z TI TO .ellipsis := z1
 refine wpAny_bind ?_; simp only [List.zipIdx_cons, List.zipIdx_nil, List.forIn_cons, List.forIn_nil]; refine wpAny_bind (wpAny_bind (wpAny_onRaise ?_))
 show wpAny _ _ (Builtin.SmallTypes.nextOf (.ref i) >>= _) _ _ _
 refine wpAny_bind (tupNext (ei.extBut t1.extBut D.i1z) (eu.extBut t1.extBut D.l1z) hx fun g2 i2 t2 => wpAny_pure ?_)
 have o2 : IsPair g2 TO a b := t2.extBut _ _ D.TOi1 (t1.extBut _ _ D.TOz eO)
 refine wpAny_bind (wpAny_seqItems o2 rfl ?_); refine wpAny_bind (wpAny_updateSeq_pair o2 fun g3 o3 t3 => ?_)
 replace o3 : IsPair g3 TO x b := o3
 refine wpAny_bind (wpAny_letGo (wpAny_pure ?_)); refine wpAny_bind (wpAny_bind (wpAny_onRaise ?_))
 show wpAny _ _ (Builtin.SmallTypes.nextOf (.ref j) >>= _) _ _ _
 refine wpAny_bind (tupNext (((ej.extBut t1.extBut D.i2z).extBut t2.extBut D.i12.symm).extBut t3.extBut D.TOi2.symm) (((ev.extBut t1.extBut D.l2z).extBut t2.extBut D.l2i1).extBut t3.extBut D.l2TO) hy fun g4 j4 t4 => wpAny_pure ?_)
 have o4 : IsPair g4 TO x b := t4.extBut _ _ D.TOi2 o3
 refine wpAny_bind (wpAny_seqItems o4 rfl ?_); refine wpAny_bind (wpAny_updateSeq_pair o4 fun g5 o5 t5 => ?_)
 replace o5 : IsPair g5 TO x y := o5
 refine wpAny_bind (wpAny_letGo (wpAny_pure (wpAny_pure ?_))); refine wpAny_bind (wpAny_seqItems o5 rfl ?_); refine wpAny_bind (wpAny_newTuple ?_)
 have sz : g5.objs.size = s.heap.objs.size := by rw [t5.1, t4.1, t3.1, t2.1, t1.1]
 have z5 : IsZip g5 Z TI TO .ellipsis := t5.extBut _ _ D.TOz.symm (t4.extBut _ _ D.i2z.symm (t3.extBut _ _ D.TOz.symm (t2.extBut _ _ D.i1z.symm z1)))
 have k5 : ∀ c o, c ≠ Z → c ≠ TO → c ≠ i → c ≠ j → s.heap.get? c = some o → g5.get? c = some o := fun c o c1 c2 c3 c4 q => t5.extBut _ _ c2 (t4.extBut _ _ c4 (t3.extBut _ _ c2 (t2.extBut _ _ c3 (t1.extBut _ _ c1 q))))
 have i5 : g5.IsTupleIter i u (k + 1) := ((i2.extBut t3.extBut D.TOi1.symm).extBut t4.extBut D.i12).extBut t5.extBut D.TOi1.symm
 have j5 : g5.IsTupleIter j v (l + 1) := j4.extBut t5.extBut D.TOi2.symm
 have lz : Z < g5.objs.size := Heap.lt_size z5
 show wpAny _ _ (Builtin.SmallTypes.ownedTupleHandOut (.ref Z) (.ref g5.objs.size) >>= _) _ _ _
 refine wpAny_bind ?_; unfold Builtin.SmallTypes.ownedTupleHandOut
 have z6 : IsZip (g5.push { cls := .type "tuple", data := .seq #[x, y] }) Z TI TO .ellipsis := Heap.get?_push_of_some _ z5
 refine wpAny_bind (wpAny_setField_rec z6 (by simp) fun g7 z7 t7 => ?_)
 replace z7 : IsZip g7 Z TI TO (rawInt g5.objs.size) := z7
 refine wpAny_setField_rec z7 (by simp) fun g8 z8 t8 => ?_
 replace z8 : IsZip g8 Z TI TO (rawInt g5.objs.size) := z8
 have up : ∀ c o, c ≠ Z → g5.get? c = some o → g8.get? c = some o := fun c o c1 q => t8.extBut _ _ c1 (t7.extBut _ _ c1 (Heap.get?_push_of_some _ q))
 have n8 : IsPair g8 g5.objs.size x y := t8.extBut _ _ (Nat.ne_of_gt lz) (t7.extBut _ _ (Nat.ne_of_gt lz) (Heap.get?_push_size _ rfl))
 have s8 : g8.objs.size = g5.objs.size + 1 := by rw [t8.1, t7.1, Heap.size_push]
 rw [sz] at z8 n8 s8
 refine wpAny_pure ⟨_, rfl, wpAny_pure ?_⟩
 rw [sz]
 obtain ⟨oi, qi⟩ := i5
 obtain ⟨oj, qj⟩ := j5
 exact hQ g8 z8 (up _ _ D.TOz o5) ⟨oi, up _ _ D.i1z qi.1, qi.2⟩ ⟨oj, up _ _ D.i2z qj.1, qj.2⟩ n8 s8 fun c o c1 c2 c3 c4 q => up c o c1 (k5 c o c1 c2 c3 c4 q)
theorem zipT_end {Z TI TO i j u v : Addr} {k : Nat} {xs : Array Value} {Q : Option Value → Shared → Prop} (hd0 : A.handled = none) (D : ZipApart Z TI TO i j u v)
    (eZ : IsZip s.heap Z TI TO .none) (eI : IsPair s.heap TI (.ref i) (.ref j)) (ei : s.heap.IsTupleIter i u k) (eu : s.heap.IsTuple u xs) (hx : xs[k]? = none)
    (hQ : ∀ g, (∀ c o, c ≠ Z → c ≠ TO → c ≠ i → c ≠ j → s.heap.get? c = some o → g.get? c = some o) → Q none { s with heap := g }) : wpAny (model prog w) A (pyNext (.ref Z)) Q E s := by
  have hT : s.TypeIs (.ref Z) "zip" := ⟨_, eZ, rfl⟩
  have body : ∀ (E' : Value → Shared → Prop) (Q' : Fin → Shared → Prop), (∀ g e, (∀ c o, c ≠ Z → c ≠ TO → c ≠ i → c ≠ j → s.heap.get? c = some o → g.get? c = some o) → (∃ o, g.get? e = some o ∧ o.cls = .type "StopIteration") → E' (.ref e) { s with heap := g }) →
      wpAny (model prog w) A.in1 (Builtin.«zip.__next__» ⟨[.ref Z], []⟩) Q' E' s := fun E' Q' hE => by
    show wpAny _ _ (field (.ref Z) 2 >>= _) _ _ _
    refine wpAny_bind (wpAny_field eZ rfl (x := .bool false) rfl ?_)
    show wpAny _ _ (field (.ref Z) 3 >>= _) _ _ _
    refine wpAny_bind (wpAny_field eZ rfl (x := .ref TI) rfl ?_); refine wpAny_bind (wpAny_seqItems eI rfl ?_)
    show wpAny _ _ (Builtin.SmallTypes.ownedTupleIsFree (.ref Z) >>= _) _ _ _
    refine wpAny_bind ?_; unfold Builtin.SmallTypes.ownedTupleIsFree
    refine wpAny_bind (wpAny_field eZ rfl (x := .none) rfl (wpAny_pure ?_)); simp only [if_true]
    refine wpAny_bind (wpAny_rule ?_); refine wpAny_bind (wpAny_field eZ rfl (x := .ref TO) rfl ?_)
    refine wpAny_bind (wpAny_setField_rec eZ (by simp) fun g1 z1 t1 => ?_)
    replace z1 : IsZip g1 Z TI TO .ellipsis := z1
    refine wpAny_bind ?_; simp only [List.zipIdx_cons, List.zipIdx_nil, List.forIn_cons, List.forIn_nil]; refine wpAny_bind (wpAny_bind (wpAny_onRaise ?_))
    show wpAny _ _ (Builtin.SmallTypes.nextOf (.ref i) >>= _) _ _ _
    refine wpAny_bind (tupStop hd0 (ei.extBut t1.extBut D.i1z) (eu.extBut t1.extBut D.l1z) hx fun g2 e t2 he => ?_)
    obtain ⟨oe, q1, q2⟩ := he
    have z2 : IsZip g2 Z TI TO .ellipsis := t2 _ _ D.i1z.symm z1
    have ne : e ≠ Z := fun q => by subst q; rw [z2] at q1; cases q1; simp at q2
    refine wpAny_setField_rec z2 (by simp) fun g3 _ t3 => hE g3 e (fun c o c1 _ c3 _ q => t3.extBut _ _ c1 (t2 _ _ c3 (t1.extBut _ _ c1 q))) ⟨oe, t3.extBut _ _ ne q1, q2⟩
  unfold pyNext
  refine wpAny_bind (wpAny_attempt (wpAny_callSpecial?_slot (name := Str.ofString "__next__") hT F.slot_zip_next (wpAny_call_entry F.slot_zip_next hT F.entry_zip_next (body _ _ fun g e hk he => ?_) (F.args_zip_next_1 _))))
  obtain ⟨o, q1, q2⟩ := he
  exact wpAny_bind (wpAny_isInstance (T := "StopIteration") (b := true) ⟨o, q1, q2⟩ isSubtype_stop (wpAny_pure (hQ _ hk)))
end
end L2
set_option Elab.async false
set_option maxRecDepth 100000
namespace L2
open PySem PySem.Spec PyProof.Rows
theorem istup {h : Heap} {a : Addr} {its : Array Value} (p : IsTup h a its) : h.IsTuple a its := p
def Itzt (K : PySem.W.Frag) (a b : Addr) : It :=
  ⟨fun i H => ∃ xs ys x y, SqT K H a xs ∧ SqT K H b ys ∧ xs[i]? = some x ∧ ys[i]? = some y,
   fun i H v H' => ∃ T, v = .ref T ∧ H T = none ∧ ∀ xs ys, SqT K H a xs → SqT K H b ys → ∃ x y, xs[i]? = some x ∧ ys[i]? = some y ∧ H' = upd H T (.tup [x, y]),
   fun i H => ∃ xs ys, SqT K H a xs ∧ SqT K H b ys ∧ xs.length ≤ i⟩
theorem turn_zipT {P : Program} {w : World} {K : PySem.W.Frag} {elts : List Expr} {kt : Nat} {pt : Pos} {a b n : Addr} (ha : a < n) (hb : b < n) :
    Turn P w K (.Tuple elts kt pt) (Itzt K a b) [n + 4, n + 2, n + 3, n, n + 1] (n + 4) (fun i h => IsZip h (n + 4) (n + 2) (n + 3) .none ∧ IsPair h (n + 2) (.ref n) (.ref (n + 1)) ∧ (∃ x y, IsPair h (n + 3) x y) ∧ h.IsTupleIter n a i ∧ h.IsTupleIter (n + 1) b i) where
  mem := by simp
  obj := fun i h st c hc => by
    obtain ⟨z1, z2, ⟨x, y, z3⟩, ⟨o4, e4, c4, d4⟩, ⟨o5, e5, c5, d5⟩⟩ := st
    simp only [List.mem_cons, List.not_mem_nil, or_false] at hc
    rcases hc with rfl | rfl | rfl | rfl | rfl
    · exact ⟨_, z1, fun v z => by cases z⟩
    · exact ⟨_, z2, fun v z => by cases z⟩
    · exact ⟨_, z3, fun v z => by cases z⟩
    · exact ⟨_, e4, fun v z => by rw [d4] at z; cases z⟩
    · exact ⟨_, e5, fun v z => by rw [d5] at z; cases z⟩
  keep := fun i h h' st k => by
    obtain ⟨z1, z2, ⟨x, y, z3⟩, z4, z5⟩ := st
    exact ⟨k _ (by simp) _ z1, k _ (by simp) _ z2, ⟨x, y, k _ (by simp) _ z3⟩, z4.at fun o e => k _ (by simp) o e, z5.at fun o e => k _ (by simp) o e⟩
  item := by
    intro X hP hw hK hc i pins s σ H E I hf st hg
    subst hP hw hK
    obtain ⟨xs, ys, x, y, hqa, hqb, hx, hy⟩ := hg
    obtain ⟨its, rv, p, hz⟩ := I.tuple hqa
    obtain ⟨jts, rw', p', hz'⟩ := I.tuple hqb
    obtain ⟨u, hu, ru⟩ := rv.get hx
    obtain ⟨u', hu', ru'⟩ := rw'.get hy
    obtain ⟨z1, z2, ⟨x0, y0, z3⟩, z4, z5⟩ := st
    have D : ZipApart (n + 4) (n + 2) (n + 3) n (n + 1) a b := PyProof.Rows.zipApart_new ha hb
    have ltz : n + 4 < s.heap.objs.size := Heap.lt_size z1
    refine zipT_item D z1 z2 z3 z4 z5 (istup p) (istup p') (x := u) (y := u') (by simpa using hu) (by simpa using hu') fun h' a1 a2 a3 a4 a5 a6 hk => ?_
    refine ⟨_, rfl, wpAny_letOwnedTupleGo_zip (s := { s with heap := h' }) a1 fun h2 b1 hs => ?_⟩
    have neT : ∀ {c : Addr}, c ≤ n + 4 → c ≠ s.heap.objs.size := fun h => Nat.ne_of_lt (Nat.lt_of_le_of_lt h ltz)
    have kk : ∀ c o, c ∉ [n + 4, n + 3, n, n + 1] → s.heap.get? c = some o → h2.get? c = some o := fun c o hc e => by
      simp only [List.mem_cons, List.not_mem_nil, or_false, not_or] at hc
      exact (hs.2 c hc.1).trans (hk c o hc.1 hc.2.1 hc.2.2.1 hc.2.2.2 e)
    have q2 : h2.get? (n + 2) = _ := kk _ _ (by simp only [List.mem_cons, List.not_mem_nil, or_false, not_or]; exact ⟨D.TIz, D.TITO, D.TIi1, D.TIi2⟩) z2
    have q3 : h2.get? (n + 3) = _ := (hs.2 _ D.TOz).trans a2
    obtain ⟨o4, e4, c4⟩ := a3
    obtain ⟨o5, e5, c5⟩ := a4
    have q4 : h2.get? n = _ := (hs.2 _ D.i1z).trans e4
    have q5 : h2.get? (n + 1) = _ := (hs.2 _ D.i2z).trans e5
    have qT : h2.get? s.heap.objs.size = _ := (hs.2 _ (Ne.symm (neT (Nat.le_refl _)))).trans a5
    have sub : ∀ c ∈ [n + 4, n + 3, n, n + 1], c ∈ [n + 4, n + 2, n + 3, n, n + 1] := fun c hc => by
      simp only [List.mem_cons, List.not_mem_nil, or_false] at hc ⊢
      rcases hc with e | e | e | e
      · exact .inl e
      · exact .inr (.inr (.inl e))
      · exact .inr (.inr (.inr (.inl e)))
      · exact .inr (.inr (.inr (.inr e)))
    have I1 : Inv X pins σ (upd H s.heap.objs.size (.tup [x, y])) { s with heap := h2, toks := s.toks } := I.turnedL (ch := [n + 4, n + 3, n, n + 1]) kk (fun c hc => hf c (sub c hc)) (fun c hc => by
        simp only [List.mem_cons, List.not_mem_nil, or_false] at hc
        rcases hc with rfl | rfl | rfl | rfl
        · exact ⟨_, b1⟩
        · exact ⟨_, q3⟩
        · exact ⟨_, q4⟩
        · exact ⟨_, q5⟩) (Nat.le_refl _) ⟨by show 2 ≤ sizeLine; decide, [u, u'], .cons ru (.cons ru' .nil), _, qT, rfl, _, rfl⟩
    refine ⟨.ref s.heap.objs.size, _, I1, rfl, ⟨_, rfl, I.hok.fresh (Nat.le_refl _), fun vs ws hv hw => ?_⟩, ⟨b1, q2, ⟨_, _, q3⟩, ⟨_, q4, c4⟩, ⟨_, q5, c5⟩⟩, fun c hc => ?_⟩
    · rw [I.tuple_inj hv hqa, I.tuple_inj hw hqb]
      exact ⟨x, y, hx, hy, rfl⟩
    · have hle : c ≤ n + 4 := by
        simp only [List.mem_cons, List.not_mem_nil, or_false] at hc
        rcases hc with rfl | rfl | rfl | rfl | rfl
        · exact Nat.le_refl _
        · exact Nat.le_add_right (n + 2) 2
        · exact Nat.le_add_right (n + 3) 1
        · exact Nat.le_add_right _ 4
        · exact Nat.le_add_right (n + 1) 3
      rw [upd_ne (neT hle)]
      exact (hf c hc).1
  done := by
    intro X hP hw hK hc i pins s σ H E I hf st hg
    subst hP hw hK
    obtain ⟨xs, ys, hqa, hqb, hl⟩ := hg
    obtain ⟨its, rv, p, hz⟩ := I.tuple hqa
    obtain ⟨jts, rw', p', hz'⟩ := I.tuple hqb
    obtain ⟨z1, z2, ⟨x0, y0, z3⟩, z4, z5⟩ := st
    have D : ZipApart (n + 4) (n + 2) (n + 3) n (n + 1) a b := PyProof.Rows.zipApart_new ha hb
    have l1 := rv.length
    have l2 := rw'.length
    refine zipT_end (I.ok.hd hc) D z1 z2 z4 (istup p) ?_ fun h' hk => ⟨rfl, ?_⟩
    · simp; omega
    · have fp : ∀ c ∈ [n + 4, n + 3, n, n + 1], FpOk X pins H c := fun c hc => hf c (by
        simp only [List.mem_cons, List.not_mem_nil, or_false] at hc ⊢
        rcases hc with e | e | e | e
        · exact .inl e
        · exact .inr (.inr (.inl e))
        · exact .inr (.inr (.inr (.inl e)))
        · exact .inr (.inr (.inr (.inr e))))
      have kk : ∀ c o, c ∉ [n + 4, n + 3, n, n + 1] → s.heap.get? c = some o → h'.get? c = some o := fun c o hc e => by
        simp only [List.mem_cons, List.not_mem_nil, or_false, not_or] at hc
        exact hk c o hc.1 hc.2.1 hc.2.2.1 hc.2.2.2 e
      have nit : ∀ c u, H c = some u → c ∉ [n + 4, n + 3, n, n + 1] := fun c u e z => by rw [(fp c z).1] at e; cases e
      refine I.step (g' := s.gens) (d' := s.drawn) (t' := s.toks) (ch := [n + 4, n + 3, n, n + 1]) (fun c hc => ⟨(fp c hc).2.2.2.1, (fp c hc).2.1, (fp c hc).2.2.2.2.1, (fp c hc).2.2.2.2.2⟩) (fun c o _ _ hc e _ => kk c o hc e) (fun c o _ _ hc e _ => ⟨o.slots, kk c o hc e⟩) (fun _ _ _ _ n => n)
        (fun c o hc e => ⟨o, kk c o hc e⟩) (fun _ _ e => e) (fun _ _ _ e => e) (fun _ ps e => ⟨#[], by rw [e]; simp⟩) (fun m hm => ?_) (fun c u e => ?_) I.bare
      · obtain ⟨ob, es, ep, ho, r⟩ := hm
        exact ⟨ob, es, ep, kk _ ob (fun z => (fp _ z).2.1 rfl) ho, r⟩
      · refine (I.hok c u e).stay (fun d v hd q => kk d v ?_ q) (fun _ e' => e') fun _ _ e' => e'
        rcases hd with z | z
        · rw [z]; exact nit c u e
        · exact nit d _ z
  self := fun _ _ _ _ _ st h => wpAny_pyIter_zip st.1 h
section
variable {prog : Program} {w : World} {A : Around} {E : Value → Shared → Prop} {s : Shared}
abbrev zT1 (h : Heap) (u : Addr) : Heap := h.push { cls := .type "tuple_iterator", data := .fields #[.ref u, .int 0 0] }
abbrev zT2 (h : Heap) (u v : Addr) : Heap := (zT1 h u).push { cls := .type "tuple_iterator", data := .fields #[.ref v, .int 0 0] }
abbrev zT3 (h : Heap) (u v : Addr) : Heap := (zT2 h u v).push { cls := .type "tuple", data := .seq #[.ref h.objs.size, .ref (zT1 h u).objs.size] }
abbrev zT4 (h : Heap) (u v : Addr) : Heap := (zT3 h u v).push { cls := .type "tuple", data := .seq #[.none, .none] }
abbrev zT5 (h : Heap) (u v : Addr) : Heap := (zT4 h u v).push { cls := .type "zip", data := .fields #[.none, .bool false, .bool false, .ref (zT2 h u v).objs.size, .ref (zT3 h u v).objs.size] }
theorem zipT_new (u v : Addr) (xs ys : Array Value) : Meets (Builtin.«zip.__new__» ⟨[.type "zip", .ref u, .ref v], []⟩) (fun _ R s => s.heap.IsTuple u xs ∧ s.heap.IsTuple v ys ∧ R (.ok (.ret (.ref (zT4 s.heap u v).objs.size))) { s with heap := zT5 s.heap u v }) :=
 .of_wp fun prog w A R s h => by
  obtain ⟨hp, g, d, tk, os⟩ := s; obtain ⟨t1, t2, q⟩ := h
  have sz := sub_zip
  have L1 : Heap.IsTuple (Shared.heap ⟨hp, g, d, tk, os⟩) u xs := t1
  have L2 : Heap.IsTuple (Shared.heap ⟨hp.push { cls := .type "tuple_iterator", data := .fields #[.ref u, .int 0 0] }, g, d, tk, os⟩) v ys := Heap.IsTuple.push t2 _
  wp_walk using wpAny_pyIter_tuple L1, wpAny_pyIter_tuple L2
  exact ⟨_, rfl, q⟩
theorem zipT_call {u v : Addr} {xs ys : Array Value} {Q : Value → Shared → Prop} (t1 : s.heap.IsTuple u xs) (t2 : s.heap.IsTuple v ys)
  (q : ∀ g, IsZip g (s.heap.objs.size + 4) (s.heap.objs.size + 2) (s.heap.objs.size + 3) .none → IsPair g (s.heap.objs.size + 2) (.ref s.heap.objs.size) (.ref (s.heap.objs.size + 1)) → IsPair g (s.heap.objs.size + 3) .none .none →
   g.IsTupleIter s.heap.objs.size u 0 → g.IsTupleIter (s.heap.objs.size + 1) v 0 → (∀ c o, s.heap.get? c = some o → g.get? c = some o) → Q (.ref (s.heap.objs.size + 4)) { s with heap := g }) :
  wpAny (model prog w) A (call (.type "zip") [.ref u, .ref v]) Q E s := by
 refine callType_new F.called_zip (by decide) (F.typeCall_zip_2 _ _) (F.newCall_zip_2 _ _) (fun obj => F.args_object_init_3 obj _ _) F.entry_zip_new (zipT_new u v xs ys) ⟨t1, t2, ?_⟩
 have y1 : (zT1 s.heap u).objs.size = s.heap.objs.size + 1 := Heap.size_push ..
 have y2 : (zT2 s.heap u v).objs.size = s.heap.objs.size + 2 := by rw [Heap.size_push, y1]
 have y3 : (zT3 s.heap u v).objs.size = s.heap.objs.size + 3 := by rw [Heap.size_push, y2]
 have y4 : (zT4 s.heap u v).objs.size = s.heap.objs.size + 4 := by rw [Heap.size_push, y3]
 have k5 : (zT5 s.heap u v).get? (zT4 s.heap u v).objs.size = some _ := Heap.get?_push_size _ rfl
 have k4 : (zT5 s.heap u v).get? (zT3 s.heap u v).objs.size = some _ := Heap.get?_push_of_some _ (Heap.get?_push_size _ rfl)
 have k3 : (zT5 s.heap u v).get? (zT2 s.heap u v).objs.size = some _ := Heap.get?_push_of_some _ (Heap.get?_push_of_some _ (Heap.get?_push_size _ rfl))
 have k2 : (zT5 s.heap u v).get? (zT1 s.heap u).objs.size = some _ := Heap.get?_push_of_some _ (Heap.get?_push_of_some _ (Heap.get?_push_of_some _ (Heap.get?_push_size _ rfl)))
 have k1 : (zT5 s.heap u v).get? s.heap.objs.size = some _ := Heap.get?_push_of_some _ (Heap.get?_push_of_some _ (Heap.get?_push_of_some _ (Heap.get?_push_of_some _ (Heap.get?_push_size _ rfl))))
 show _ ∧ _
 rw [y2, y3, y4] at k5
 rw [y1, y2] at k3
 rw [y3] at k4
 rw [y1] at k2
 refine ⟨by rw [y4]; exact ⟨_, k5, rfl⟩, ?_⟩
 rw [y4]
 exact q _ k5 k3 k4 ⟨_, k1, rfl, rfl⟩ ⟨_, k2, rfl, rfl⟩ fun c o z => Heap.get?_push_of_some _ (Heap.get?_push_of_some _ (Heap.get?_push_of_some _ (Heap.get?_push_of_some _ (Heap.get?_push_of_some _ z))))
end
section
variable {X : Cx} {elts : List Expr} {kt : Nat} {pt : Pos}
def iZipS (K : PySem.W.Frag) (ta : TA) : TI := fun σ H R => ta σ H fun vs H1 => ∃ a b, vs = [.ref a, .ref b] ∧ (((∃ xs, SqL K H1 a xs) ∧ (∃ ys, SqL K H1 b ys) ∧ R (Itz K a b) H1) ∨ ((∃ xs, SqT K H1 a xs) ∧ (∃ ys, SqT K H1 b ys) ∧ R (Itzt K a b) H1))
theorem pi_zipS {a b : Expr} {ta : TA} {p pos : Pos} (hg : Gl X "zip") (hm : X.mg "zip" = none) (ha : PA X [a, b] ta) (hs : starEach [a, b] X.env = [(false, eval a X.env), (false, eval b X.env)] := by rfl) (hs2 : starEach [b] X.env = [(false, eval b X.env)] := by rfl) :
  PI X (.Tuple elts kt pt) (.Call (.Name "zip" p) [a, b] [] pos) (iZipS X.K ta) := by
 intro pins s σ H R I h
 refine Call_ (ld_blt I hg hm (by rfl : bootBuiltins "zip" = some (.type "zip")) (PyProof.Rows.callWith_type1 (thn (ha pos pins s σ H _ I h) fun us s1 ⟨vs, H1, I1, r1, q1⟩ => ?_) (by rw [hs, hs2]) (by rw [hs2]; rfl)))
 obtain ⟨a, b, e, q⟩ := q1
 subst e
 obtain ⟨u, v, rfl, ru, rv⟩ := r1.two
 cases (show u = Value.ref a from ru)
 cases (show v = Value.ref b from rv)
 rcases q with ⟨⟨xs, ha⟩, ⟨ys, hb⟩, q⟩ | ⟨⟨xs, ha⟩, ⟨ys, hb⟩, q⟩
 ·obtain ⟨its, _, p1, _⟩ := I1.list ha
  obtain ⟨jts, _, p2, _⟩ := I1.list hb
  have l1 : a < s1.heap.objs.size := let ⟨o, ho, _⟩ := p1.isList; Heap.lt_size ho
  have l2 : b < s1.heap.objs.size := let ⟨o, ho, _⟩ := p2.isList; Heap.lt_size ho
  refine call_zip_2 p1.isList p2.isList fun h' hz hTI hTO h1 h2 hsz hk => wpAny_pyIter_zip (s := { s1 with heap := h' }) hz ?_
  refine ⟨s1.heap.objs.size + 4, _, _, _, H1, rfl, I1.kept (t' := s1.toks) hk, turn_zip l1 l2, ⟨hz, hTI, ⟨_, _, hTO⟩, h1, h2⟩, fun c hc => ?_, q⟩
  have hle : s1.heap.objs.size ≤ c := by
   simp only [List.mem_cons, List.not_mem_nil, or_false] at hc
   rcases hc with rfl | rfl | rfl | rfl | rfl
   ·exact Nat.le_add_right _ _
   ·exact Nat.le_add_right _ _
   ·exact Nat.le_add_right _ _
   ·exact Nat.le_refl _
   ·exact Nat.le_add_right _ _
  exact I1.fpOk hle (I1.hok.fresh hle)
 ·obtain ⟨its, _, p1, _⟩ := I1.tuple ha
  obtain ⟨jts, _, p2, _⟩ := I1.tuple hb
  have l1 : a < s1.heap.objs.size := let ⟨o, ho, _⟩ := istup p1; Heap.lt_size ho
  have l2 : b < s1.heap.objs.size := let ⟨o, ho, _⟩ := istup p2; Heap.lt_size ho
  refine zipT_call (istup p1) (istup p2) fun h' hz hTI hTO h1 h2 hk => wpAny_pyIter_zip (s := { s1 with heap := h' }) hz ?_
  refine ⟨s1.heap.objs.size + 4, _, _, _, H1, rfl, I1.kept (t' := s1.toks) hk, turn_zipT l1 l2, ⟨hz, hTI, ⟨_, _, hTO⟩, h1, h2⟩, fun c hc => ?_, q⟩
  have hle : s1.heap.objs.size ≤ c := by
   simp only [List.mem_cons, List.not_mem_nil, or_false] at hc
   rcases hc with rfl | rfl | rfl | rfl | rfl
   ·exact Nat.le_add_right _ _
   ·exact Nat.le_add_right _ _
   ·exact Nat.le_add_right _ _
   ·exact Nat.le_refl _
   ·exact Nat.le_add_right _ _
  exact I1.fpOk hle (I1.hok.fresh hle)
end
theorem rd_izipS {K : PySem.W.Frag} {σ : St} {H : Hp} {ta : TA} {R : It → Hp → Prop} (h : ta σ H fun vs H1 => ∃ a b, vs = [.ref a, .ref b] ∧ (((∃ xs, SqL K H1 a xs) ∧ (∃ ys, SqL K H1 b ys) ∧ R (Itz K a b) H1) ∨ ((∃ xs, SqT K H1 a xs) ∧ (∃ ys, SqT K H1 b ys) ∧ R (Itzt K a b) H1))) : iZipS K ta σ H R := h
end L2
set_option Elab.async false
set_option maxRecDepth 100000
namespace L2
open PySem PySem.Spec PyProof.Rows
end L2
set_option Elab.async false
set_option linter.all false
set_option maxRecDepth 100000
namespace L2
open PySem PySem.Spec PyProof.Rows
section
variable {K : PySem.W.Frag} {σ : St} {H : Hp} {Q : VK} {te : TE} {cap : List (Option Nat)} {l : Addr}
end
end L2
set_option Elab.async false
set_option linter.all false
set_option maxRecDepth 100000
namespace L2
open PySem PySem.Spec PyProof.Rows
section
variable {X : Cx} {elts : List Expr} {kt : Nat} {pt : Pos}
end
end L2
set_option Elab.async false
set_option maxHeartbeats 4000000
set_option linter.all false
open PySem PySem.Spec PyProof.Rows
namespace L2
structure ClsFn (K : PySem.W.Frag) (C : Addr) (m : Str) (f : Addr) : Prop where
 ga : PySem.W.specialIn K (.ref C) "__getattribute__" = some (some (.builtin "type.__getattribute__"))
 rd : PySem.W.readsIn K C (.type "type") = true
 at_ : PySem.W.findCls K (.ref C) (.type "type") m = some (.val (.ref f))
 kp : PySem.W.keepIn K (.ref f) = true
section
variable {X : Cx} {CX : CXT} {k : Nat} {f C : Addr} {fd : FuncData} {ps : List Str} {sp : Sp} {dvs : List V} {ds : List Value} {E : XK} {x m : Str} {p pos apos : Pos} {e o : Expr} {es : List Expr} {ta : TE} {t : TA}
theorem pe_callC {pl : Sem Bool} (hg : Gl X x) (hm : X.mg x = some (.ref C)) (c : ClsFn X.K C m f) (F : FnOk X.prog X.w X.K X.mg X.base CX k f fd ps sp) (hr : Room k X.A) (hb : Binds X.K fd ps ds) (hd : Vals dvs ds) (hx : Passes CX X E) (ha : PA X (e :: es) t)
  (hdb : (x == ("__debug__" : Str)) = false := by decide)
  (hst : starEach (e :: es) X.env = (false, eval e X.env) :: starEach es X.env := by rfl) (hpl : (backTo pos (starEach es X.env)).any (·.1) = false := by rfl)
  (ht : eval (.Call (.Attribute (.Name x p) m apos) (e :: es) [] pos) X.env = (do
   let ov ← eval (.Name x p) X.env
   standAt apos.atName
   let (f, first) ← holding [ov] (getMethod ov m pl)
   callWith pos f first (backTo pos (starEach (e :: es) X.env)) (backToKw pos (keywordEach [] X.env))) := by rfl) :
  PE X (.Call (.Attribute (.Name x p) m apos) (e :: es) [] pos) (tCall sp dvs E t) := by
 intro pins s σ H Q I h
 refine PySem.W.methodCall_KW (pl := pl) (thn ((pe_glob (v := .ref C) hg hm rfl hdb) pins s σ H (fun x H1 => x = .ref C ∧ H1 = H) I ⟨rfl, rfl⟩) fun u s1 ⟨x, H1, I1, rx, ex, eh⟩ => ?_) ht
 subst ex; subst eh
 obtain rfl : u = Value.ref C := rx
 refine PySem.W.method_cls I1.kIn c.ga (PySem.W.cls_value I1.kIn c.rd c.at_ rfl ?_)
 have I2 := I1.tok (s1.toks + 1)
 refine PySem.W.callWith_K (first := []) (h₀ := X.base) I.ok.mod.kin c.kp (thn (ha pos pins _ σ H1 _ I2 h) fun us s2 ⟨vs, H2, I3, r, q2⟩ => ⟨I3.kIn, ?_⟩) hst hpl
 exact run_fn (us := us) (vs := vs) F hr hb hd hx I3 r q2
end
end L2
set_option Elab.async false
set_option linter.all false
namespace L2
open PySem PySem.Spec PyProof.Rows
theorem cutC {X : Cx} {s : Stmt} {ss : List Stmt} {r : TS} {C : TS → Prop} (d : PS X s r) (k : ∀ r', r' = r → ∃ ts, PSs X ss ts ∧ C (tSeq r' ts)) : ∃ ts, PSs X (s :: ss) ts ∧ C ts :=
 let ⟨_, h1, h2⟩ := k r rfl
 ⟨_, pss_cons d h1, h2⟩
theorem cutE {X : Cx} {s : Stmt} {r : TS} {C : TS → Prop} (d : PS X s r) (k : ∀ r', r' = r → C r') : ∃ ts, PSs X [s] ts ∧ C ts := ⟨_, pss_one d, k r rfl⟩
theorem rd_cut {r r' : TS} {D : Ends} {σ : St} {H : Hp} (e : r' = r) (h : r D σ H) : r' D σ H := e ▸ h
theorem rd_seqA {t u : TS} {D : Ends} {σ : St} {H : Hp} (k : ∀ u', u' = u → t { D with nx := u' D } σ H) : tSeq t u D σ H := k u rfl
theorem len1 {us : List Value} (h : us.length = 1) : ∃ a0, us = [a0] := match us, h with | [a0], _ => ⟨a0, rfl⟩
theorem len2 {us : List Value} (h : us.length = 2) : ∃ a0 a1, us = [a0, a1] := match us, h with | [a0, a1], _ => ⟨a0, a1, rfl⟩
theorem len3 {us : List Value} (h : us.length = 3) : ∃ a0 a1 a2, us = [a0, a1, a2] := match us, h with | [a0, a1, a2], _ => ⟨a0, a1, a2, rfl⟩
theorem len4 {us : List Value} (h : us.length = 4) : ∃ a0 a1 a2 a3, us = [a0, a1, a2, a3] := match us, h with | [a0, a1, a2, a3], _ => ⟨a0, a1, a2, a3, rfl⟩
theorem len5 {us : List Value} (h : us.length = 5) : ∃ a0 a1 a2 a3 a4, us = [a0, a1, a2, a3, a4] := match us, h with | [a0, a1, a2, a3, a4], _ => ⟨a0, a1, a2, a3, a4, rfl⟩
end L2
set_option Elab.async false
set_option linter.all false
set_option maxRecDepth 100000
set_option maxHeartbeats 4000000
namespace L2
open PySem PySem.Spec PyProof.Rows
section
variable {κ : Type} [DecidableEq κ]
def valV (kvs : List (κ × V)) (k : κ) : Option V := (kvs.find? fun kv => decide (kv.1 = k)).map (·.2)
def putK (kvs : List (κ × V)) (k : κ) (v : V) : List (κ × V) :=
 if (kvs.any fun kv => decide (kv.1 = k)) = true then kvs.map (fun kv => if kv.1 = k then (kv.1, v) else kv) else kvs ++ [(k, v)]
theorem valV_pos {p : κ × V} {r : List (κ × V)} {k : κ} (e : p.1 = k) : valV (p :: r) k = some p.2 := by simp [valV, List.find?_cons, e]
theorem valV_neg {p : κ × V} {r : List (κ × V)} {k : κ} (e : ¬ p.1 = k) : valV (p :: r) k = valV r k := by simp [valV, List.find?_cons, e]
theorem valV_any (k : κ) : ∀ kvs : List (κ × V), (kvs.any fun kv => decide (kv.1 = k)) = (valV kvs k).isSome
 | [] => rfl
 | p :: r => by
  rw [List.any_cons]
  by_cases e : p.1 = k
  ·simp only [valV_pos e, decide_eq_true e, Bool.true_or, Option.isSome_some]
  ·rw [valV_neg e, decide_eq_false e, Bool.false_or]; exact valV_any k r
theorem length_putK (kvs : List (κ × V)) (k : κ) (v : V) : (putK kvs k v).length ≤ kvs.length + 1 := by
 unfold putK
 split
 ·rw [List.length_map]; omega
 ·rw [List.length_append, List.length_cons, List.length_nil]; omega
theorem putK_new {kvs : List (κ × V)} {k : κ} (v : V) (h : valV kvs k = none) : putK kvs k v = kvs ++ [(k, v)] := by
 unfold putK
 rw [valV_any, h]
 exact if_neg (by decide)
theorem RelO.isSome_eq {o : Option V} {u : Option Value} (r : RelO o u) : o.isSome = u.isSome := by
 cases o with
 | none => cases u with
  | none => rfl
  | some _ => exact (show False from r).elim
 | some _ => cases u with
  | none => exact (show False from r).elim
  | some _ => rfl
theorem KV.val {kvs : List (κ × V)} {vs : List (κ × Value)} (r : KV kvs vs) (k : κ) : RelO (valV kvs k) (valueAt vs k) := by
 unfold KV at r
 induction r with
 | nil => exact True.intro
 | @cons p q ps qs h t ih =>
  obtain ⟨h1, h2⟩ := h
  by_cases e : p.1 = k
  ·have e' : q.1 = k := h1.symm.trans e
   have b : valueAt (q :: qs) k = some q.2 := by simp [valueAt, List.find?_cons, e']
   rw [valV_pos e, b]; exact h2
  ·have e' : ¬ q.1 = k := fun z => e (h1.trans z)
   have b : valueAt (q :: qs) k = valueAt qs k := by simp [valueAt, List.find?_cons, e']
   rw [valV_neg e, b]; exact ih
theorem KV.any {kvs : List (κ × V)} {vs : List (κ × Value)} (r : KV kvs vs) (k : κ) : (kvs.any fun kv => decide (kv.1 = k)) = vs.any fun kv => decide (kv.1 = k) := by
 unfold KV at r
 induction r with
 | nil => rfl
 | cons h t ih => rw [List.any_cons, List.any_cons, ih, h.1]
theorem KV.repl {kvs : List (κ × V)} {vs : List (κ × Value)} (r : KV kvs vs) (k : κ) {y : V} {u : Value} (ry : RelV y u) :
  KV (kvs.map fun kv => if kv.1 = k then (kv.1, y) else kv) (vs.map fun kv => if kv.1 = k then (kv.1, u) else kv) := by
 unfold KV at r ⊢
 induction r with
 | nil => exact .nil
 | @cons p q ps qs h t ih =>
  rw [List.map_cons, List.map_cons]
  refine .cons ?_ ih
  obtain ⟨h1, h2⟩ := h
  by_cases e : p.1 = k
  ·rw [if_pos e, if_pos (h1.symm.trans e)]; exact ⟨h1, ry⟩
  ·rw [if_neg e, if_neg (fun z => e (h1.trans z))]; exact ⟨h1, h2⟩
theorem KV.put {kvs : List (κ × V)} {vs : List (κ × Value)} (r : KV kvs vs) (k : κ) {y : V} {u : Value} (ry : RelV y u) : KV (putK kvs k y) (stored vs k u) := by
 unfold putK stored
 rw [r.any k]
 by_cases e : (vs.any fun kv => decide (kv.1 = k)) = true
 ·rw [if_pos e, if_pos e]; exact r.repl k ry
 ·rw [if_neg e, if_neg e]; exact Paired.snoc r ⟨rfl, ry⟩
theorem KV.length {kvs : List (κ × V)} {vs : List (κ × Value)} (r : KV kvs vs) : kvs.length = vs.length := Paired.length r
end
theorem kV_is {P : Program} {w : World} {k : Key} {u : Value} (r : RelV (kV k) u) : (mixKind P w).is k u = true := by
 cases k with
 | inl i => obtain ⟨t, e⟩ := (show ∃ t, u = Value.int i t from r); subst e; exact mixKind_int P w i t
 | inr x => obtain ⟨t, e⟩ := (show ∃ t, u = Value.str x t from r); subst e; exact mixKind_str P w x t
theorem items_are {P : Program} {w : World} : ∀ {ks : List Key} {us : List Value}, Vals (ks.map kV) us → ItemsAre (mixKind P w) ks us
 | [], _, r => by rw [List.map_nil] at r; cases r; exact .nil
 | k :: ks, _, r => by
  rw [List.map_cons] at r
  cases r with
  | cons h t => exact .cons (kV_is h) (items_are t)
abbrev KT (H : Hp) : List (List Key × V) → List (List Key × Addr × Value) → Prop := Paired fun p q => p.1 = q.1 ∧ H q.2.1 = some (.tup (p.1.map kV)) ∧ RelV p.2 q.2.2
theorem KT.val {H : Hp} {kvs : List (List Key × V)} {xs : List (List Key × Addr × Value)} (r : KT H kvs xs) (k : List Key) : RelO (valV kvs k) ((atKey xs k).map (·.2)) := by
 induction r with
 | nil => exact True.intro
 | @cons p q ps qs h t ih =>
  obtain ⟨h1, _, h2⟩ := h
  by_cases e : p.1 = k
  ·have e' : q.1 = k := h1.symm.trans e
   have b : atKey (q :: qs) k = some q.2 := by simp [atKey, List.find?_cons, e']
   rw [valV_pos e, b]; exact h2
  ·have e' : ¬ q.1 = k := fun z => e (h1.trans z)
   have b : atKey (q :: qs) k = atKey qs k := by simp [atKey, List.find?_cons, e']
   rw [valV_neg e, b]; exact ih
theorem KT.repl {H : Hp} {kvs : List (List Key × V)} {xs : List (List Key × Addr × Value)} (r : KT H kvs xs) (k : List Key) {y : V} {u : Value} (ry : RelV y u) :
  KT H (kvs.map fun kv => if kv.1 = k then (kv.1, y) else kv) (xs.map (putAt k u)) := by
 induction r with
 | nil => exact .nil
 | @cons p q ps qs h t ih =>
  rw [List.map_cons, List.map_cons]
  refine .cons ?_ ih
  obtain ⟨h1, h2, h3⟩ := h
  unfold putAt
  by_cases e : p.1 = k
  ·rw [if_pos e, if_pos (h1.symm.trans e)]; exact ⟨h1, h2, ry⟩
  ·rw [if_neg e, if_neg (fun z => e (h1.trans z))]; exact ⟨h1, h2, h3⟩
theorem KT.put {H : Hp} {kvs : List (List Key × V)} {xs : List (List Key × Addr × Value)} (r : KT H kvs xs) (k : List Key) {b : Addr} {y : V} {u : Value} (hb : H b = some (.tup (k.map kV))) (ry : RelV y u) :
  KT H (putK kvs k y) (storedH xs k b u) := by
 have e : (kvs.any fun kv => decide (kv.1 = k)) = (atKey xs k).isSome := by
  rw [valV_any, (r.val k).isSome_eq, Option.isSome_map]
 unfold putK storedH
 rw [e]
 by_cases q : (atKey xs k).isSome = true
 ·rw [if_pos q, if_pos q]; exact r.repl k ry
 ·rw [if_neg q, if_neg q]; exact Paired.snoc r ⟨rfl, hb, ry⟩
theorem KT.keeps {H H' : Hp} {kvs : List (List Key × V)} {xs : List (List Key × Addr × Value)} (r : KT H kvs xs) (ht : ∀ b ys, H b = some (.tup ys) → H' b = some (.tup ys)) : KT H' kvs xs :=
 Paired.mapP r fun _ _ z => ⟨z.1, ht _ _ z.2.1, z.2.2⟩
section
variable {P : Program} {w : World} {H : Hp} {h : Heap} {a : Addr}
theorem rd_of {u : HO} (ok : HOk P w H h) (e : Rd H a u) : ObjOk P w H h a u := e.ok ok
theorem dk_rd {kvs : List (Key × V)} (ok : HOk P w H h) (e : Rd H a (.dK kvs)) : kvs.length ≤ sizeLine ∧ (a == sysModules) = false ∧ ∃ vs, KV kvs vs ∧ h.DictOf (mixKind P w) a vs :=
 show ObjOk P w H h a (.dK kvs) from rd_of ok e
theorem dk_of {kvs : List (Key × V)} (ok : HOk P w H h) (e : H a = some (.dK kvs)) : kvs.length ≤ sizeLine ∧ (a == sysModules) = false ∧ ∃ vs, KV kvs vs ∧ h.DictOf (mixKind P w) a vs := dk_rd ok (.inl e)
theorem key_of {ks : List Key} (ok : HOk P w H h) (e : H a = some (.tup (ks.map kV))) : (tupleKind (mixKind P w)).is h ks a := by
 obtain ⟨_, its, r, o, h1, h2, n, h3⟩ := (show ObjOk P w H h a (.tup (ks.map kV)) from ok a _ e)
 exact ⟨o, its.toArray, n, h1, h2, h3, by simpa using items_are r⟩
theorem dt_rd {kvs : List (List Key × V)} (ok : HOk P w H h) (e : Rd H a (.dT kvs)) : kvs.length ≤ sizeLine ∧ (a == sysModules) = false ∧
  ∃ xs, KT H kvs xs ∧ h.DictOfH (tupleKind (mixKind P w)) a xs := by
 obtain ⟨z, y, xs, r, o, es, ep, h1, h2, h3, h4, h5⟩ := (show ObjOk P w H h a (.dT kvs) from rd_of ok e)
 refine ⟨z, y, xs, r, o, es, ep, h1, h2, h3, h4, fun x hx => ?_, h5⟩
 have all : ∀ {l : List (List Key × V)} {m : List (List Key × Addr × Value)}, KT H l m → ∀ x ∈ m, (tupleKind (mixKind P w)).is h x.1 x.2.1 := by
  intro l m q
  induction q with
  | nil => intro x hx; exact nomatch hx
  | @cons p q ps qs hq t ih =>
   intro x hx
   rcases List.mem_cons.mp hx with e | hx
   ·subst e
    exact key_of ok (by rw [← hq.1]; exact hq.2.1)
   ·exact ih x hx
 exact all r x hx
theorem dt_of {kvs : List (List Key × V)} (ok : HOk P w H h) (e : H a = some (.dT kvs)) : kvs.length ≤ sizeLine ∧ (a == sysModules) = false ∧
  ∃ xs, KT H kvs xs ∧ h.DictOfH (tupleKind (mixKind P w)) a xs := dt_rd ok (.inl e)
end
def DGet (H : Hp) (a : Addr) (y : V) (r : Option V) : Prop :=
 (∃ kvs k, Rd H a (.dK kvs) ∧ y = kV k ∧ r = valV kvs k) ∨ ∃ kvs k b, Rd H a (.dT kvs) ∧ y = .ref b ∧ H b = some (.tup (k.map kV)) ∧ r = valV kvs k
def DPut (H : Hp) (a : Addr) (y v : V) (H' : Hp) : Prop :=
 (∃ kvs k, H a = some (.dK kvs) ∧ y = kV k ∧ kvs.length < sizeLine ∧ H' = upd H a (.dK (putK kvs k v))) ∨
 ∃ kvs k b, H a = some (.dT kvs) ∧ y = .ref b ∧ H b = some (.tup (k.map kV)) ∧ kvs.length < sizeLine ∧ H' = upd H a (.dT (putK kvs k v))
theorem DGet.t {H : Hp} {a b : Addr} {kvs : List (List Key × V)} {k : List Key} (e : H a = some (.dT kvs)) (eb : H b = some (.tup (k.map kV))) : DGet H a (.ref b) (valV kvs k) := .inr ⟨kvs, k, b, .inl e, rfl, eb, rfl⟩
theorem DPut.t {H : Hp} {a b : Addr} {kvs : List (List Key × V)} {k : List Key} {v : V} (e : H a = some (.dT kvs)) (eb : H b = some (.tup (k.map kV))) (hl : kvs.length < sizeLine) :
  DPut H a (.ref b) v (upd H a (.dT (putK kvs k v))) := .inr ⟨kvs, k, b, e, rfl, eb, hl, rfl⟩
section
variable {X : Cx} {pins : List (Addr × Obj)} {σ : St} {H : Hp} {s : Shared} {a : Addr} {y v : V} {u r : Value} {o : Option V} {A : Around} {E : Value → Shared → Prop}
theorem Inv.big (I : Inv X pins σ H s) : sysModules < s.heap.objs.size := by
 have h : mainGlobals < s.heap.objs.size := (I.mod.glob.keeps I.bk).lt
 exact Nat.lt_trans (by decide) h
theorem d_notIn {Q : Value → Shared → Prop} (hu : A.units + 1 < cLine) (I : Inv X pins σ H s) (g : DGet H a y o) (ry : RelV y u) (h : ∀ s', Inv X pins σ H s' → Q (.bool (!o.isSome)) s') :
  wpAny (model X.prog X.w) A (compareOp .NotIn u (.ref a)) Q E s := by
 rcases g with ⟨kvs, k, e, ey, l⟩ | ⟨kvs, k, b, e, ey, eb, l⟩
 ·subst ey
  obtain ⟨z, hd, vs, rel, dd⟩ := dk_rd I.hok e
  refine wpAny_notIn_of (kV_is ry) hd dd.mapOf ?_
  rw [← (rel.val k).isSome_eq, ← l]
  exact h _ (I.tok _)
 ·subst ey
  cases (show u = Value.ref b from ry)
  obtain ⟨z, hd, xs, rel, dd⟩ := dt_rd I.hok e
  refine wpAny_notIn_heap (tupleKind_room_in1 hu) (key_of I.hok eb) hd dd ?_
  have q := (rel.val k).isSome_eq
  rw [Option.isSome_map] at q
  rw [← q, ← l]
  exact h _ (I.tok _)
theorem d_write {h' : Heap} {t' : Nat} {ob : HO} (I : Inv X pins σ H s) (mu : Mut (H a)) (hs : Heap.SameBut a s.heap h') (he : ∃ q, h'.get? a = some q) (new : ObjOk X.prog X.w (upd H a ob) h' a ob) :
  Inv X pins σ (upd H a ob) { s with heap := h', toks := t' } :=
 I.write (x := a) (e := a) mu (.inl rfl) (fun b q hb z => (hs.2 b hb).trans z) he new
theorem dk_new {P : Program} {w : World} {H' : Hp} {h' : Heap} {kvs : List (Key × V)} {vs : List (Key × Value)} (z : kvs.length ≤ sizeLine) (hd : (a == sysModules) = false) (rel : KV kvs vs) (dd : h'.DictOf (mixKind P w) a vs) :
  ObjOk P w H' h' a (.dK kvs) := ⟨z, hd, vs, rel, dd⟩
theorem d_setItem {H' : Hp} {Q : Unit → Shared → Prop} (hu : A.units + 1 < cLine) (I : Inv X pins σ H s) (g : DPut H a y v H') (ry : RelV y u) (rv : RelV v r) (h : ∀ s', Inv X pins σ H' s' → Q () s') :
  wpAny (model X.prog X.w) A (setItem (.ref a) u r) Q E s := by
 rcases g with ⟨kvs, k, e, ey, l, eH⟩ | ⟨kvs, k, b, e, ey, eb, l, eH⟩
 ·subst ey eH
  obtain ⟨z, hd, vs, rel, dd⟩ := dk_of I.hok e
  have hz : vs.length ≤ sizeLine := by rw [← rel.length]; exact z
  have hl : (putK kvs k v).length ≤ sizeLine := by have := length_putK kvs k v; omega
  refine wpAny_setItem_pairs (hsz := hz) (kV_is ry) dd fun h' dd' hs => h _ ?_
  have he : ∃ q, h'.get? a = some q := let ⟨q, _, _, hq, _⟩ := dd'; ⟨q, hq⟩
  exact d_write I (by rw [e]; exact True.intro) hs he (dk_new hl hd (rel.put k rv) dd')
 ·subst ey eH
  cases (show u = Value.ref b from ry)
  obtain ⟨z, hd, xs, rel, dd⟩ := dt_of I.hok e
  have hz : xs.length ≤ sizeLine := by rw [← Paired.length rel]; exact z
  have hl : (putK kvs k v).length ≤ sizeLine := by have := length_putK kvs k v; omega
  refine wpAny_setItem_heap (hsz := hz) (tupleKind_room_in1 hu) (key_of I.hok eb) dd fun h' dd' hs => h _ ?_
  obtain ⟨q, es, ep, hq, h2, h3, h4, _, h5⟩ := dd'
  refine d_write I (by rw [e]; exact True.intro) hs ⟨q, hq⟩ ⟨hl, hd, _, (rel.put k eb rv).keeps fun c ys ec => ?_, q, es, ep, hq, h2, h3, h4, h5⟩
  rw [upd_ne (ne_of ec e (fun z => nomatch z))]
  exact ec
end
section
variable {X : Cx} {pins : List (Addr × Obj)} {σ : St} {H : Hp} {s : Shared} {a : Addr} {kvs : List (Key × V)} {k : Key} {u : Value} {A : Around} {E : Value → Shared → Prop}
end
def tDNotIn (ty td : TE) : TE := fun σ H Q => ty σ H fun y H1 => td σ H1 fun x H2 => ∃ a o, x = .ref a ∧ DGet H2 a y o ∧ Q (.bl (!o.isSome)) H2
def sDPut (td ty tv : TE) : TS := fun D σ H => tv σ H fun v H1 => td σ H1 fun x H2 => ty σ H2 fun y H3 => ∃ a H4, x = .ref a ∧ DPut H3 a y v H4 ∧ D.nx σ H4
section
variable {X : Cx} {o i e value : Expr} {pos pos' tpos : Pos} {td ty tv : TE}
theorem pc_dnotin (hu : X.A.units + 1 < cLine) (hi : PE X i ty) (ho : PE X o td) : PC X .NotIn i o (tDNotIn ty td) := by
 intro pins s σ H Q I h
 refine thn (hi pins s σ H _ I h) fun iv s1 ⟨y, H1, I1, ry, q1⟩ => thn (ho pins s1 σ H1 _ I1 q1) fun u s2 ⟨x, H2, I2, rx, a, ov, ex, g, q2⟩ => ?_
 subst ex
 obtain rfl : u = Value.ref a := rx
 exact d_notIn hu I2 g ry fun s3 I3 => ⟨.bl (!ov.isSome), H2, I3, rfl, q2⟩
theorem ps_dput (hu : X.A.units + 1 < cLine) (ho : PE X o td) (hi : PE X i ty) (hv : PE X value tv) (hs : swapsWith value (some (.Subscript o i pos')) pos.line X.env = pure false) :
  PS X (.Assign [.Subscript o i pos'] value pos) (sDPut td ty tv) := by
 intro pins s σ H D I h
 refine wpAny_Assign_Subscript (thn (hv pins s σ H _ I h) fun r s1 ⟨v, H1, I1, rv, q1⟩ => thn (ho pins s1 σ H1 _ I1 q1) fun u s2 ⟨x, H2, I2, rx, q2⟩ => thn (hi pins s2 σ H2 _ I2 q2) fun iv s3 ⟨y, H3, I3, ry, a, H4, ex, g, q3⟩ => ?_) hs
 subst ex
 obtain rfl : u = Value.ref a := rx
 exact d_setItem hu I3 g ry rv fun s4 I4 => ⟨σ, H4, I4, q3⟩
end
theorem dt_empty {P : Program} {w : World} {H : Hp} (h : Heap) (hb : sysModules < h.objs.size) : ObjOk P w H (h.push { cls := .type "dict", data := .dict #[] }) h.objs.size (.dT []) :=
 ⟨Nat.zero_le _, beq_eq_false_iff_ne.mpr (Ne.symm (Nat.ne_of_lt hb)), [], .nil, _, #[], 0, Heap.get?_push_size _ rfl, ⟨rfl, rfl, rfl⟩, rfl, rfl, List.nodup_nil⟩
def tDNewT : TE := fun _ H Q => ∀ p, H p = none → Q (.ref p) (upd H p (.dT []))
section
variable {X : Cx} {pos : Pos}
theorem pe_dnewT : PE X (.Dict [] [] pos) tDNewT := fun pins s σ H Q I h =>
 wpAny_Dict_empty ⟨.ref s.heap.objs.size, _, I.laid (a := s.heap.objs.size) (o := .dT []) (t' := s.toks) (fun _ _ q => Heap.get?_push_of_some _ q) (Nat.le_refl _) (dt_empty s.heap I.big), rfl, h _ (I.hok.fresh (Nat.le_refl _))⟩
end
section
variable {X : Cx} {pins : List (Addr × Obj)} {σ : St} {H : Hp} {s : Shared} {a : Addr} {y d : V} {u r : Value} {o : Option V} {A : Around} {E : Value → Shared → Prop}
end
section
variable {X : Cx} {o e f : Expr} {apos cpos : Pos} {td ty tx : TE}
end
section
variable {X : Cx} {pins : List (Addr × Obj)} {σ : St} {H : Hp} {s : Shared} {a : Addr} {kvs : List (Key × V)} {A : Around} {E : Value → Shared → Prop}
end
section
variable {X : Cx} {pins : List (Addr × Obj)} {σ : St} {H : Hp} {s : Shared} {a : Addr} {y : V} {u : Value} {A : Around} {E : Value → Shared → Prop}
end
end L2
set_option Elab.async false
set_option linter.all false
set_option maxRecDepth 100000
set_option maxHeartbeats 4000000
namespace L2
open PySem PySem.Spec PyProof.Rows
def It2 (lo : Int) (n : Nat) : It := ⟨fun i _ => i < n, fun i H x H' => H' = H ∧ x = .int (lo + i * 2), fun i _ => n ≤ i⟩
theorem turn_range2 {P : Program} {w : World} {K : PySem.W.Frag} {tg : Expr} (it : Addr) (lo : Int) (n : Nat) : Turn P w K tg (It2 lo n) [it] it (fun i h => IsRangeIter h it (lo + (i : Nat) * 2) ((n : Int) - (i : Nat)) 2) where
 mem := by simp
 obj := fun i h st b hb => by
  have e : b = it := by simpa using hb
  subst e
  exact ⟨_, st, fun v z => by
   have z' : Data.fields _ = Data.cell v := z
   cases z'⟩
 keep := fun i h h' st k => k it (by simp) _ st
 item := by
  intro X hP hw hK hc i pins s σ H E I hf st hg
  subst hP hw hK
  obtain ⟨f0, f1, f2, f3, f4, f5⟩ := hf it (by simp)
  have W := Walks.range (prog := X.prog) (w := X.w) (I.ok.hd hc) it lo 2 n
  refine W.item i s _ _ hg st fun v h' tk hv st' kk => ?_
  obtain ⟨t, rfl⟩ := hv
  have I1 : Inv X pins σ H { s with heap := h', toks := tk } := I.turned (fun b o hb e => kk b o (by simpa using hb) e) f0 f1 f3 f4 f5
  exact ⟨_, rfl, go_of (s := { s with heap := h', toks := tk }) (n := "range_iterator") st' rfl rfl (by decide) ⟨.int (lo + i * 2), H, I1, ⟨t, rfl⟩, ⟨rfl, rfl⟩, st', fun b hb => (hf b hb).1⟩⟩
 done := by
  intro X hP hw hK hc i pins s σ H E I hf st hg
  subst hP hw hK
  obtain ⟨f0, f1, f2, f3, f4, f5⟩ := hf it (by simp)
  exact wpAny_pyNext_range_end (I.ok.hd hc) st (by have : n ≤ i := hg; omega) fun h' eb => ⟨rfl, I.turned (t' := s.toks) (fun b o hb e => eb b o hb e) f0 f1 f3 f4 f5⟩
 self := fun _ _ _ _ _ st h => wpAny_pyIter_rangeiter st h
def cnt2 (i j : Int) : Nat := ((j - i + 1) / 2).toNat
theorem size_two {i j : Int} (h : i ≤ j) : Builtin.Range.rangeSize i j 2 = ((cnt2 i j : Nat) : Int) := by
 unfold Builtin.Range.rangeSize cnt2
 rw [if_pos (by decide : (2 : Int) > 0)]
 split <;> omega
theorem small_two {i j : Int} (h0 : 0 ≤ i) (h : i ≤ j) (hj : j < 2 ^ 40) : Builtin.Range.small i j 2 = true := by
 unfold Builtin.Range.small
 rw [size_two h]
 unfold cnt2
 simp only [Builtin.Range.rangeFitsLong, Bool.and_eq_true, Bool.or_eq_true, decide_eq_true_eq, beq_iff_eq, if_pos (by decide : (2 : Int) > 0)]
 omega
def iRng3 (ta : TA) : TI := fun σ H R => ta σ H fun vs H1 => ∃ i j : Int, vs = [.int i, .int j, .int 2] ∧ 0 ≤ i ∧ i ≤ j ∧ j < 2 ^ 40 ∧ R (It2 i (cnt2 i j)) H1
section
variable {X : Cx} {tg : Expr}
theorem pi_range3 {a b c : Expr} {ta : TA} {p pos : Pos} (hg : Gl X "range") (hm : X.mg "range" = none) (ha : PA X [a, b, c] ta) (hs : starEach [a, b, c] X.env = (false, eval a X.env) :: starEach [b, c] X.env := by rfl)
  (hpl : (backTo pos (starEach [b, c] X.env)).any (·.1) = false := by rfl) : PI X tg (.Call (.Name "range" p) [a, b, c] [] pos) (iRng3 ta) := by
 intro pins s σ H R I h
 refine Call_ (ld_blt I hg hm boot_range (PyProof.Rows.callWith_type1 (thn (ha pos pins s σ H _ I h) fun us s1 ⟨vs, H1, I1, r1, q1⟩ => ?_) hs hpl))
 obtain ⟨i, j, e, h0, h1, h2, q⟩ := q1
 subst e
 cases r1 with
 | cons ra rr =>
  cases rr with
  | cons rb rr =>
   cases rr with
   | cons rc rr =>
    cases rr
    obtain ⟨t, rfl⟩ := ra
    obtain ⟨u, rfl⟩ := rb
    obtain ⟨v, rfl⟩ := rc
    refine call_range_3 (by decide) ?_ (.inl (PyProof.noPylong_small (by omega)))
    refine wpAny_pyIter_range (IsRange.new ..) (small_two h0 h1 h2) ?_
    have I2 : Inv X pins σ H1 { s1 with heap := s1.heap.push { cls := .type "range", data := .fields #[.int i t, .int j u, .int 2 v] }, toks := s1.toks } := I1.kept fun b o e => Heap.get?_push_of_some _ e
    refine ⟨_, [(s1.heap.push { cls := .type "range", data := .fields #[.int i t, .int j u, .int 2 v] }).objs.size], _, _, H1, rfl, I2.kept (t' := s1.toks) fun b o e => Heap.get?_push_of_some _ e, turn_range2 _ i (cnt2 i j), ?_, fun b hb => ?_, q⟩
    ·have e1 : i + ((0 : Nat) : Int) * 2 = i := by simp
     have e2 : ((cnt2 i j : Nat) : Int) - ((0 : Nat) : Int) = Builtin.Range.rangeSize i j 2 := by rw [size_two h1]; simp
     show IsRangeIter _ _ (i + ((0 : Nat) : Int) * 2) (((cnt2 i j : Nat) : Int) - ((0 : Nat) : Int)) 2
     rw [e1, e2]
     exact Heap.get?_push_size _ rfl
    ·have e : b = (s1.heap.push { cls := .type "range", data := .fields #[.int i t, .int j u, .int 2 v] }).objs.size := by simpa using hb
     subst e
     exact I2.fpOk (Nat.le_refl _) (I2.hok.fresh (Nat.le_refl _))
end
theorem rd_rng3 {ta : TA} {σ : St} {H : Hp} {R : It → Hp → Prop} (h : ta σ H fun vs H1 => ∃ i j : Int, vs = [.int i, .int j, .int 2] ∧ 0 ≤ i ∧ i ≤ j ∧ j < 2 ^ 40 ∧ R (It2 i (cnt2 i j)) H1) : iRng3 ta σ H R := h
theorem forW_range2 {lo : Int} {n : Nat} {g : TG} {tb : TS} {D : Ends} {σ : St} {H : Hp} (Pv : Nat → St → Hp → Prop) (h0 : Pv 0 σ H)
  (hs : ∀ i σ H, i < n → Pv i σ H → g (.int (lo + i * 2)) σ H fun σ2 H2 => tb { D with nx := Pv (i + 1), ct := Pv (i + 1), bk := D.nx } σ2 H2) (hd : ∀ σ H, Pv n σ H → D.nx σ H) : ForW (It2 lo n) g tb D σ H := by
 refine ⟨fun i m σ H => i ≤ n ∧ m = n - i ∧ Pv i σ H, ⟨_, Nat.zero_le _, rfl, h0⟩, fun i m σ H ⟨hi, hm, p⟩ => ?_⟩
 by_cases h : i < n
 ·refine .inr ⟨h, Pv (i + 1), fun σ' H' p' => ⟨n - (i + 1), by omega, by omega, rfl, p'⟩, fun x H' y => ?_⟩
  obtain ⟨rfl, rfl⟩ := y
  exact hs i σ _ h p
 ·have e : i = n := by omega
  subst e
  exact .inl ⟨Nat.le_refl _, hd σ H p⟩
theorem rd_orB {t u : TT} {σ : St} {H : Hp} {QB : Bool → Hp → Prop} (c d : Bool) (ht : ∀ Q' : Bool → Hp → Prop, Q' c H → t σ H Q') (hu : c = false → ∀ Q' : Bool → Hp → Prop, Q' d H → u σ H Q') (q : QB (c || d) H) : tOr t u σ H QB := by
 refine ht _ ?_
 cases c with
 | true => exact q
 | false => exact hu rfl _ q
theorem rd_ifI {t : TT} {ta tb : TE} {σ : St} {H : Hp} {Q : VK} {i j : Int} (b : Bool) (ht : ∀ Q' : Bool → Hp → Prop, Q' b H → t σ H Q') (ha : ∀ Q' : VK, Q' (.int i) H → ta σ H Q') (hb : ∀ Q' : VK, Q' (.int j) H → tb σ H Q') (q : Q (.int (if b = true then i else j)) H) : tIf t ta tb σ H Q := by
 refine ht _ ?_
 cases b with
 | true => exact ha _ q
 | false => exact hb _ q
theorem shp2 (x y : Int) : SeqAt.shaped (.tuple [.int x, .int y]) = true := by rfl
theorem eqv2 (x y x' y' : Int) : PyData.eqv (.tuple [.int x, .int y]) (.tuple [.int x', .int y']) = decide ((x, y) = (x', y')) := by
 simp only [PyData.eqv, PyData.eqvAll]
 by_cases h1 : x = x' <;> by_cases h2 : y = y' <;> simp [h1, h2]
theorem rep2 {H : Hp} {a : Addr} {x y : Int} (h : H a = some (.tup [.int x, .int y])) : Rep H (.tuple [.int x, .int y]) (.ref a) := by
 simp only [Rep, RepL]
 exact ⟨a, _, rfl, h, _, _, rfl, rfl, _, _, rfl, rfl, rfl⟩
theorem rd_neP {H : Hp} {Q : VK} {a b : Addr} {x y x' y' : Int} (ha : H a = some (.tup [.int x, .int y])) (hb : H b = some (.tup [.int x', .int y'])) (q : Q (.bl (!decide ((x, y) = (x', y')))) H) : rEqD true (.ref a) (.ref b) H Q :=
 ⟨_, _, rep2 ha, rep2 hb, shp2 _ _, shp2 _ _, by rw [if_pos rfl, eqv2]; exact q⟩
theorem rd_dnewT {σ : St} {H : Hp} {Q : VK} (h : ∀ p, H p = none → Q (.ref p) (upd H p (.dT []))) : tDNewT σ H Q := h
theorem rd_dput {td ty tv : TE} {D : Ends} {σ : St} {H : Hp} (h : tv σ H fun v H1 => td σ H1 fun x H2 => ty σ H2 fun y H3 => ∃ a H4, x = .ref a ∧ DPut H3 a y v H4 ∧ D.nx σ H4) : sDPut td ty tv D σ H := h
theorem rd_dnotin {ty td : TE} {σ : St} {H : Hp} {Q : VK} (h : ty σ H fun y H1 => td σ H1 fun x H2 => ∃ a o, x = .ref a ∧ DGet H2 a y o ∧ Q (.bl (!o.isSome)) H2) : tDNotIn ty td σ H Q := h
end L2
set_option Elab.async false
set_option linter.all false
set_option maxRecDepth 100000
namespace L2
open PySem PySem.Spec PyProof.Rows
section
variable {X : Cx} {pins : List (Addr × Obj)} {σ : St} {H : Hp} {s : Shared} {fp : List Addr} {scope : Scope} {N : List Str} {cap : List (Option Nat)}
end
section
variable {X : Cx} {elt tg iter : Expr} {ifs : List Expr} {scope : Scope} {pos : Pos} {N : List Str} {cap : List (Option Nat)} {wi : TI} {g : TG} {tt : TT} {te : TE}
end
end L2
set_option Elab.async false
set_option linter.all false
set_option maxRecDepth 100000
set_option maxHeartbeats 4000000
namespace L2
open PySem PySem.Spec PyProof.Rows
section
variable {prog : Program} {w : World} {A : Around} {E : Value → Shared → Prop} {s : Shared} {R : Result → Shared → Prop} {I : Addr} {fp wr : List Addr} {G : Array GenState → Array GenState → Prop} {n : Nat} {P : Nat → Value → Prop} {St : Nat → Shared → Prop}
end
section
variable {X : Cx}
end
end L2
set_option Elab.async false
set_option linter.all false
set_option maxHeartbeats 1000000
namespace NR
def sm : Nat → (Nat → Int) → Int
 | 0, _ => 0
 | n + 1, f => sm n f + f n
def ib (p : Prop) [Decidable p] : Int := if p then 1 else 0
section
variable {n : Nat} {e d : Int → Int} {X Y : Nat → Int}
def s1 (X Y : Nat → Int) (i k : Nat) : Int := ib (Y (i + 1) < Y (k + 1) ∨ (Y (i + 1) = Y (k + 1) ∧ X (i + 1) < X (k + 1)))
def s2 (X Y : Nat → Int) (i k : Nat) : Int := ib (Y i < Y k ∨ (Y i = Y k ∧ X (i + 1) < X (k + 1)))
def Up (d : Int → Int) (X : Nat → Int) (i : Nat) : Prop := d (X (i + 1)) = 1
instance (d : Int → Int) (X : Nat → Int) (i : Nat) : Decidable (Up d X i) := inferInstanceAs (Decidable (_ = _))
end
end NR
set_option linter.all false
set_option Elab.async false
set_option maxHeartbeats 4000000
namespace Ts
open PySem PyProof.Rows
def Le (lt : Keyed → Keyed → Bool) (x y : Keyed) : Prop := lt y x = false
section
variable {M : Model} {A : Around} {E : Value → Shared → Prop} {s : Shared}
end
end Ts
set_option linter.all false
set_option Elab.async false
set_option maxHeartbeats 4000000
namespace Ts
open PySem PyProof.Rows
section
variable {M : Model} {A : Around} {E : Value → Shared → Prop} {s : Shared}
end
end Ts
set_option linter.all false
set_option Elab.async false
set_option maxHeartbeats 4000000
namespace Ts
open PySem PyProof.Rows
section
variable {M : Model} {A : Around} {E : Value → Shared → Prop} {s : Shared}
end
end Ts
set_option linter.all false
set_option Elab.async false
set_option maxHeartbeats 4000000
namespace Ts
open PySem PyProof.Rows
section
variable {M : Model} {A : Around} {E : Value → Shared → Prop} {s : Shared}
end
end Ts
set_option linter.all false
set_option Elab.async false
set_option maxHeartbeats 4000000
namespace Ts
open PySem PyProof.Rows
def seg (xs : Array Keyed) (i n : Nat) : List Keyed := (xs.toList.drop i).take n
section
variable {M : Model} {A : Around} {E : Value → Shared → Prop} {s : Shared}
end
end Ts
set_option linter.all false
set_option Elab.async false
set_option maxHeartbeats 4000000
namespace Ts
open PySem PyProof.Rows
def at' (xs : Array Keyed) (i : Nat) : Keyed := (xs[i]?).getD (.none, .none)
def Up (lt : Keyed → Keyed → Bool) (xs : Array Keyed) (lo n : Nat) : Prop := ∀ p q, p ≤ q → q < n → Le lt (at' xs (lo + p)) (at' xs (lo + q))
section
variable {M : Model} {A : Around} {E : Value → Shared → Prop} {s : Shared}
end
end Ts
set_option linter.all false
set_option Elab.async false
set_option maxHeartbeats 4000000
namespace Ts
open PySem PyProof.Rows
section
variable {M : Model} {A : Around} {E : Value → Shared → Prop} {s : Shared}
end
end Ts
set_option linter.all false
set_option Elab.async false
set_option maxHeartbeats 4000000
namespace Ts
open PySem PyProof.Rows
def Runs (lt : Keyed → Keyed → Bool) (xs : Array Keyed) : Nat → List (Nat × Nat) → Nat → Prop
 | i, [], hi => i = hi
 | i, (s, n) :: ps, hi => s = i ∧ 1 ≤ n ∧ (seg xs s n).Pairwise (Le lt) ∧ Runs lt xs (i + n) ps hi
def kys (p : Array (Nat × Nat × Nat)) : List (Nat × Nat) := p.toList.map fun q => (q.1, q.2.1)
section
variable {M : Model} {A : Around} {E : Value → Shared → Prop} {s : Shared}
structure Inv (κ : SortKind) (lt : Keyed → Keyed → Bool) (a0 : Array Keyed) (st : SortSt) (lo : Nat) : Prop where
 kind : kindOf st = κ
 failed : failedOf st = none
 perm : (arrOf st).Perm a0
 runs : Runs lt (arrOf st) 0 (kys (pendingOf st)) lo
end
end Ts
set_option linter.all false
set_option Elab.async false
set_option maxHeartbeats 4000000
set_option maxRecDepth 100000
namespace Ts
open PySem PyProof.Rows PySem.W
section
variable {prog : Program} {w : World} {A : Around} {E : Value → Shared → Prop} {s : Shared}
end
def plt (p q : Int × Int) : Bool := decide (p.1 < q.1) || (decide (p.1 = q.1) && decide (p.2 < q.2))
def ple (p q : Int × Int) : Prop := p.1 < q.1 ∨ (p.1 = q.1 ∧ p.2 ≤ q.2)
theorem plt_f {p q : Int × Int} : plt p q = false ↔ ple q p := by
 unfold plt ple
 rw [Bool.or_eq_false_iff, Bool.and_eq_false_iff, decide_eq_false_iff_not, decide_eq_false_iff_not, decide_eq_false_iff_not]
 omega
theorem plt_t {p q : Int × Int} : plt p q = true ↔ p.1 < q.1 ∨ (p.1 = q.1 ∧ p.2 < q.2) := by
 unfold plt
 rw [Bool.or_eq_true, Bool.and_eq_true, decide_eq_true_eq, decide_eq_true_eq, decide_eq_true_eq]
section
variable {prog : Program} {w : World} {s : Shared}
def PairAt (h : Heap) (v : Value) (p : Int × Int) : Prop := ∃ b o t u n, v = .ref b ∧ h.get? b = some o ∧ o.cls = .type "tuple" ∧ o.data = .seq #[.int p.1 t, .int p.2 u] n
end
end Ts
set_option Elab.async false
set_option linter.all false
set_option maxRecDepth 100000
set_option maxHeartbeats 4000000
namespace L2
open PySem PySem.Spec PyProof.Rows
def PtV (H : Hp) (v : V) (p : Int × Int) : Prop := ∃ b, v = .ref b ∧ H b = some (.tup [.int p.1, .int p.2])
def toV : Value → V
 | .ref b => .ref b
 | _ => .non
theorem Vals.refs : ∀ {xs : List V} {us : List Value}, Vals xs us → (∀ v ∈ xs, ∃ b, v = .ref b) → us.map toV = xs ∧ ∀ u ∈ us, ∃ b, u = .ref b
 | _, _, .nil, _ => ⟨rfl, fun u hu => nomatch hu⟩
 | v :: xs, u :: us, .cons r rs, h => by
  obtain ⟨b, rfl⟩ := h v List.mem_cons_self
  have r : u = Value.ref b := r
  subst r
  obtain ⟨h1, h2⟩ := Vals.refs rs fun v hv => h v (List.mem_cons_of_mem _ hv)
  refine ⟨by rw [List.map_cons, h1]; rfl, fun u hu => ?_⟩
  rcases List.mem_cons.mp hu with rfl | hu
  ·exact ⟨b, rfl⟩
  ·exact h2 u hu
end L2
set_option linter.all false
set_option Elab.async false
set_option maxHeartbeats 4000000
namespace Sm
abbrev Pnt := Int × Int
def oth (nb : Pnt → List Pnt) (a b : Pnt) : List Pnt := (nb b).filter fun c => !decide (c = a)
def Go (nb : Pnt → List Pnt) : Pnt → Pnt → List Pnt → Prop
 | _, _, [] => True
 | a, b, c :: l => oth nb a b = [c] ∧ Go nb b c l
def fin : Pnt → Pnt → List Pnt → Pnt × Pnt
 | a, b, [] => (a, b)
 | _, b, c :: l => fin b c l
section
variable {nb : Pnt → List Pnt}
structure Rnd (nb : Pnt → List Pnt) (a b : Pnt) (l : List Pnt) : Prop where
 adj : b ∈ nb a
 go : Go nb a b l
 stop : oth nb (fin a b l).1 (fin a b l).2 = [a]
 nd : (a :: b :: l).Nodup
end
end Sm
set_option linter.all false
set_option Elab.async false
set_option maxHeartbeats 4000000
namespace Sm
section
variable {nb : Pnt → List Pnt}
end
end Sm
set_option Elab.async false
set_option linter.all false
set_option maxRecDepth 100000
set_option maxHeartbeats 4000000
namespace Ts
open PySem PyProof.Rows PySem.W
section
variable {prog : Program} {w : World} {A : Around} {E : Value → Shared → Prop} {s : Shared}
theorem PairAt.ty {v : Value} {p : Int × Int} (h : PairAt s.heap v p) : s.TypeIs v "tuple" := by
 obtain ⟨b, o, t, u, n, rfl, h1, h2, _⟩ := h
 exact ⟨o, h1, h2⟩
theorem rich_lt_pairs {v u : Value} {p q : Int × Int} {Q : Value → Shared → Prop} (hu : A.units < cLine) (hv : PairAt s.heap v p) (hw : PairAt s.heap u q) (h : Q (.bool (plt p q)) s) : wpAny (model prog w) A (richCompare .Lt v u) Q E s := by
 refine wpAny_richCompare_same_room hv.ty hw.ty F.slot_tuple_lt (wpAny_call_entry F.slot_tuple_lt hv.ty F.entry_tuple_lt ?_ (F.args_tuple_lt_2 _ _)) hu
 obtain ⟨b, o, t1, t2, n, rfl, h1, c1, d1⟩ := hv
 obtain ⟨c, o2, t3, t4, m, rfl, h2, c2, d2⟩ := hw
 unfold Builtin.«tuple.__lt__»
 refine wpAny_bind (wpAny_pure ?_)
 dsimp only
 refine wpAny_bind (wpAny_isInstance (T := "tuple") (b := true) ⟨o2, h2, c2⟩ (by rw [isSubtype_type]; kernel_rfl) ?_)
 rw [if_neg (by decide)]
 refine wpAny_bind (wpAny_tupleItemsOf h1 d1 (wpAny_bind (wpAny_tupleItemsOf h2 d2 ?_)))
 show wpAny (model prog w) A.in1 (forIn [(Value.int p.1 t1, Value.int q.1 t3), (Value.int p.2 t2, Value.int q.2 t4)] _ _ >>= _) _ E s
 have nn : ∀ b : Bool, Value.bool b ≠ Value.notImplemented := fun b e => nomatch e
 refine wpAny_bind ?_
 rw [List.forIn_cons]
 refine wpAny_bind (wpAny_bind (wpAny_eqBool_int ?_))
 by_cases e1 : p.1 = q.1
 ·have e1' : (p.1 == q.1) = true := by rw [e1]; exact beq_self_eq_true _
  rw [e1', if_neg (by decide)]
  refine wpAny_pure ?_
  dsimp only
  rw [List.forIn_cons]
  refine wpAny_bind (wpAny_bind (wpAny_eqBool_int ?_))
  by_cases e2 : p.2 = q.2
  ·have e2' : (p.2 == q.2) = true := by rw [e2]; exact beq_self_eq_true _
   rw [e2', if_neg (by decide)]
   refine wpAny_pure ?_
   dsimp only
   rw [List.forIn_nil]
   refine wpAny_pure ?_
   have : plt p q = false := plt_f.mpr (by unfold ple; omega)
   rw [this] at h
   exact wpAny_pure ⟨_, rfl, nn _, h⟩
  ·have e2' : (p.2 == q.2) = false := by simpa using e2
   rw [e2', if_pos (by decide)]
   refine wpAny_bind (wpAny_rule ?_)
   refine wpAny_bind (wpAny_lt_int ?_)
   refine wpAny_bind (wpAny_pure (wpAny_pure ?_))
   dsimp only
   refine wpAny_pure ?_
   have : plt p q = decide (p.2 < q.2) := by unfold plt; rw [e1]; simp
   rw [this] at h
   exact wpAny_pure ⟨_, rfl, nn _, h⟩
 ·have e1' : (p.1 == q.1) = false := by simpa using e1
  rw [e1', if_pos (by decide)]
  refine wpAny_bind (wpAny_rule ?_)
  refine wpAny_bind (wpAny_lt_int ?_)
  refine wpAny_bind (wpAny_pure (wpAny_pure ?_))
  dsimp only
  refine wpAny_pure ?_
  have : plt p q = decide (p.1 < q.1) := by unfold plt; simp [e1]
  rw [this] at h
  exact wpAny_pure ⟨_, rfl, nn _, h⟩
def AllPairs (h : Heap) (vs : List Value) (g : Value → Int × Int) (I S : Addr) : Prop := ∀ v ∈ vs, PairAt h v (g v) ∧ v ≠ .ref I ∧ v ≠ .ref S
theorem AllPairs.keep {h h' : Heap} {vs : List Value} {g : Value → Int × Int} {I S : Addr} (a : AllPairs h vs g I S) (k : ∀ b o, b ≠ I → b ≠ S → h.get? b = some o → h'.get? b = some o) : AllPairs h' vs g I S := by
 intro v hv
 obtain ⟨⟨b, o, t, u, n, rfl, h1, h2, h3⟩, n1, n2⟩ := a v hv
 exact ⟨⟨b, o, t, u, n, rfl, k b o (fun e => n1 (by rw [e])) (fun e => n2 (by rw [e])) h1, h2, h3⟩, n1, n2⟩
theorem ple_trans {p q r : Int × Int} (h : ple p q) (h' : ple q r) : ple p r := by unfold ple at *; omega
theorem ple_refl (p : Int × Int) : ple p p := by unfold ple; omega
theorem min_go {R : Result → Shared → Prop} {I l S : Addr} {vs : List Value} {g : Value → Int × Int} (hu : A.units + 8 < cLine) (hh : A.in1.handled = none) (hl : l ≠ I) (hSI : S ≠ I) (hSl : S ≠ l) :
  ∀ (k j : Nat) (s : Shared) (vb : Value) (c : Nat), vs.length - (j + 1) = k → j + 1 ≤ vs.length → s.heap.IsListIter I l (j + 1) → s.heap.IsList l vs.toArray → AllPairs s.heap vs g I S → vb ∈ vs → (∀ i v, i ≤ j → vs[i]? = some v → ple (g vb) (g v)) →
  s.heap.get? S = some { cls := .type "list", dict := none, data := .seq #[vb, vb] c, slots := #[] } →
  (∀ v h' tk, v ∈ vs → (∀ u ∈ vs, ple (g v) (g u)) → (∀ b o, b ≠ I → b ≠ S → s.heap.get? b = some o → h'.get? b = some o) → R (.ok (.ret v)) { s with heap := h', toks := tk }) →
  codeAny (model prog w) A (.builtin "min.loop" ⟨[.ref I, .none, .ref S], []⟩) R s := by
 have W := Walks.list (prog := prog) (w := w) hh I l hl vs.toArray
 have nm : (toString "min" ++ toString ".loop" : String) = "min.loop" := by decide
 have sz : vs.toArray.size = vs.length := by simp
 intro k
 induction k with
 | zero =>
  intro j s vb c hk hj hit hls hap hvb hmin hS hR
  (refine codeAny_builtin F.entry_min_loop ?_; rw [Around.under_plainId F.plain_min_loop _]; show wpAny _ A.in1 (seqItems? (.ref S) >>= _) _ _ s; refine wpAny_bind (wpAny_seqItems hS rfl ?_))
  (show wpAny _ A.in1 (tryCatch (pyNext (.ref I)) _ >>= _) _ _ s; refine wpAny_bind (wpAny_tryCatch (W.done s _ _ ⟨by rw [sz, show vs.length = j + 1 by omega]; exact hit, hls⟩ fun h' tk hk' => ?_)))
  have hS' := hk' S _ (by simp [hSI]) hS
  (show wpAny _ A.in1 (updateSeq S (fun _ => #[]) >>= _) _ _ _; refine wpAny_bind ?_; refine wpAny_updateSeq hS' rfl (wpAny_bind (wpAny_letGo (wpAny_pure ?_))))
  refine hR vb _ tk hvb (fun u hu' => ?_) fun b o hI hbS e => (Heap.get?_update_other _ _ (Ne.symm hbS)).trans (hk' b o (by simp [hI]) e)
  obtain ⟨i, hi⟩ := List.mem_iff_getElem?.mp hu'
  exact hmin i u (by have := (List.getElem?_eq_some_iff.mp hi).1; omega) hi
 | succ k ih =>
  intro j s vb c hk hj hit hls hap hvb hmin hS hR
  (refine codeAny_builtin F.entry_min_loop ?_; rw [Around.under_plainId F.plain_min_loop _]; show wpAny _ A.in1 (seqItems? (.ref S) >>= _) _ _ s; refine wpAny_bind (wpAny_seqItems hS rfl ?_))
  (show wpAny _ A.in1 (tryCatch (pyNext (.ref I)) _ >>= _) _ _ s; refine wpAny_bind (wpAny_tryCatch (W.item (j + 1) s _ _ (by omega) ⟨hit, hls⟩ fun v h' tk hP hst' hk' => ?_)))
  have hS' := hk' S _ (by simp [hSI]) hS
  have hap' : AllPairs h' vs g I S := hap.keep fun b o hI _ e => hk' b o (by simp [hI]) e
  have hv : vs[j + 1]? = some v := by rw [← hP]; simp
  have hvm : v ∈ vs := List.mem_of_getElem? hv
  (show wpAny _ A.in1 (tryCatch (holding [v, v] (richCompare .Lt v vb >>= _)) _ >>= _) _ _ _; refine wpAny_bind (wpAny_tryCatch (wpAny_holding (wpAny_bind (rich_lt_pairs (s := { s with heap := h', toks := tk }) (by show A.units + 1 < cLine; omega) (hap' v hvm).1 (hap' vb hvb).1 ?_)))))
  (refine wpAny_bind (wpAny_holding (wpAny_truthy_bool ?_)); refine wpAny_bind (wpAny_letGo (wpAny_pure ?_)))
  cases hb : plt (g v) (g vb) with
  | true =>
   simp only [if_true]
   (refine wpAny_bind ?_; refine wpAny_updateSeq hS' rfl (wpAny_bind (wpAny_letGo ?_)); rw [nm])
   have kp : ∀ b o, b ≠ S → h'.get? b = some o → (h'.update S (Obj.mapSeq fun _ => #[v, v])).get? b = some o := fun b o hbS e => (Heap.get?_update_other _ _ (Ne.symm hbS)).trans e
   refine wpAny_pure ⟨plainId_quiet F.plain_min_loop _, ih (j + 1) _ v _ (by omega) (by omega) (hst'.1.at fun o e => kp I o (Ne.symm hSI) e) (hst'.2.at fun o e => kp l o (Ne.symm hSl) e) (hap'.keep fun b o _ hbS e => kp b o hbS e) hvm (fun i u hi hu' => ?_) (Heap.get?_update_self _ hS' rfl) fun v' h'' tk'' hm hmi hk'' => ?_⟩
   ·have hlt := plt_t.mp hb
    have : ple (g v) (g vb) := by unfold ple; omega
    by_cases hij : i ≤ j
    ·exact ple_trans this (hmin i u hij hu')
    ·have : i = j + 1 := by omega
     subst this
     rw [hv] at hu'; cases hu'
     exact ple_refl _
   ·exact hR v' h'' tk'' hm hmi fun b o hI hbS e => hk'' b o hI hbS (kp b o hbS (hk' b o (by simp [hI]) e))
  | false =>
   simp only [Bool.false_eq_true, if_false]
   (refine wpAny_bind (wpAny_letGo ?_); rw [nm])
   refine wpAny_pure ⟨plainId_quiet F.plain_min_loop _, ih (j + 1) _ vb c (by omega) (by omega) hst'.1 hst'.2 hap' hvb (fun i u hi hu' => ?_) hS' fun v' h'' tk'' hm hmi hk'' => ?_⟩
   ·by_cases hij : i ≤ j
    ·exact hmin i u hij hu'
    ·have : i = j + 1 := by omega
     subst this
     rw [hv] at hu'; cases hu'
     exact plt_f.mp hb
   ·exact hR v' h'' tk'' hm hmi fun b o hI hbS e => hk'' b o hI hbS (hk' b o (by simp [hI]) e)
theorem min_pairs {l : Addr} {vs : List Value} {g : Value → Int × Int} {Q : Value → Shared → Prop} (hu : A.units + 16 < cLine) (hh : A.handled = none) (hl : s.heap.IsList l vs.toArray) (hne : vs ≠ []) (hp : ∀ v ∈ vs, PairAt s.heap v (g v))
  (h : ∀ v h' tk, v ∈ vs → (∀ u ∈ vs, ple (g v) (g u)) → (∀ b o, s.heap.get? b = some o → h'.get? b = some o) → Q v { s with heap := h', toks := tk }) : wpAny (model prog w) A (call (.builtin "min") [.ref l]) Q E s := by
 have nm : (toString "min" ++ toString ".loop" : String) = "min.loop" := by decide
 have hlt : l < s.heap.objs.size := by obtain ⟨o, e, _⟩ := hl; exact Heap.lt_size e
 (refine call_function_tree F.kind_min F.plain_min F.entry_min (F.args_min1 _) ?_; show wpAny _ A.in1 (Builtin.Builtins.bindParams "min" ["key", "default"] 0 ⟨[], []⟩ >>= _) _ _ s)
 (refine wpAny_bind (wpAny_of_eq (show Builtin.Builtins.bindParams "min" ["key", "default"] 0 ⟨[], []⟩ = pure [none, none] from rfl) ?_); refine wpAny_bind (wpAny_pure ?_))
 (refine wpAny_bind (wpAny_pyIter_list hl ?_); refine wpAny_bind (wpAny_newObj_type ?_); rw [nm])
 generalize hI : s.heap.objs.size = I
 have hS : (s.heap.push { cls := .type "list_iterator", data := .fields #[.ref l, .int 0 0] }).objs.size = I + 1 := by rw [Heap.size_push, hI]
 have kp : ∀ b o, s.heap.get? b = some o → ((s.heap.push { cls := .type "list_iterator", data := .fields #[.ref l, .int 0 0] }).push { cls := .type "list", data := .seq #[] }).get? b = some o := fun b o e => Heap.get?_push_of_some _ (Heap.get?_push_of_some _ e)
 have hSI : I + 1 ≠ I := Nat.succ_ne_self I
 have hlI : l ≠ I := by rw [← hI]; exact Nat.ne_of_lt hlt
 have hSl : I + 1 ≠ l := by rw [← hI]; exact Nat.ne_of_gt (Nat.lt_succ_of_lt hlt)
 have hap : AllPairs ((s.heap.push { cls := .type "list_iterator", data := .fields #[.ref l, .int 0 0] }).push { cls := .type "list", data := .seq #[] }) vs g I (I + 1) := by
  intro v hv
  obtain ⟨b, o, t, u, n, rfl, h1, h2, h3⟩ := hp v hv
  have hb := Heap.lt_size h1
  rw [hI] at hb
  refine ⟨⟨b, o, t, u, n, rfl, kp _ _ h1, h2, h3⟩, (fun e => ?_), (fun e => ?_)⟩
  ·injection e with e; rw [e] at hb; exact Nat.lt_irrefl _ hb
  ·injection e with e; rw [e] at hb; exact absurd hb (Nat.not_lt.mpr (Nat.le_succ _))
 have it0 : ((s.heap.push { cls := .type "list_iterator", data := .fields #[.ref l, .int 0 0] }).push { cls := .type "list", data := .seq #[] }).IsListIter I l 0 := ⟨_, Heap.get?_push_of_some _ (by rw [← hI]; exact Heap.get?_push_size _ rfl), rfl, rfl⟩
 have hl2 : ((s.heap.push { cls := .type "list_iterator", data := .fields #[.ref l, .int 0 0] }).push { cls := .type "list", data := .seq #[] }).IsList l vs.toArray := hl.at fun o e => kp l o e
 have hS0 : ((s.heap.push { cls := .type "list_iterator", data := .fields #[.ref l, .int 0 0] }).push { cls := .type "list", data := .seq #[] }).get? (I + 1) = some { cls := .type "list", dict := none, data := .seq #[] 0, slots := #[] } := by rw [← hS]; exact Heap.get?_push_size _ rfl
 show wpAny _ _ (pure (Fin.again (.builtin "min.loop" ⟨[.ref I, .none, .ref (s.heap.push { cls := .type "list_iterator", data := .fields #[.ref l, .int 0 0] }).objs.size], []⟩))) _ _ { s with heap := (s.heap.push { cls := .type "list_iterator", data := .fields #[.ref l, .int 0 0] }).push { cls := .type "list", data := .seq #[] } }
 rw [hS]
 generalize (s.heap.push { cls := .type "list_iterator", data := .fields #[.ref l, .int 0 0] }).push { cls := .type "list", data := .seq #[] } = h2 at kp hap it0 hl2 hS0 ⊢
 have W := Walks.list (prog := prog) (w := w) (A := A.in1) hh I l hlI vs.toArray
 have sz : vs.toArray.size = vs.length := by simp
 have pos : 0 < vs.length := List.length_pos_iff.mpr hne
 refine wpAny_pure ⟨plainId_quiet F.plain_min_loop _, ?_⟩
 (refine codeAny_builtin F.entry_min_loop ?_; rw [Around.under_plainId F.plain_min_loop _]; show wpAny _ A.in1 (seqItems? (.ref (I + 1)) >>= _) _ _ _; refine wpAny_bind (wpAny_seqItems hS0 rfl ?_))
 (show wpAny _ A.in1 (tryCatch (pyNext (.ref I)) _ >>= _) _ _ _; refine wpAny_bind (wpAny_tryCatch (W.item 0 { s with heap := h2 } _ _ (by omega) ⟨it0, hl2⟩ fun v h' tk hP hst' hk' => ?_)))
 have hS' := hk' (I + 1) _ (by simp) hS0
 have hap' : AllPairs h' vs g I (I + 1) := hap.keep fun b o hI _ e => hk' b o (by simp [hI]) e
 have hv : vs[0]? = some v := by rw [← hP]; simp
 (show wpAny _ A.in1 (updateSeq (I + 1) (fun _ => #[v, v]) >>= _) _ _ _; refine wpAny_bind ?_; refine wpAny_updateSeq hS' rfl ?_; rw [nm])
 have kp2 : ∀ b o, b ≠ I + 1 → h'.get? b = some o → (h'.update (I + 1) (Obj.mapSeq fun _ => #[v, v])).get? b = some o := fun b o hbS e => (Heap.get?_update_other _ _ (Ne.symm hbS)).trans e
 refine wpAny_pure ⟨plainId_quiet F.plain_min_loop _, min_go (g := g) (by omega) hh hlI hSI hSl _ 0 _ v _ rfl (by omega) (hst'.1.at fun o e => kp2 I o (Ne.symm hSI) e) (hst'.2.at fun o e => kp2 l o (Ne.symm hSl) e) (hap'.keep fun b o _ hbS e => kp2 b o hbS e) (List.mem_of_getElem? hv) (fun i u hi hu' => ?_) (Heap.get?_update_self _ hS' rfl) fun v' h'' tk'' hm hmi hk'' => ?_⟩
 ·have : i = 0 := by omega
  subst this
  rw [hv] at hu'; cases hu'
  exact ple_refl _
 ·refine h v' h'' tk'' hm hmi fun b o e => ?_
  have hb := Heap.lt_size e
  rw [hI] at hb
  have n1 : b ≠ I := Nat.ne_of_lt hb
  have n2 : b ≠ I + 1 := Nat.ne_of_lt (Nat.lt_succ_of_lt hb)
  exact hk'' b o n1 n2 (kp2 b o n2 (hk' b o (by simp [n1]) (kp b o e)))
end
end Ts
namespace L2
open PySem PySem.Spec PyProof.Rows
def rMinP (K : PySem.W.Frag) (vs : List V) (H : Hp) (Q : VK) : Prop := ∃ a xs, vs = [.ref a] ∧ SqL K H a xs ∧ xs ≠ [] ∧ ∃ g : V → Int × Int, (∀ v ∈ xs, PtV H v (g v)) ∧ ∀ v ∈ xs, (∀ u ∈ xs, Ts.ple (g v) (g u)) → Q v H
theorem pair_of {X : Cx} {pins : List (Addr × Obj)} {σ : St} {H : Hp} {s : Shared} (I : Inv X pins σ H s) {v : V} {u : Value} {p : Int × Int} (h : PtV H v p) (r : RelV v u) : Ts.PairAt s.heap u p := by
 obtain ⟨b, rfl, hb⟩ := h
 have r : u = .ref b := r
 subst r
 obtain ⟨_, its2, r2, o, ho, hc, n, hd⟩ := I.hok _ _ hb
 cases r2 with
 | cons q1 r2 =>
 obtain ⟨t1, rfl⟩ := q1
 cases r2 with
 | cons q2 r2 =>
 obtain ⟨t2, rfl⟩ := q2
 cases r2
 exact ⟨b, o, t1, t2, n, rfl, ho, hc, hd⟩
theorem cI_minPK {X : Cx} (K : PySem.W.Frag) (hK : X.K = K) (hc : X.calm = true) (hu : X.A.units + 64 < cLine) : CallR X (.builtin "min") (rMinP K) := by
 subst hK
 intro pins s σ H xs us Q I hv h
 obtain ⟨a, ys, rfl, hl, hne, g, hg, h⟩ := h
 cases hv with
 | cons r hv =>
 cases hv
 cases r
 obtain ⟨its, rv, pl, hz⟩ := I.list hl
 obtain ⟨em, hr⟩ := rv.refs fun v hv => let ⟨b, e, _⟩ := hg v hv; ⟨b, e⟩
 have hb : ∀ u ∈ its, ∃ b, u = Value.ref b ∧ V.ref b ∈ ys := fun u hu => by
  obtain ⟨b, rfl⟩ := hr u hu
  exact ⟨b, rfl, by rw [← em]; exact List.mem_map.mpr ⟨_, hu, rfl⟩⟩
 refine Ts.min_pairs (g := fun u => g (toV u)) (by omega) (I.ok.hd hc) pl.isList (fun e => hne (by rw [← em, e]; rfl)) (fun u hu => ?_) fun v h' tk hm hmin hk => ?_
 ·obtain ⟨b, rfl, hm⟩ := hb u hu
  exact pair_of I (hg _ hm) rfl
 ·obtain ⟨b, rfl, hm'⟩ := hb v hm
  refine ⟨.ref b, H, I.kept hk, rfl, h _ hm' fun u hu => ?_⟩
  rw [← em] at hu
  obtain ⟨w, hw, rfl⟩ := List.mem_map.mp hu
  exact hmin w hw
theorem rd_minP {K : PySem.W.Frag} {a : Addr} {xs : List V} {H : Hp} {Q : VK} (g : V → Int × Int) (e : H a = some (.lst xs)) (hne : xs ≠ []) (hg : ∀ v ∈ xs, PtV H v (g v)) (h : ∀ v ∈ xs, (∀ u ∈ xs, Ts.ple (g v) (g u)) → Q v H) : rMinP K [.ref a] H Q := ⟨a, xs, rfl, SqL.of e, hne, g, hg, h⟩
section
variable {K : PySem.W.Frag} {σ : St} {H : Hp} {Q : VK} {te : TE} {tt : TT} {cap : List (Option Nat)} {l : Addr}
theorem compW_filt {a : Addr} {xs : List V} (F : V → V) (p : V → Bool) (hs : SqL K H a xs) (hz : xs.length ≤ 5000) (hl : H l = none)
    (test : ∀ x o H' (Q' : Bool → Hp → Prop), x ∈ xs → Same H H' → (∀ H5, Same H' H5 → Q' (p x) H5) → tt (((capS (none :: cap) σ).set 0 o).set 0 (some x)) H' Q')
    (step : ∀ x o H' (Q' : VK), x ∈ xs → p x = true → Same H H' → (∀ H5, Same H' H5 → Q' (F x) H5) → te (((capS (none :: cap) σ).set 0 o).set 0 (some x)) H' Q')
    (fin : ∀ H', Same H H' → H' l = some (.lst ((xs.filter p).map F)) → Q (.ref l) H') : CompW (Itl K a) (gName 0) tt te (none :: cap) l σ H Q := by
  refine ⟨xs.length, fun i ys σ' H' => ys = ((xs.take i).filter p).map F ∧ (∃ o, σ' = (capS (none :: cap) σ).set 0 o) ∧ Same H H' ∧ H' l = some (.lst ys), ⟨rfl, ⟨none, rfl⟩, Same.new hl, upd_same⟩, ?_, ?_⟩
  · rintro i ys σ' H' hi ⟨rfl, ⟨o, rfl⟩, s, e⟩
    refine ⟨⟨xs, xs[i], s.seq hs, by simp [hi]⟩, fun x H2 y => ?_⟩
    obtain ⟨e2, y⟩ := y
    subst e2
    have hx := y xs (s.seq hs)
    have tk : ((xs.take (i + 1)).filter p).map F = ((xs.take i).filter p).map F ++ (if p x = true then [F x] else []) := by
      rw [List.take_add_one, hx, List.filter_append, List.map_append]
      congr 1
      cases hp : p x <;> simp [hp]
    refine rd_name (test x o H2 _ (List.mem_of_getElem? hx) s fun H5 s5 => ?_)
    by_cases hp : p x = true
    · rw [if_pos hp]
      rw [if_pos hp] at tk
      refine step x o H5 _ (List.mem_of_getElem? hx) hp (s.trans s5) fun H6 s6 => ⟨s6 _ _ (s5 _ _ e), ?_, ?_⟩
      · have : (((xs.take i).filter p).map F).length ≤ xs.length := by
          rw [List.length_map]
          exact Nat.le_trans (List.length_filter_le _ _) (by rw [List.length_take]; omega)
        exact Nat.lt_of_le_of_lt (Nat.le_trans this hz) (by decide)
      · exact ⟨tk.symm, ⟨_, List.set_set ..⟩, ((s.trans s5).trans s6).later hl, upd_same⟩
    · rw [if_neg hp]
      rw [if_neg hp, List.append_nil] at tk
      exact ⟨tk.symm, ⟨_, List.set_set ..⟩, s.trans s5, s5 _ _ e⟩
  · rintro ys σ' H' ⟨rfl, _, s, e⟩
    rw [List.take_of_length_le (Nat.le_refl _)] at e
    exact ⟨⟨xs, s.seq hs, Nat.le_refl _⟩, fin H' s e⟩
end
end L2
set_option Elab.async false
set_option linter.all false
set_option maxRecDepth 100000
set_option maxHeartbeats 4000000
namespace Ts
open PySem PyProof.Rows PySem.W
end Ts
namespace L2
open PySem PySem.Spec PyProof.Rows PySem.W
section
variable {X : Cx} {pins : List (Addr × Obj)} {σ : St} {H H1 H2 : Hp} {s0 s s' : Shared}
end
end L2
set_option Elab.async false
set_option linter.all false
set_option maxHeartbeats 4000000
namespace Sm
section
variable {nb : Pnt → List Pnt}
end
end Sm
set_option Elab.async false
set_option linter.all false
set_option maxRecDepth 100000
set_option maxHeartbeats 4000000
namespace L2
open PySem PySem.Spec PyProof.Rows PySem.W
section
variable {prog : Program} {w : World} {κ : Type} [DecidableEq κ] {kd : HeapKind prog w κ} {A : Around} {E : Value → Shared → Prop} {s : Shared} {d a : Addr} {xs : List (κ × Addr × Value)} {k : κ} {v : Value}
end
section
variable {X : Cx} {pins : List (Addr × Obj)} {σ : St} {H : Hp} {s : Shared} {a b : Addr} {z : V} {r : Value} {A : Around} {E : Value → Shared → Prop} {kvs : List (List Key × V)} {k : List Key}
end
end L2
set_option Elab.async false
set_option linter.all false
set_option maxRecDepth 100000
set_option maxHeartbeats 4000000
namespace L2
open PySem PySem.Spec PyProof.Rows PySem.W
section
variable {X : Cx} (K : PySem.W.Frag) (hK : X.K = K) (hc : X.calm = true)
include hK hc
end
end L2
set_option Elab.async false
set_option linter.all false
set_option maxHeartbeats 4000000
namespace NR
def grid (n m : Nat) (F : Int × Int → Int) : Int := sm n fun x => sm m fun y => F ((x : Int), (y : Int))
end NR
namespace Sm
end Sm
set_option Elab.async false
set_option linter.all false
set_option maxRecDepth 100000
set_option maxHeartbeats 4000000
namespace L2
open PySem PySem.Spec PyProof.Rows PySem.W
end L2
set_option Elab.async false
set_option linter.all false
set_option maxHeartbeats 4000000
namespace Sm
section
variable {nb nb' : Pnt → List Pnt}
end
end Sm
set_option Elab.async false
set_option linter.all false
set_option maxRecDepth 100000
set_option maxHeartbeats 4000000
namespace L2
open PySem PySem.Spec PyProof.Rows
theorem compW_zip5 {K : PySem.W.Frag} {σ : St} {H : Hp} {Q : VK} {te : TE} {l a b : Addr} {xs ys : List V} (F : Nat → V) (hx : H a = some (.lst xs)) (hy : H b = some (.lst ys)) (he : xs.length = ys.length) (hz : xs.length ≤ 5000) (hl : H l = none)
  (step : ∀ (i : Nat) x y H' (Q' : VK), xs[i]? = some x → ys[i]? = some y → Same H H' → (∀ H5, Same H' H5 → Q' (F i) H5) → te [some x, some y] H' Q')
  (fin : ∀ H', Same H H' → H' l = some (.lst ((List.range xs.length).map F)) → Q (.ref l) H') : CompW (Itz K a b) (gTup K 2 (gCons (gName 0) (gCons (gName 1) gNil))) tTrue te [none, none] l σ H Q := by
 refine ⟨xs.length, fun i zs σ' H' => zs = (List.range i).map F ∧ (∃ o o', σ' = [o, o']) ∧ Same H H' ∧ H' l = some (.lst zs), ⟨rfl, ⟨none, none, rfl⟩, Same.new hl, upd_same⟩, ?_, ?_⟩
 ·rintro i zs σ' H' hi ⟨rfl, ⟨o, o', rfl⟩, s, e⟩
  refine ⟨⟨xs, ys, xs[i], ys[i]'(by omega), SqL.of (s _ _ hx), SqL.of (s _ _ hy), by simp [hi], by simp⟩, fun v H2 z => ?_⟩
  obtain ⟨T, rfl, hT, z⟩ := z
  obtain ⟨x, y, ex, ey, rfl⟩ := z xs ys (SqL.of (s _ _ hx)) (SqL.of (s _ _ hy))
  have sT := Same.new (o := HO.tup [x, y]) hT
  refine rd_gtup upd_same rfl (rd_gcons (rd_name (rd_gcons (rd_name (rd_gnil (rd_true (iteT ?_)))))))
  refine step i x y _ _ ex ey (s.trans sT) fun H5 s5 => ⟨s5 _ _ (sT _ _ e), ?_, ?_⟩
  ·rw [List.length_map, List.length_range]
   exact Nat.lt_of_lt_of_le (by omega : i < 6000) (by decide)
  ·refine ⟨?_, ⟨_, _, rfl⟩, ((s.trans sT).trans s5).later hl, upd_same⟩
   rw [List.range_succ, List.map_append]
   rfl
 ·rintro zs σ' H' ⟨rfl, _, s, e⟩
  exact ⟨⟨xs, ys, SqL.of (s _ _ hx), SqL.of (s _ _ hy), .inl (Nat.le_refl _)⟩, fin H' s e⟩
theorem compW_zipT5 {K : PySem.W.Frag} {σ : St} {H : Hp} {Q : VK} {te : TE} {l a b : Addr} {xs ys : List V} (F : Nat → V) (hx : H a = some (.tup xs)) (hy : H b = some (.tup ys)) (he : xs.length = ys.length) (hz : xs.length ≤ 5000) (hl : H l = none)
  (step : ∀ (i : Nat) x y H' (Q' : VK), xs[i]? = some x → ys[i]? = some y → Same H H' → (∀ H5, Same H' H5 → Q' (F i) H5) → te [some x, some y] H' Q')
  (fin : ∀ H', Same H H' → H' l = some (.lst ((List.range xs.length).map F)) → Q (.ref l) H') : CompW (Itzt K a b) (gTup K 2 (gCons (gName 0) (gCons (gName 1) gNil))) tTrue te [none, none] l σ H Q := by
 refine ⟨xs.length, fun i zs σ' H' => zs = (List.range i).map F ∧ (∃ o o', σ' = [o, o']) ∧ Same H H' ∧ H' l = some (.lst zs), ⟨rfl, ⟨none, none, rfl⟩, Same.new hl, upd_same⟩, ?_, ?_⟩
 ·rintro i zs σ' H' hi ⟨rfl, ⟨o, o', rfl⟩, s, e⟩
  refine ⟨⟨xs, ys, xs[i], ys[i]'(by omega), SqT.of (s _ _ hx), SqT.of (s _ _ hy), by simp [hi], by simp⟩, fun v H2 z => ?_⟩
  obtain ⟨T, rfl, hT, z⟩ := z
  obtain ⟨x, y, ex, ey, rfl⟩ := z xs ys (SqT.of (s _ _ hx)) (SqT.of (s _ _ hy))
  have sT := Same.new (o := HO.tup [x, y]) hT
  refine rd_gtup upd_same rfl (rd_gcons (rd_name (rd_gcons (rd_name (rd_gnil (rd_true (iteT ?_)))))))
  refine step i x y _ _ ex ey (s.trans sT) fun H5 s5 => ⟨s5 _ _ (sT _ _ e), ?_, ?_⟩
  ·rw [List.length_map, List.length_range]
   exact Nat.lt_of_lt_of_le (by omega : i < 6000) (by decide)
  ·refine ⟨?_, ⟨_, _, rfl⟩, ((s.trans sT).trans s5).later hl, upd_same⟩
   rw [List.range_succ, List.map_append]
   rfl
 ·rintro zs σ' H' ⟨rfl, _, s, e⟩
  exact ⟨⟨xs, ys, SqT.of (s _ _ hx), SqT.of (s _ _ hy), Nat.le_refl _⟩, fin H' s e⟩
end L2
set_option Elab.async false
set_option linter.all false
set_option maxHeartbeats 4000000
namespace Sm
section
variable {nb : Pnt → List Pnt}
end
end Sm
set_option Elab.async false
set_option linter.all false
set_option maxRecDepth 100000
set_option maxHeartbeats 4000000
namespace L2
open PySem PySem.Spec PyProof.Rows PySem.W
end L2
set_option Elab.async false
set_option linter.all false
set_option maxRecDepth 100000
set_option maxHeartbeats 4000000
namespace L2
open PySem PySem.Spec PyProof.Rows PySem.W
section
variable {X : Cx} {pins : List (Addr × Obj)} {σ : St} {H H' : Hp} {s : Shared} {h' : Heap}
end
section
variable {X : Cx}
end
def rInD : R2 := fun x y H Q => ∃ (ds : List PyData) (d : PyData), Rep H (.list ds) y ∧ Rep H d x ∧ PyData.canLayAll0 ds = true ∧ d.canLay0 = true ∧ d.depth ≤ 60 ∧ Q (.bl (ds.any fun y => PyData.eqv y d)) H
theorem op_inD {X : Cx} (hu : X.A.units + 64 < cLine) : OpR X (compareOp .In) rInD := by
 intro pins s σ H x y v u Q I rx ry h
 obtain ⟨ds, d, h1, h2, s1, s2, s3, q⟩ := h
 obtain ⟨as, r1⟩ := h1.reads I ry
 obtain ⟨bs, r2⟩ := h2.reads I rx
 exact SeqAt.in_list_reads r1 r2 s1 s2 (by have := Nat.min_le_right (PyData.depthAll ds) d.depth; omega) ⟨.bl _, H, I, rfl, q⟩
end L2
set_option Elab.async false
set_option linter.all false
set_option maxRecDepth 100000
set_option maxHeartbeats 4000000
namespace L2
open PySem PySem.Spec PyProof.Rows PySem.W
section
variable {prog : Program} {w : World} {A : Around} {E : Value → Shared → Prop} {s : Shared} {d it : Addr} {es : Array DictEntry} {ep i n : Nat}
end
end L2
set_option Elab.async false
set_option linter.all false
set_option maxRecDepth 100000
set_option maxHeartbeats 4000000
namespace L2
open PySem PySem.Spec PyProof.Rows PySem.W
end L2
set_option linter.all false
set_option Elab.async false
set_option maxHeartbeats 4000000
namespace Fm
abbrev Strip := List L2.Key
abbrev Tie := Strip × Strip × Int
inductive Con (F : List Tie) : Strip → Strip → Prop
 | refl (a : Strip) : Con F a a
 | fwd {a b c : Strip} {w : Int} : Con F a b → (b, c, w) ∈ F → Con F a c
 | bwd {a b c : Strip} {w : Int} : Con F a b → (c, b, w) ∈ F → Con F a c
section
variable {F : List Tie} {v : Strip → Int} {G : Strip → Strip × Int} {D : List Strip}
end
end Fm
set_option Elab.async false
set_option linter.all false
set_option maxRecDepth 100000
set_option maxHeartbeats 4000000
namespace L2
open PySem PySem.Spec PyProof.Rows PySem.W
end L2
set_option Elab.async false
set_option linter.all false
set_option maxRecDepth 100000
set_option maxHeartbeats 4000000
namespace L2
open PySem PySem.Spec PyProof.Rows
end L2
set_option Elab.async false
set_option linter.all false
set_option maxRecDepth 100000
set_option maxHeartbeats 4000000
namespace L2
open PySem PySem.Spec PyProof.Rows PySem.W
section
variable {X : Cx} {pins : List (Addr × Obj)} {σ : St} {H : Hp} {s : Shared} {d : Addr} {kvs : List (Key × V)} {vs : List (Key × Value)} {ep : Nat}
end
end L2
namespace L2
open PySem PySem.Spec PyProof.Rows PySem.W
end L2
namespace L2
open PySem PySem.Spec PyProof.Rows PySem.W
section
variable {K : PySem.W.Frag} {H : Hp} {Q : VK}
theorem rd_slS {a : Addr} {xs : List V} {lo hi : Option Int} (h : H a = some (.lst xs)) (q : ∀ p H1, Same H H1 → H p = none → H1 p = some (.lst (cutV xs lo hi)) → Q (.ref p) H1) : rSlL K (.ref a) lo hi H Q := rd_slL h fun p n => q p _ (Same.new n) n upd_same
theorem rd_catS {a b : Addr} {xs zs : List V} (ha : H a = some (.lst xs)) (hb : H b = some (.lst zs)) (z : xs.length + zs.length ≤ sizeLine) (q : ∀ p H1, Same H H1 → H p = none → H1 p = some (.lst (xs ++ zs)) → Q (.ref p) H1) : rCat (.ref a) (.ref b) H Q := rd_cat ha hb z fun p n => q p _ (Same.new n) n upd_same
end
end L2
set_option Elab.async false
set_option linter.all false
set_option maxRecDepth 100000
set_option maxHeartbeats 4000000
namespace L2
open PySem PySem.Spec PyProof.Rows PySem.W
section
variable {K : PySem.W.Frag} {σ : St} {H : Hp} {Q : VK} {te : TE} {tt : TT} {cap : List (Option Nat)} {l : Addr}
end
end L2
namespace L2
open PySem PySem.Spec PyProof.Rows PySem.W
end L2
set_option Elab.async false
set_option linter.all false
set_option maxRecDepth 100000
set_option maxHeartbeats 4000000
namespace L2
open PySem PySem.Spec PyProof.Rows PySem.W
end L2
set_option Elab.async false
set_option linter.all false
set_option maxRecDepth 100000
set_option maxHeartbeats 4000000
namespace PySem
end PySem
set_option Elab.async false
set_option linter.all false
set_option maxRecDepth 100000
set_option maxHeartbeats 4000000
namespace PyProof.Rows
open PySem PySem.Spec
section
variable {prog : Program} {w : World} {A : Around} {R : Result → Shared → Prop} {I : Addr} {fp wr : List Addr} {G : Array GenState → Array GenState → Prop} {n : Nat} {P : Nat → Value → Prop} {St : Nat → Shared → Prop} {K : Type} [DecidableEq K] {knd : PySem.KeyKind prog w K}
end
end PyProof.Rows
set_option Elab.async false
set_option linter.all false
set_option maxRecDepth 100000
set_option maxHeartbeats 4000000
namespace PySem
open PySem.Spec PyProof.Rows
section
variable {prog : Program} {w : World} {K : Type} [DecidableEq K] {knd : KeyKind prog w K} {A : Around} {E : Value → Shared → Prop} {s : Shared}
end
end PySem
set_option Elab.async false
set_option linter.all false
set_option maxRecDepth 100000
set_option maxHeartbeats 4000000
namespace L2
open PySem PySem.Spec PyProof.Rows PySem.W
section
variable {X : Cx} {pins : List (Addr × Obj)} {σ : St} {H : Hp} {s : Shared}
end
end L2
set_option Elab.async false
set_option linter.all false
set_option maxRecDepth 100000
set_option maxHeartbeats 4000000
namespace L2
open PySem PySem.Spec PyProof.Rows
theorem rd_orS {t u : TT} {σ : St} {H : Hp} {QB : Bool → Hp → Prop} (c d : Bool) (ht : ∀ Q' : Bool → Hp → Prop, (∀ H1, Same H H1 → Q' c H1) → t σ H Q') (hu : c = false → ∀ (H1 : Hp) (Q' : Bool → Hp → Prop), Same H H1 → (∀ H2, Same H1 H2 → Q' d H2) → u σ H1 Q') (q : ∀ H1, Same H H1 → QB (c || d) H1) : tOr t u σ H QB := by
 refine ht _ fun H1 s1 => ?_
 cases c with
 | true => exact q H1 s1
 | false => exact hu rfl H1 _ s1 fun H2 s2 => q H2 (s1.trans s2)
end L2
set_option Elab.async false
set_option linter.all false
set_option maxRecDepth 100000
namespace L2
open PySem PySem.Spec PyProof.Rows
section
variable {K : PySem.W.Frag} {x qual : Str} {st : Stmt} {f : Addr} {fd : FuncData}
theorem Fun.b1 {p0 : Str} (F : Fun K x qual st f fd) (h : ∀ (kV doc pm : Value) (an : Option Addr) (cdv ct a0 : Value), bindArgs (PySem.W.fnOf x qual (defArgs st) (defBody st) (defScope st) .none kV doc pm an cdv ct) ⟨[a0], []⟩ = pure [(p0, a0)]) : Binds K fd [p0] [] :=
 F.binds fun kV doc pm an cdv ct us hl => by obtain ⟨a0, rfl⟩ := len1 hl; exact h kV doc pm an cdv ct a0
theorem Fun.b2 {p0 p1 : Str} (F : Fun K x qual st f fd) (h : ∀ (kV doc pm : Value) (an : Option Addr) (cdv ct a0 a1 : Value), bindArgs (PySem.W.fnOf x qual (defArgs st) (defBody st) (defScope st) .none kV doc pm an cdv ct) ⟨[a0, a1], []⟩ = pure [(p0, a0), (p1, a1)]) : Binds K fd [p0, p1] [] :=
 F.binds fun kV doc pm an cdv ct us hl => by obtain ⟨a0, a1, rfl⟩ := len2 hl; exact h kV doc pm an cdv ct a0 a1
theorem Fun.b3 {p0 p1 p2 : Str} (F : Fun K x qual st f fd) (h : ∀ (kV doc pm : Value) (an : Option Addr) (cdv ct a0 a1 a2 : Value), bindArgs (PySem.W.fnOf x qual (defArgs st) (defBody st) (defScope st) .none kV doc pm an cdv ct) ⟨[a0, a1, a2], []⟩ = pure [(p0, a0), (p1, a1), (p2, a2)]) : Binds K fd [p0, p1, p2] [] :=
 F.binds fun kV doc pm an cdv ct us hl => by obtain ⟨a0, a1, a2, rfl⟩ := len3 hl; exact h kV doc pm an cdv ct a0 a1 a2
theorem Fun.b4 {p0 p1 p2 p3 : Str} (F : Fun K x qual st f fd) (h : ∀ (kV doc pm : Value) (an : Option Addr) (cdv ct a0 a1 a2 a3 : Value), bindArgs (PySem.W.fnOf x qual (defArgs st) (defBody st) (defScope st) .none kV doc pm an cdv ct) ⟨[a0, a1, a2, a3], []⟩ = pure [(p0, a0), (p1, a1), (p2, a2), (p3, a3)]) : Binds K fd [p0, p1, p2, p3] [] :=
 F.binds fun kV doc pm an cdv ct us hl => by obtain ⟨a0, a1, a2, a3, rfl⟩ := len4 hl; exact h kV doc pm an cdv ct a0 a1 a2 a3
theorem Fun.b5 {p0 p1 p2 p3 p4 : Str} (F : Fun K x qual st f fd) (h : ∀ (kV doc pm : Value) (an : Option Addr) (cdv ct a0 a1 a2 a3 a4 : Value), bindArgs (PySem.W.fnOf x qual (defArgs st) (defBody st) (defScope st) .none kV doc pm an cdv ct) ⟨[a0, a1, a2, a3, a4], []⟩ = pure [(p0, a0), (p1, a1), (p2, a2), (p3, a3), (p4, a4)]) : Binds K fd [p0, p1, p2, p3, p4] [] :=
 F.binds fun kV doc pm an cdv ct us hl => by obtain ⟨a0, a1, a2, a3, a4, rfl⟩ := len5 hl; exact h kV doc pm an cdv ct a0 a1 a2 a3 a4
theorem Fun.bl {p : Str} (F : Fun K x qual st f fd) (h : ∀ (kV doc pm : Value) (an : Option Addr) (cdv ct a : Value), bindArgs (PySem.W.fnOf x qual (defArgs st) (defBody st) (defScope st) .none kV doc pm an cdv ct) ⟨[a], []⟩ = pure [(p, a)]) (s : Shared) (v : Value) : BindsTo s fd ⟨[v], []⟩ [(p, v)] := by
 obtain ⟨_, _, kV, doc, pm, an, cdv, ct, _, rfl, _, _⟩ := F.ex
 exact .of_eq (h kV doc pm an cdv ct v)
end
theorem FnScope.by {N P : List Str} {sc : Scope} (h1 : sc.kind = .function := by rfl) (h2 : sc.isCoroutine = false := by rfl) (h3 : sc.isGenerator = false := by rfl) (h4 : N.Nodup := by decide +kernel) (h5 : N.take P.length = P := by rfl) (h6 : ∀ x ∈ P, sc.names.lookup x = some .local ∨ sc.names.lookup x = some .cell := by decide +kernel) (h7 : ∀ y ∈ sc.names, y.2 ≠ .free := by decide +kernel) : FnScope N P sc := ⟨h1, h2, h3, h4, h5, h6, h7⟩
end L2
set_option Elab.async false
set_option maxHeartbeats 4000000
set_option linter.all false
set_option maxRecDepth 100000
namespace My
open PySem PySem.Spec PyProof.Rows L2
def top (i : Nat) : Stmt := PySem.Challenge.pw_sashiko_k33_rounds_of_a_ring.main.body.getD i (.Pass ⟨0, 0, 0, 0⟩)
abbrev s_isnumber : Stmt := (top 10)
abbrev s_isbelow : Stmt := (top 11)
abbrev s_isbit : Stmt := (top 12)
abbrev s_allbits : Stmt := (top 13)
abbrev s_isside : Stmt := (top 14)
abbrev s_isringside : Stmt := (top 18)
abbrev s_BoardInit : Stmt := (inClass (top 16) 0)
abbrev s_RingInit : Stmt := (inClass (top 19) 0)
abbrev s_Ringwide : Stmt := (inClass (top 16) 1)
abbrev s_Ringtall : Stmt := (inClass (top 16) 2)
abbrev s_Ringbitsalong : Stmt := (inClass (top 16) 5)
abbrev s_Ringbit : Stmt := (inClass (top 16) 6)
abbrev s_Ringstitched : Stmt := (inClass (top 16) 7)
abbrev s_walk : Stmt := (top 20)
abbrev s_roundat : Stmt := (top 21)
abbrev s_ringrounds : Stmt := (top 22)
abbrev s_Lmarks : Stmt := (top 24)
abbrev s_Ldraws : Stmt := (top 25)
abbrev s_Lbits : Stmt := (top 26)
abbrev s_Lrow : Stmt := (top 27)
abbrev s_Lloop : Stmt := (top 28)
abbrev s_Lring : Stmt := (top 29)
abbrev s_Lonward : Stmt := (top 30)
abbrev s_Lgone : Stmt := (top 31)
abbrev s_Lgoneall : Stmt := (top 32)
abbrev s_Lsame : Stmt := (top 33)
abbrev s_Ldue : Stmt := (top 34)
abbrev s_Ltried : Stmt := (top 35)
abbrev s_law : Stmt := (top 36)
theorem sc_isnumber : FnScope ["value"] ["value"] (defScope s_isnumber) := .by
theorem sc_isbelow : FnScope ["value", "bound"] ["value", "bound"] (defScope s_isbelow) := .by
theorem sc_isbit : FnScope ["value"] ["value"] (defScope s_isbit) := .by
theorem sc_allbits : FnScope ["values"] ["values"] (defScope s_allbits) := .by
theorem sc_isside : FnScope ["count"] ["count"] (defScope s_isside) := .by
theorem sc_isringside : FnScope ["count"] ["count"] (defScope s_isringside) := .by
theorem sc_BoardInit : FnScope ["self", "wide", "tall", "cols", "rows"] ["self", "wide", "tall", "cols", "rows"] (defScope s_BoardInit) := .by
theorem sc_RingInit : FnScope ["self", "cols", "rows"] ["self", "cols", "rows"] (defScope s_RingInit) := .by
theorem sc_Ringwide : FnScope ["self"] ["self"] (defScope s_Ringwide) := .by
theorem sc_Ringtall : FnScope ["self"] ["self"] (defScope s_Ringtall) := .by
theorem sc_Ringbitsalong : FnScope ["self", "way"] ["self", "way"] (defScope s_Ringbitsalong) := .by
theorem sc_Ringbit : FnScope ["self", "way", "k", "bits"] ["self", "way", "k"] (defScope s_Ringbit) := .by
theorem sc_Ringstitched : FnScope ["self", "way", "k", "step", "line_bit", "steps"] ["self", "way", "k", "step"] (defScope s_Ringstitched) := .by
theorem sc_walk : FnScope ["ring", "start", "points", "right", "up", "here", "across", "corner", "upward"] ["ring", "start"] (defScope s_walk) := .by
theorem sc_roundat : FnScope ["ring", "point", "points"] ["ring", "point"] (defScope s_roundat) := .by
theorem sc_ringrounds : FnScope ["ring", "found", "seen", "x", "y", "told", "point"] ["ring"] (defScope s_ringrounds) := .by
theorem sc_Lmarks : FnScope ["_law_e"] ["_law_e"] (defScope s_Lmarks) := .by
theorem sc_Ldraws : FnScope ["_law_script", "_law_many", "_law_rows", "_law_mix", "_law_cell", "_law_rest"] ["_law_script", "_law_many"] (defScope s_Ldraws) := .by
theorem sc_Lbits : FnScope ["_law_number", "_law_many", "_law_row_here", "_law_k"] ["_law_number", "_law_many"] (defScope s_Lbits) := .by
theorem sc_Lrow : FnScope ["_law_some", "_law_many", "_law_raw", "_law_row_here"] ["_law_some", "_law_many"] (defScope s_Lrow) := .by
theorem sc_Lloop : FnScope ["_law_some", "_law_wide", "_law_tall"] ["_law_some"] (defScope s_Lloop) := .by
theorem sc_Lring : FnScope ["_law_loop_here"] ["_law_loop_here"] (defScope s_Lring) := .by
theorem sc_Lonward : FnScope ["_law_loop_here", "_law_point", "_law_x", "_law_y"] ["_law_loop_here", "_law_point"] (defScope s_Lonward) := .by
theorem sc_Lgone : FnScope ["_law_loop_here", "_law_point", "_law_wide", "_law_tall", "_law_line", "_law_here", "_law_right", "_law_up", "_law_step"] ["_law_loop_here", "_law_point"] (defScope s_Lgone) := .by
theorem sc_Lgoneall : FnScope ["_law_loop_here", "_law_found", "_law_seen", "_law_x", "_law_y", "_law_point"] ["_law_loop_here"] (defScope s_Lgoneall) := .by
theorem sc_Lsame : FnScope ["_law_told", "_law_due_here"] ["_law_told", "_law_due_here"] (defScope s_Lsame) := .by
theorem sc_Ldue : FnScope ["_law_word", "_law_words"] ["_law_word"] (defScope s_Ldue) := .by
theorem sc_Ltried : FnScope ["_law_ring_here", "_law_point", "_law_marks_here", "_law_e"] ["_law_ring_here", "_law_point"] (defScope s_Ltried) := .by
theorem sc_law : FnScope ["_law_script", "_law_some", "_law_loop_here", "_law_ring_here", "_law_due_here", "_law_found", "_law_one", "_law_twin", "_law_wide", "_law_tall", "_law_k", "_law_point", "_law_own", "_law_turn", "_law_told", "_law_far"] ["_law_script"] (defScope s_law) := .by
set_option genInjectivity false in
set_option genSizeOf false in
structure Ad where
 a_Board : Addr
 a_Ring : Addr
 f_isnumber : Addr
 d_isnumber : FuncData
 f_isbelow : Addr
 d_isbelow : FuncData
 f_isbit : Addr
 d_isbit : FuncData
 f_allbits : Addr
 d_allbits : FuncData
 f_isside : Addr
 d_isside : FuncData
 f_isringside : Addr
 d_isringside : FuncData
 f_BoardInit : Addr
 d_BoardInit : FuncData
 f_RingInit : Addr
 d_RingInit : FuncData
 f_Ringwide : Addr
 d_Ringwide : FuncData
 f_Ringtall : Addr
 d_Ringtall : FuncData
 f_Ringbitsalong : Addr
 d_Ringbitsalong : FuncData
 f_Ringbit : Addr
 d_Ringbit : FuncData
 f_Ringstitched : Addr
 d_Ringstitched : FuncData
 f_walk : Addr
 d_walk : FuncData
 f_roundat : Addr
 d_roundat : FuncData
 f_ringrounds : Addr
 d_ringrounds : FuncData
 f_Lmarks : Addr
 d_Lmarks : FuncData
 f_Ldraws : Addr
 d_Ldraws : FuncData
 f_Lbits : Addr
 d_Lbits : FuncData
 f_Lrow : Addr
 d_Lrow : FuncData
 f_Lloop : Addr
 d_Lloop : FuncData
 f_Lring : Addr
 d_Lring : FuncData
 f_Lonward : Addr
 d_Lonward : FuncData
 f_Lgone : Addr
 d_Lgone : FuncData
 f_Lgoneall : Addr
 d_Lgoneall : FuncData
 f_Lsame : Addr
 d_Lsame : FuncData
 f_Ldue : Addr
 d_Ldue : FuncData
 f_Ltried : Addr
 d_Ltried : FuncData
 f_law : Addr
 d_law : FuncData
 a_SewError : Addr
 a_BadSize : Addr
 a_BadBit : Addr
 a_NoCell : Addr
 a_NoLine : Addr
 a_NoStep : Addr
 a_NoPoint : Addr
 tk_LONGEST_SIDE : Tok
structure Txt (K : PySem.W.Frag) (mg : Str → Option Value) (t : Ad) : Prop where
 mg_Board : mg "Board" = some (.ref t.a_Board)
 mg_Ring : mg "Ring" = some (.ref t.a_Ring)
 cl_Ring : Cls K t.a_Ring
 mk_Ring : Mk K t.a_Ring t.f_RingInit
 naR_columns_count : NoAttr K t.a_Ring "columns_count"
 naR_rows_count : NoAttr K t.a_Ring "rows_count"
 naR_col_bits : NoAttr K t.a_Ring "col_bits"
 naR_row_bits : NoAttr K t.a_Ring "row_bits"
 F_isnumber : Fun K "is_number" "is_number" s_isnumber t.f_isnumber t.d_isnumber
 b_isnumber : Binds K t.d_isnumber ["value"] []
 mg_isnumber : mg "is_number" = some (.ref t.f_isnumber)
 F_isbelow : Fun K "is_below" "is_below" s_isbelow t.f_isbelow t.d_isbelow
 b_isbelow : Binds K t.d_isbelow ["value", "bound"] []
 mg_isbelow : mg "is_below" = some (.ref t.f_isbelow)
 F_isbit : Fun K "is_bit" "is_bit" s_isbit t.f_isbit t.d_isbit
 b_isbit : Binds K t.d_isbit ["value"] []
 mg_isbit : mg "is_bit" = some (.ref t.f_isbit)
 F_allbits : Fun K "all_bits" "all_bits" s_allbits t.f_allbits t.d_allbits
 b_allbits : Binds K t.d_allbits ["values"] []
 mg_allbits : mg "all_bits" = some (.ref t.f_allbits)
 F_isside : Fun K "is_side" "is_side" s_isside t.f_isside t.d_isside
 b_isside : Binds K t.d_isside ["count"] []
 mg_isside : mg "is_side" = some (.ref t.f_isside)
 F_isringside : Fun K "is_ring_side" "is_ring_side" s_isringside t.f_isringside t.d_isringside
 b_isringside : Binds K t.d_isringside ["count"] []
 mg_isringside : mg "is_ring_side" = some (.ref t.f_isringside)
 F_BoardInit : Fun K "__init__" "Board.__init__" s_BoardInit t.f_BoardInit t.d_BoardInit
 b_BoardInit : Binds K t.d_BoardInit ["self", "wide", "tall", "cols", "rows"] []
 cf_BoardInit : ClsFn K t.a_Board "__init__" t.f_BoardInit
 F_RingInit : Fun K "__init__" "Ring.__init__" s_RingInit t.f_RingInit t.d_RingInit
 b_RingInit : Binds K t.d_RingInit ["self", "cols", "rows"] []
 F_Ringwide : Fun K "wide" "Board.wide" s_Ringwide t.f_Ringwide t.d_Ringwide
 b_Ringwide : Binds K t.d_Ringwide ["self"] []
 m_Ringwide : Meth K t.a_Ring "wide" t.f_Ringwide
 F_Ringtall : Fun K "tall" "Board.tall" s_Ringtall t.f_Ringtall t.d_Ringtall
 b_Ringtall : Binds K t.d_Ringtall ["self"] []
 m_Ringtall : Meth K t.a_Ring "tall" t.f_Ringtall
 F_Ringbitsalong : Fun K "bits_along" "Board.bits_along" s_Ringbitsalong t.f_Ringbitsalong t.d_Ringbitsalong
 b_Ringbitsalong : Binds K t.d_Ringbitsalong ["self", "way"] []
 m_Ringbitsalong : Meth K t.a_Ring "bits_along" t.f_Ringbitsalong
 F_Ringbit : Fun K "bit" "Board.bit" s_Ringbit t.f_Ringbit t.d_Ringbit
 b_Ringbit : Binds K t.d_Ringbit ["self", "way", "k"] []
 m_Ringbit : Meth K t.a_Ring "bit" t.f_Ringbit
 F_Ringstitched : Fun K "stitched" "Board.stitched" s_Ringstitched t.f_Ringstitched t.d_Ringstitched
 b_Ringstitched : Binds K t.d_Ringstitched ["self", "way", "k", "step"] []
 m_Ringstitched : Meth K t.a_Ring "stitched" t.f_Ringstitched
 F_walk : Fun K "walk" "walk" s_walk t.f_walk t.d_walk
 b_walk : Binds K t.d_walk ["ring", "start"] []
 mg_walk : mg "walk" = some (.ref t.f_walk)
 F_roundat : Fun K "round_at" "round_at" s_roundat t.f_roundat t.d_roundat
 b_roundat : Binds K t.d_roundat ["ring", "point"] []
 mg_roundat : mg "round_at" = some (.ref t.f_roundat)
 F_ringrounds : Fun K "ring_rounds" "ring_rounds" s_ringrounds t.f_ringrounds t.d_ringrounds
 b_ringrounds : Binds K t.d_ringrounds ["ring"] []
 mg_ringrounds : mg "ring_rounds" = some (.ref t.f_ringrounds)
 F_Lmarks : Fun K "_law_marks" "_law_marks" s_Lmarks t.f_Lmarks t.d_Lmarks
 b_Lmarks : Binds K t.d_Lmarks ["_law_e"] []
 mg_Lmarks : mg "_law_marks" = some (.ref t.f_Lmarks)
 F_Ldraws : Fun K "_law_draws" "_law_draws" s_Ldraws t.f_Ldraws t.d_Ldraws
 b_Ldraws : Binds K t.d_Ldraws ["_law_script", "_law_many"] []
 mg_Ldraws : mg "_law_draws" = some (.ref t.f_Ldraws)
 F_Lbits : Fun K "_law_bits" "_law_bits" s_Lbits t.f_Lbits t.d_Lbits
 b_Lbits : Binds K t.d_Lbits ["_law_number", "_law_many"] []
 mg_Lbits : mg "_law_bits" = some (.ref t.f_Lbits)
 F_Lrow : Fun K "_law_row" "_law_row" s_Lrow t.f_Lrow t.d_Lrow
 b_Lrow : Binds K t.d_Lrow ["_law_some", "_law_many"] []
 mg_Lrow : mg "_law_row" = some (.ref t.f_Lrow)
 F_Lloop : Fun K "_law_loop" "_law_loop" s_Lloop t.f_Lloop t.d_Lloop
 b_Lloop : Binds K t.d_Lloop ["_law_some"] []
 mg_Lloop : mg "_law_loop" = some (.ref t.f_Lloop)
 F_Lring : Fun K "_law_ring" "_law_ring" s_Lring t.f_Lring t.d_Lring
 b_Lring : Binds K t.d_Lring ["_law_loop_here"] []
 mg_Lring : mg "_law_ring" = some (.ref t.f_Lring)
 F_Lonward : Fun K "_law_onward" "_law_onward" s_Lonward t.f_Lonward t.d_Lonward
 b_Lonward : Binds K t.d_Lonward ["_law_loop_here", "_law_point"] []
 mg_Lonward : mg "_law_onward" = some (.ref t.f_Lonward)
 F_Lgone : Fun K "_law_gone" "_law_gone" s_Lgone t.f_Lgone t.d_Lgone
 b_Lgone : Binds K t.d_Lgone ["_law_loop_here", "_law_point"] []
 mg_Lgone : mg "_law_gone" = some (.ref t.f_Lgone)
 F_Lgoneall : Fun K "_law_gone_all" "_law_gone_all" s_Lgoneall t.f_Lgoneall t.d_Lgoneall
 b_Lgoneall : Binds K t.d_Lgoneall ["_law_loop_here"] []
 mg_Lgoneall : mg "_law_gone_all" = some (.ref t.f_Lgoneall)
 F_Lsame : Fun K "_law_same" "_law_same" s_Lsame t.f_Lsame t.d_Lsame
 b_Lsame : Binds K t.d_Lsame ["_law_told", "_law_due_here"] []
 mg_Lsame : mg "_law_same" = some (.ref t.f_Lsame)
 F_Ldue : Fun K "_law_due" "_law_due" s_Ldue t.f_Ldue t.d_Ldue
 b_Ldue : Binds K t.d_Ldue ["_law_word"] []
 mg_Ldue : mg "_law_due" = some (.ref t.f_Ldue)
 F_Ltried : Fun K "_law_tried" "_law_tried" s_Ltried t.f_Ltried t.d_Ltried
 b_Ltried : Binds K t.d_Ltried ["_law_ring_here", "_law_point"] []
 mg_Ltried : mg "_law_tried" = some (.ref t.f_Ltried)
 F_law : Fun K "law" "law" s_law t.f_law t.d_law
 b_law : Binds K t.d_law ["_law_script"] []
 mg_law : mg "law" = some (.ref t.f_law)
 mg_SewError : mg "SewError" = some (.ref t.a_SewError)
 mg_BadSize : mg "BadSize" = some (.ref t.a_BadSize)
 mg_BadBit : mg "BadBit" = some (.ref t.a_BadBit)
 mg_NoCell : mg "NoCell" = some (.ref t.a_NoCell)
 mg_NoLine : mg "NoLine" = some (.ref t.a_NoLine)
 mg_NoStep : mg "NoStep" = some (.ref t.a_NoStep)
 mg_NoPoint : mg "NoPoint" = some (.ref t.a_NoPoint)
 x_BadSize : PySem.W.excIn K t.a_BadSize [.type "ValueError", .type "Exception", .type "BaseException", .type "object"] "ValueError.__new__" = true
 xi_BadSize : ExcIn K t.a_BadSize
 cat_BadSize : PySem.W.exmOne K (.ref t.a_BadSize) (.ref t.a_SewError) = some true
 x_BadBit : PySem.W.excIn K t.a_BadBit [.type "ValueError", .type "Exception", .type "BaseException", .type "object"] "ValueError.__new__" = true
 xi_BadBit : ExcIn K t.a_BadBit
 cat_BadBit : PySem.W.exmOne K (.ref t.a_BadBit) (.ref t.a_SewError) = some true
 x_NoLine : PySem.W.excIn K t.a_NoLine [.type "ValueError", .type "Exception", .type "BaseException", .type "object"] "ValueError.__new__" = true
 xi_NoLine : ExcIn K t.a_NoLine
 cat_NoLine : PySem.W.exmOne K (.ref t.a_NoLine) (.ref t.a_SewError) = some true
 x_NoStep : PySem.W.excIn K t.a_NoStep [.type "ValueError", .type "Exception", .type "BaseException", .type "object"] "ValueError.__new__" = true
 xi_NoStep : ExcIn K t.a_NoStep
 cat_NoStep : PySem.W.exmOne K (.ref t.a_NoStep) (.ref t.a_SewError) = some true
 x_NoPoint : PySem.W.excIn K t.a_NoPoint [.type "ValueError", .type "Exception", .type "BaseException", .type "object"] "ValueError.__new__" = true
 xi_NoPoint : ExcIn K t.a_NoPoint
 cat_NoPoint : PySem.W.exmOne K (.ref t.a_NoPoint) (.ref t.a_SewError) = some true
 kt_NoPoint_BadSize : PySem.W.kitOne K (.ref t.a_NoPoint) (.ref t.a_BadSize) = some false
 kt_NoPoint_BadBit : PySem.W.kitOne K (.ref t.a_NoPoint) (.ref t.a_BadBit) = some false
 kt_NoPoint_NoCell : PySem.W.kitOne K (.ref t.a_NoPoint) (.ref t.a_NoCell) = some false
 kt_NoPoint_NoLine : PySem.W.kitOne K (.ref t.a_NoPoint) (.ref t.a_NoLine) = some false
 kt_NoPoint_NoStep : PySem.W.kitOne K (.ref t.a_NoPoint) (.ref t.a_NoStep) = some false
 kt_NoPoint_NoPoint : PySem.W.kitOne K (.ref t.a_NoPoint) (.ref t.a_NoPoint) = some true
 kv_NoPoint : PySem.W.kitOne K (.ref t.a_NoPoint) (.type "ValueError") = some true
 mg_LONGEST_SIDE : mg "LONGEST_SIDE" = some (.int 40 t.tk_LONGEST_SIDE)
 no_isinstance : mg "isinstance" = none
 no_int : mg "int" = none
 no_bool : mg "bool" = none
 no_all : mg "all" = none
 no_len : mg "len" = none
 no_tuple : mg "tuple" = none
 no_list : mg "list" = none
 no_range : mg "range" = none
 no_abs : mg "abs" = none
 no_str : mg "str" = none
 no_zip : mg "zip" = none
 no_min : mg "min" = none
 no_ValueError : mg "ValueError" = none
theorem txt_mk {K : PySem.W.Frag} {h : Heap} {mg : Str → Option Value} (X : K.In h) (G : h.Ns mainGlobals mg) {C_Board : Addr} {C_Ring : Addr} {f_isnumber : Addr} {d_isnumber : FuncData} {f_isbelow : Addr} {d_isbelow : FuncData} {f_isbit : Addr} {d_isbit : FuncData} {f_allbits : Addr} {d_allbits : FuncData} {f_isside : Addr} {d_isside : FuncData} {f_isringside : Addr} {d_isringside : FuncData} {f_BoardInit : Addr} {d_BoardInit : FuncData} {f_RingInit : Addr} {d_RingInit : FuncData} {f_Ringwide : Addr} {d_Ringwide : FuncData} {f_Ringtall : Addr} {d_Ringtall : FuncData} {f_Ringbitsalong : Addr} {d_Ringbitsalong : FuncData} {f_Ringbit : Addr} {d_Ringbit : FuncData} {f_Ringstitched : Addr} {d_Ringstitched : FuncData} {f_walk : Addr} {d_walk : FuncData} {f_roundat : Addr} {d_roundat : FuncData} {f_ringrounds : Addr} {d_ringrounds : FuncData} {f_Lmarks : Addr} {d_Lmarks : FuncData} {f_Ldraws : Addr} {d_Ldraws : FuncData} {f_Lbits : Addr} {d_Lbits : FuncData} {f_Lrow : Addr} {d_Lrow : FuncData} {f_Lloop : Addr} {d_Lloop : FuncData} {f_Lring : Addr} {d_Lring : FuncData} {f_Lonward : Addr} {d_Lonward : FuncData} {f_Lgone : Addr} {d_Lgone : FuncData} {f_Lgoneall : Addr} {d_Lgoneall : FuncData} {f_Lsame : Addr} {d_Lsame : FuncData} {f_Ldue : Addr} {d_Ldue : FuncData} {f_Ltried : Addr} {d_Ltried : FuncData} {f_law : Addr} {d_law : FuncData} {C_SewError : Addr} {C_BadSize : Addr} {C_BadBit : Addr} {C_NoCell : Addr} {C_NoLine : Addr} {C_NoStep : Addr} {C_NoPoint : Addr} {tk_LONGEST_SIDE : Tok}
  (aC_Board : PySem.W.nsIn K mainGlobals "Board" = some (some (.ref C_Board)))
  (ga_Board : PySem.W.specialIn K (.ref C_Board) "__getattribute__" = some (some (.builtin "type.__getattribute__")))
  (rd_Board : PySem.W.readsIn K C_Board (.type "type") = true)
  (aC_Ring : PySem.W.nsIn K mainGlobals "Ring" = some (some (.ref C_Ring)))
  (pg_Ring : PySem.W.plainGet K C_Ring Str.empty = true)
  (hd_Ring : PySem.W.hasDictIn K C_Ring = true)
  (po_Ring : PySem.W.plainOver K C_Ring = true)
  (sa_Ring : PySem.W.findIn K (.ref C_Ring) "__setattr__" = some (some (.builtin "object.__setattr__")))
  (mk_Ring : PySem.W.makesIn K C_Ring = true)
  (kc_Ring : PySem.W.keepIn K (.ref C_Ring) = true)
  (naR_columns_count : PySem.W.findIn K (.ref C_Ring) "columns_count" = some none)
  (naR_rows_count : PySem.W.findIn K (.ref C_Ring) "rows_count" = some none)
  (naR_col_bits : PySem.W.findIn K (.ref C_Ring) "col_bits" = some none)
  (naR_row_bits : PySem.W.findIn K (.ref C_Ring) "row_bits" = some none)
  (a_isnumber : PySem.W.nsIn K mainGlobals "is_number" = some (some (.ref f_isnumber)))
  (F_isnumber : Fun K "is_number" "is_number" s_isnumber f_isnumber d_isnumber)
  (a_isbelow : PySem.W.nsIn K mainGlobals "is_below" = some (some (.ref f_isbelow)))
  (F_isbelow : Fun K "is_below" "is_below" s_isbelow f_isbelow d_isbelow)
  (a_isbit : PySem.W.nsIn K mainGlobals "is_bit" = some (some (.ref f_isbit)))
  (F_isbit : Fun K "is_bit" "is_bit" s_isbit f_isbit d_isbit)
  (a_allbits : PySem.W.nsIn K mainGlobals "all_bits" = some (some (.ref f_allbits)))
  (F_allbits : Fun K "all_bits" "all_bits" s_allbits f_allbits d_allbits)
  (a_isside : PySem.W.nsIn K mainGlobals "is_side" = some (some (.ref f_isside)))
  (F_isside : Fun K "is_side" "is_side" s_isside f_isside d_isside)
  (a_isringside : PySem.W.nsIn K mainGlobals "is_ring_side" = some (some (.ref f_isringside)))
  (F_isringside : Fun K "is_ring_side" "is_ring_side" s_isringside f_isringside d_isringside)
  (fc_BoardInit : PySem.W.findCls K (.ref C_Board) (.type "type") "__init__" = some (.val (.ref f_BoardInit)))
  (F_BoardInit : Fun K "__init__" "Board.__init__" s_BoardInit f_BoardInit d_BoardInit)
  (a_RingInit : PySem.W.findIn K (.ref C_Ring) "__init__" = some (some (.ref f_RingInit)))
  (i_RingInit : PySem.W.isFn K (.ref f_RingInit) = true)
  (F_RingInit : Fun K "__init__" "Ring.__init__" s_RingInit f_RingInit d_RingInit)
  (a_Ringwide : PySem.W.findIn K (.ref C_Ring) "wide" = some (some (.ref f_Ringwide)))
  (i_Ringwide : PySem.W.isFn K (.ref f_Ringwide) = true)
  (F_Ringwide : Fun K "wide" "Board.wide" s_Ringwide f_Ringwide d_Ringwide)
  (a_Ringtall : PySem.W.findIn K (.ref C_Ring) "tall" = some (some (.ref f_Ringtall)))
  (i_Ringtall : PySem.W.isFn K (.ref f_Ringtall) = true)
  (F_Ringtall : Fun K "tall" "Board.tall" s_Ringtall f_Ringtall d_Ringtall)
  (a_Ringbitsalong : PySem.W.findIn K (.ref C_Ring) "bits_along" = some (some (.ref f_Ringbitsalong)))
  (i_Ringbitsalong : PySem.W.isFn K (.ref f_Ringbitsalong) = true)
  (F_Ringbitsalong : Fun K "bits_along" "Board.bits_along" s_Ringbitsalong f_Ringbitsalong d_Ringbitsalong)
  (a_Ringbit : PySem.W.findIn K (.ref C_Ring) "bit" = some (some (.ref f_Ringbit)))
  (i_Ringbit : PySem.W.isFn K (.ref f_Ringbit) = true)
  (F_Ringbit : Fun K "bit" "Board.bit" s_Ringbit f_Ringbit d_Ringbit)
  (a_Ringstitched : PySem.W.findIn K (.ref C_Ring) "stitched" = some (some (.ref f_Ringstitched)))
  (i_Ringstitched : PySem.W.isFn K (.ref f_Ringstitched) = true)
  (F_Ringstitched : Fun K "stitched" "Board.stitched" s_Ringstitched f_Ringstitched d_Ringstitched)
  (a_walk : PySem.W.nsIn K mainGlobals "walk" = some (some (.ref f_walk)))
  (F_walk : Fun K "walk" "walk" s_walk f_walk d_walk)
  (a_roundat : PySem.W.nsIn K mainGlobals "round_at" = some (some (.ref f_roundat)))
  (F_roundat : Fun K "round_at" "round_at" s_roundat f_roundat d_roundat)
  (a_ringrounds : PySem.W.nsIn K mainGlobals "ring_rounds" = some (some (.ref f_ringrounds)))
  (F_ringrounds : Fun K "ring_rounds" "ring_rounds" s_ringrounds f_ringrounds d_ringrounds)
  (a_Lmarks : PySem.W.nsIn K mainGlobals "_law_marks" = some (some (.ref f_Lmarks)))
  (F_Lmarks : Fun K "_law_marks" "_law_marks" s_Lmarks f_Lmarks d_Lmarks)
  (a_Ldraws : PySem.W.nsIn K mainGlobals "_law_draws" = some (some (.ref f_Ldraws)))
  (F_Ldraws : Fun K "_law_draws" "_law_draws" s_Ldraws f_Ldraws d_Ldraws)
  (a_Lbits : PySem.W.nsIn K mainGlobals "_law_bits" = some (some (.ref f_Lbits)))
  (F_Lbits : Fun K "_law_bits" "_law_bits" s_Lbits f_Lbits d_Lbits)
  (a_Lrow : PySem.W.nsIn K mainGlobals "_law_row" = some (some (.ref f_Lrow)))
  (F_Lrow : Fun K "_law_row" "_law_row" s_Lrow f_Lrow d_Lrow)
  (a_Lloop : PySem.W.nsIn K mainGlobals "_law_loop" = some (some (.ref f_Lloop)))
  (F_Lloop : Fun K "_law_loop" "_law_loop" s_Lloop f_Lloop d_Lloop)
  (a_Lring : PySem.W.nsIn K mainGlobals "_law_ring" = some (some (.ref f_Lring)))
  (F_Lring : Fun K "_law_ring" "_law_ring" s_Lring f_Lring d_Lring)
  (a_Lonward : PySem.W.nsIn K mainGlobals "_law_onward" = some (some (.ref f_Lonward)))
  (F_Lonward : Fun K "_law_onward" "_law_onward" s_Lonward f_Lonward d_Lonward)
  (a_Lgone : PySem.W.nsIn K mainGlobals "_law_gone" = some (some (.ref f_Lgone)))
  (F_Lgone : Fun K "_law_gone" "_law_gone" s_Lgone f_Lgone d_Lgone)
  (a_Lgoneall : PySem.W.nsIn K mainGlobals "_law_gone_all" = some (some (.ref f_Lgoneall)))
  (F_Lgoneall : Fun K "_law_gone_all" "_law_gone_all" s_Lgoneall f_Lgoneall d_Lgoneall)
  (a_Lsame : PySem.W.nsIn K mainGlobals "_law_same" = some (some (.ref f_Lsame)))
  (F_Lsame : Fun K "_law_same" "_law_same" s_Lsame f_Lsame d_Lsame)
  (a_Ldue : PySem.W.nsIn K mainGlobals "_law_due" = some (some (.ref f_Ldue)))
  (F_Ldue : Fun K "_law_due" "_law_due" s_Ldue f_Ldue d_Ldue)
  (a_Ltried : PySem.W.nsIn K mainGlobals "_law_tried" = some (some (.ref f_Ltried)))
  (F_Ltried : Fun K "_law_tried" "_law_tried" s_Ltried f_Ltried d_Ltried)
  (a_law : PySem.W.nsIn K mainGlobals "law" = some (some (.ref f_law)))
  (F_law : Fun K "law" "law" s_law f_law d_law)
  (aX_SewError : PySem.W.nsIn K mainGlobals "SewError" = some (some (.ref C_SewError)))
  (aX_BadSize : PySem.W.nsIn K mainGlobals "BadSize" = some (some (.ref C_BadSize)))
  (aX_BadBit : PySem.W.nsIn K mainGlobals "BadBit" = some (some (.ref C_BadBit)))
  (aX_NoCell : PySem.W.nsIn K mainGlobals "NoCell" = some (some (.ref C_NoCell)))
  (aX_NoLine : PySem.W.nsIn K mainGlobals "NoLine" = some (some (.ref C_NoLine)))
  (aX_NoStep : PySem.W.nsIn K mainGlobals "NoStep" = some (some (.ref C_NoStep)))
  (aX_NoPoint : PySem.W.nsIn K mainGlobals "NoPoint" = some (some (.ref C_NoPoint)))
  (bb : PySem.W.subIn K (.ref C_SewError) (.type "BaseException") = some true)
  (bm : PySem.W.mroIn K C_SewError (.type "object") = some true)
  (bt : PySem.W.typeIn K (.ref C_SewError) = some (.type "type"))
  (ogs : PySem.W.specialIn K (.builtin "object.__class__") "__get__" = some (some (.builtin "getset_descriptor.__get__")))
  (otk : PySem.W.takesIn K (.builtin "object.__class__") = some true)
  (x_BadSize : PySem.W.excIn K C_BadSize [.type "ValueError", .type "Exception", .type "BaseException", .type "object"] "ValueError.__new__" = true)
  (ga_BadSize : PySem.W.findIn K (.ref C_BadSize) "__getattribute__" = some (some (.builtin "BaseException.__getattribute__")))
  (gt_BadSize : PySem.W.findIn K (.ref C_BadSize) "__getattr__" = some none)
  (gc_BadSize : PySem.W.findIn K (.ref C_BadSize) "__class__" = some (some (.builtin "object.__class__")))
  (go_BadSize : PySem.W.mroIn K C_BadSize (.type "object") = some true)
  (gb_BadSize : PySem.W.mroIn K C_BadSize (.type "BaseException") = some true)
  (sb_BadSize : PySem.W.subIn K (.ref C_BadSize) (.ref C_SewError) = some true)
  (x_BadBit : PySem.W.excIn K C_BadBit [.type "ValueError", .type "Exception", .type "BaseException", .type "object"] "ValueError.__new__" = true)
  (ga_BadBit : PySem.W.findIn K (.ref C_BadBit) "__getattribute__" = some (some (.builtin "BaseException.__getattribute__")))
  (gt_BadBit : PySem.W.findIn K (.ref C_BadBit) "__getattr__" = some none)
  (gc_BadBit : PySem.W.findIn K (.ref C_BadBit) "__class__" = some (some (.builtin "object.__class__")))
  (go_BadBit : PySem.W.mroIn K C_BadBit (.type "object") = some true)
  (gb_BadBit : PySem.W.mroIn K C_BadBit (.type "BaseException") = some true)
  (sb_BadBit : PySem.W.subIn K (.ref C_BadBit) (.ref C_SewError) = some true)
  (x_NoLine : PySem.W.excIn K C_NoLine [.type "ValueError", .type "Exception", .type "BaseException", .type "object"] "ValueError.__new__" = true)
  (ga_NoLine : PySem.W.findIn K (.ref C_NoLine) "__getattribute__" = some (some (.builtin "BaseException.__getattribute__")))
  (gt_NoLine : PySem.W.findIn K (.ref C_NoLine) "__getattr__" = some none)
  (gc_NoLine : PySem.W.findIn K (.ref C_NoLine) "__class__" = some (some (.builtin "object.__class__")))
  (go_NoLine : PySem.W.mroIn K C_NoLine (.type "object") = some true)
  (gb_NoLine : PySem.W.mroIn K C_NoLine (.type "BaseException") = some true)
  (sb_NoLine : PySem.W.subIn K (.ref C_NoLine) (.ref C_SewError) = some true)
  (x_NoStep : PySem.W.excIn K C_NoStep [.type "ValueError", .type "Exception", .type "BaseException", .type "object"] "ValueError.__new__" = true)
  (ga_NoStep : PySem.W.findIn K (.ref C_NoStep) "__getattribute__" = some (some (.builtin "BaseException.__getattribute__")))
  (gt_NoStep : PySem.W.findIn K (.ref C_NoStep) "__getattr__" = some none)
  (gc_NoStep : PySem.W.findIn K (.ref C_NoStep) "__class__" = some (some (.builtin "object.__class__")))
  (go_NoStep : PySem.W.mroIn K C_NoStep (.type "object") = some true)
  (gb_NoStep : PySem.W.mroIn K C_NoStep (.type "BaseException") = some true)
  (sb_NoStep : PySem.W.subIn K (.ref C_NoStep) (.ref C_SewError) = some true)
  (x_NoPoint : PySem.W.excIn K C_NoPoint [.type "ValueError", .type "Exception", .type "BaseException", .type "object"] "ValueError.__new__" = true)
  (ga_NoPoint : PySem.W.findIn K (.ref C_NoPoint) "__getattribute__" = some (some (.builtin "BaseException.__getattribute__")))
  (gt_NoPoint : PySem.W.findIn K (.ref C_NoPoint) "__getattr__" = some none)
  (gc_NoPoint : PySem.W.findIn K (.ref C_NoPoint) "__class__" = some (some (.builtin "object.__class__")))
  (go_NoPoint : PySem.W.mroIn K C_NoPoint (.type "object") = some true)
  (gb_NoPoint : PySem.W.mroIn K C_NoPoint (.type "BaseException") = some true)
  (sb_NoPoint : PySem.W.subIn K (.ref C_NoPoint) (.ref C_SewError) = some true)
  (kt_NoPoint_BadSize : PySem.W.kitOne K (.ref C_NoPoint) (.ref C_BadSize) = some false)
  (kt_NoPoint_BadBit : PySem.W.kitOne K (.ref C_NoPoint) (.ref C_BadBit) = some false)
  (kt_NoPoint_NoCell : PySem.W.kitOne K (.ref C_NoPoint) (.ref C_NoCell) = some false)
  (kt_NoPoint_NoLine : PySem.W.kitOne K (.ref C_NoPoint) (.ref C_NoLine) = some false)
  (kt_NoPoint_NoStep : PySem.W.kitOne K (.ref C_NoPoint) (.ref C_NoStep) = some false)
  (kt_NoPoint_NoPoint : PySem.W.kitOne K (.ref C_NoPoint) (.ref C_NoPoint) = some true)
  (kv_NoPoint : PySem.W.kitOne K (.ref C_NoPoint) (.type "ValueError") = some true)
  (v_LONGEST_SIDE : PySem.W.nsIn K mainGlobals "LONGEST_SIDE" = some (some (.int 40 tk_LONGEST_SIDE)))
  (z_isinstance : PySem.W.nsIn K mainGlobals "isinstance" = some none)
  (z_int : PySem.W.nsIn K mainGlobals "int" = some none)
  (z_bool : PySem.W.nsIn K mainGlobals "bool" = some none)
  (z_all : PySem.W.nsIn K mainGlobals "all" = some none)
  (z_len : PySem.W.nsIn K mainGlobals "len" = some none)
  (z_tuple : PySem.W.nsIn K mainGlobals "tuple" = some none)
  (z_list : PySem.W.nsIn K mainGlobals "list" = some none)
  (z_range : PySem.W.nsIn K mainGlobals "range" = some none)
  (z_abs : PySem.W.nsIn K mainGlobals "abs" = some none)
  (z_str : PySem.W.nsIn K mainGlobals "str" = some none)
  (z_zip : PySem.W.nsIn K mainGlobals "zip" = some none)
  (z_min : PySem.W.nsIn K mainGlobals "min" = some none)
  (z_ValueError : PySem.W.nsIn K mainGlobals "ValueError" = some none) : ∃ t : Ad, Txt K mg t :=
 ⟨{ a_Board := C_Board, a_Ring := C_Ring, f_isnumber := f_isnumber, d_isnumber := d_isnumber, f_isbelow := f_isbelow, d_isbelow := d_isbelow, f_isbit := f_isbit, d_isbit := d_isbit, f_allbits := f_allbits, d_allbits := d_allbits, f_isside := f_isside, d_isside := d_isside, f_isringside := f_isringside, d_isringside := d_isringside, f_BoardInit := f_BoardInit, d_BoardInit := d_BoardInit, f_RingInit := f_RingInit, d_RingInit := d_RingInit, f_Ringwide := f_Ringwide, d_Ringwide := d_Ringwide, f_Ringtall := f_Ringtall, d_Ringtall := d_Ringtall, f_Ringbitsalong := f_Ringbitsalong, d_Ringbitsalong := d_Ringbitsalong, f_Ringbit := f_Ringbit, d_Ringbit := d_Ringbit, f_Ringstitched := f_Ringstitched, d_Ringstitched := d_Ringstitched, f_walk := f_walk, d_walk := d_walk, f_roundat := f_roundat, d_roundat := d_roundat, f_ringrounds := f_ringrounds, d_ringrounds := d_ringrounds, f_Lmarks := f_Lmarks, d_Lmarks := d_Lmarks, f_Ldraws := f_Ldraws, d_Ldraws := d_Ldraws, f_Lbits := f_Lbits, d_Lbits := d_Lbits, f_Lrow := f_Lrow, d_Lrow := d_Lrow, f_Lloop := f_Lloop, d_Lloop := d_Lloop, f_Lring := f_Lring, d_Lring := d_Lring, f_Lonward := f_Lonward, d_Lonward := d_Lonward, f_Lgone := f_Lgone, d_Lgone := d_Lgone, f_Lgoneall := f_Lgoneall, d_Lgoneall := d_Lgoneall, f_Lsame := f_Lsame, d_Lsame := d_Lsame, f_Ldue := f_Ldue, d_Ldue := d_Ldue, f_Ltried := f_Ltried, d_Ltried := d_Ltried, f_law := f_law, d_law := d_law, a_SewError := C_SewError, a_BadSize := C_BadSize, a_BadBit := C_BadBit, a_NoCell := C_NoCell, a_NoLine := C_NoLine, a_NoStep := C_NoStep, a_NoPoint := C_NoPoint, tk_LONGEST_SIDE := tk_LONGEST_SIDE }, ⟨PySem.W.mg_of X G aC_Board, PySem.W.mg_of X G aC_Ring, ⟨pg_Ring, hd_Ring, po_Ring, sa_Ring⟩, ⟨mk_Ring, a_RingInit, i_RingInit, kc_Ring⟩, naR_columns_count, naR_rows_count, naR_col_bits, naR_row_bits, F_isnumber, F_isnumber.b1 fun _ _ _ _ _ _ _ => rfl, PySem.W.mg_of X G a_isnumber, F_isbelow, F_isbelow.b2 fun _ _ _ _ _ _ _ _ => rfl, PySem.W.mg_of X G a_isbelow, F_isbit, F_isbit.b1 fun _ _ _ _ _ _ _ => rfl, PySem.W.mg_of X G a_isbit, F_allbits, F_allbits.b1 fun _ _ _ _ _ _ _ => rfl, PySem.W.mg_of X G a_allbits, F_isside, F_isside.b1 fun _ _ _ _ _ _ _ => rfl, PySem.W.mg_of X G a_isside, F_isringside, F_isringside.b1 fun _ _ _ _ _ _ _ => rfl, PySem.W.mg_of X G a_isringside, F_BoardInit, F_BoardInit.b5 fun _ _ _ _ _ _ _ _ _ _ _ => rfl, ⟨ga_Board, rd_Board, fc_BoardInit, F_BoardInit.kp⟩, F_RingInit, F_RingInit.b3 fun _ _ _ _ _ _ _ _ _ => rfl, F_Ringwide, F_Ringwide.b1 fun _ _ _ _ _ _ _ => rfl, ⟨a_Ringwide, i_Ringwide, F_Ringwide.kp⟩, F_Ringtall, F_Ringtall.b1 fun _ _ _ _ _ _ _ => rfl, ⟨a_Ringtall, i_Ringtall, F_Ringtall.kp⟩, F_Ringbitsalong, F_Ringbitsalong.b2 fun _ _ _ _ _ _ _ _ => rfl, ⟨a_Ringbitsalong, i_Ringbitsalong, F_Ringbitsalong.kp⟩, F_Ringbit, F_Ringbit.b3 fun _ _ _ _ _ _ _ _ _ => rfl, ⟨a_Ringbit, i_Ringbit, F_Ringbit.kp⟩, F_Ringstitched, F_Ringstitched.b4 fun _ _ _ _ _ _ _ _ _ _ => rfl, ⟨a_Ringstitched, i_Ringstitched, F_Ringstitched.kp⟩, F_walk, F_walk.b2 fun _ _ _ _ _ _ _ _ => rfl, PySem.W.mg_of X G a_walk, F_roundat, F_roundat.b2 fun _ _ _ _ _ _ _ _ => rfl, PySem.W.mg_of X G a_roundat, F_ringrounds, F_ringrounds.b1 fun _ _ _ _ _ _ _ => rfl, PySem.W.mg_of X G a_ringrounds, F_Lmarks, F_Lmarks.b1 fun _ _ _ _ _ _ _ => rfl, PySem.W.mg_of X G a_Lmarks, F_Ldraws, F_Ldraws.b2 fun _ _ _ _ _ _ _ _ => rfl, PySem.W.mg_of X G a_Ldraws, F_Lbits, F_Lbits.b2 fun _ _ _ _ _ _ _ _ => rfl, PySem.W.mg_of X G a_Lbits, F_Lrow, F_Lrow.b2 fun _ _ _ _ _ _ _ _ => rfl, PySem.W.mg_of X G a_Lrow, F_Lloop, F_Lloop.b1 fun _ _ _ _ _ _ _ => rfl, PySem.W.mg_of X G a_Lloop, F_Lring, F_Lring.b1 fun _ _ _ _ _ _ _ => rfl, PySem.W.mg_of X G a_Lring, F_Lonward, F_Lonward.b2 fun _ _ _ _ _ _ _ _ => rfl, PySem.W.mg_of X G a_Lonward, F_Lgone, F_Lgone.b2 fun _ _ _ _ _ _ _ _ => rfl, PySem.W.mg_of X G a_Lgone, F_Lgoneall, F_Lgoneall.b1 fun _ _ _ _ _ _ _ => rfl, PySem.W.mg_of X G a_Lgoneall, F_Lsame, F_Lsame.b2 fun _ _ _ _ _ _ _ _ => rfl, PySem.W.mg_of X G a_Lsame, F_Ldue, F_Ldue.b1 fun _ _ _ _ _ _ _ => rfl, PySem.W.mg_of X G a_Ldue, F_Ltried, F_Ltried.b2 fun _ _ _ _ _ _ _ _ => rfl, PySem.W.mg_of X G a_Ltried, F_law, F_law.b1 fun _ _ _ _ _ _ _ => rfl, PySem.W.mg_of X G a_law, PySem.W.mg_of X G aX_SewError, PySem.W.mg_of X G aX_BadSize, PySem.W.mg_of X G aX_BadBit, PySem.W.mg_of X G aX_NoCell, PySem.W.mg_of X G aX_NoLine, PySem.W.mg_of X G aX_NoStep, PySem.W.mg_of X G aX_NoPoint, x_BadSize, ⟨ga_BadSize, gt_BadSize, gc_BadSize, ogs, otk, go_BadSize, gb_BadSize⟩, exm_of bb bm bt sb_BadSize, x_BadBit, ⟨ga_BadBit, gt_BadBit, gc_BadBit, ogs, otk, go_BadBit, gb_BadBit⟩, exm_of bb bm bt sb_BadBit, x_NoLine, ⟨ga_NoLine, gt_NoLine, gc_NoLine, ogs, otk, go_NoLine, gb_NoLine⟩, exm_of bb bm bt sb_NoLine, x_NoStep, ⟨ga_NoStep, gt_NoStep, gc_NoStep, ogs, otk, go_NoStep, gb_NoStep⟩, exm_of bb bm bt sb_NoStep, x_NoPoint, ⟨ga_NoPoint, gt_NoPoint, gc_NoPoint, ogs, otk, go_NoPoint, gb_NoPoint⟩, exm_of bb bm bt sb_NoPoint, kt_NoPoint_BadSize, kt_NoPoint_BadBit, kt_NoPoint_NoCell, kt_NoPoint_NoLine, kt_NoPoint_NoStep, kt_NoPoint_NoPoint, kv_NoPoint, PySem.W.mg_of X G v_LONGEST_SIDE, PySem.W.mg_none_of X G z_isinstance, PySem.W.mg_none_of X G z_int, PySem.W.mg_none_of X G z_bool, PySem.W.mg_none_of X G z_all, PySem.W.mg_none_of X G z_len, PySem.W.mg_none_of X G z_tuple, PySem.W.mg_none_of X G z_list, PySem.W.mg_none_of X G z_range, PySem.W.mg_none_of X G z_abs, PySem.W.mg_none_of X G z_str, PySem.W.mg_none_of X G z_zip, PySem.W.mg_none_of X G z_min, PySem.W.mg_none_of X G z_ValueError⟩⟩
local macro_rules | `(tactic| walk_at "rd1") => `(tactic| first
 | ((with_reducible refine' rd_var (v := ?kv) ?ke ?kh); (case ke => exact rfl))
 | (with_reducible refine rd_seqA fun _ _ => ?_) | (with_reducible refine rd_asg ?_) | (with_reducible refine rd_name ?_) | (with_reducible refine rd_ret ?_) | (with_reducible refine rd_retN ?_) | (with_reducible refine rd_drop ?_)
 | (with_reducible refine rd_ifS ?_) | (with_reducible refine rd_tB ?_) | (with_reducible refine rd_tTest ?_) | (with_reducible refine rd_exbl ?_) | (with_reducible refine rd_c ?_) | (with_reducible refine rd_op ?_) | (with_reducible refine rd_un ?_)
 | (with_reducible refine rd_andV ?_) | (with_reducible refine rd_orV ?_) | (with_reducible refine rd_notV ?_) | (with_reducible refine rd_and ?_) | (with_reducible refine rd_or ?_) | (with_reducible refine rd_not ?_) | (with_reducible refine rd_if ?_) | (with_reducible refine rd_true ?_)
 | (with_reducible refine rd_I0 ?_) | (with_reducible refine rd_U ?_) | (with_reducible refine rd_eqI ?_) | (with_reducible refine rd_neI ?_) | (with_reducible refine rd_eqS ?_) | (with_reducible refine rd_eqB ?_) | (with_reducible refine rd_neB ?_)
 | (with_reducible refine rd_chain ?_) | (with_reducible refine rd_call ?_) | (with_reducible refine rd_nil ?_) | (with_reducible refine rd_cons ?_) | (with_reducible refine rd_CB ?_) | (with_reducible refine rd_tup ?_) | (with_reducible refine rd_lst ?_)
 | (with_reducible refine rd_next ?_) | ((with_reducible refine' rd_aug (x := ?kv) ?ke ?kh); (case ke => exact rfl)) | (with_reducible refine rd_ipI ?_) | (with_reducible refine rd_gcons ?_) | (with_reducible refine rd_gnil ?_) | (with_reducible refine rd_gsub ?_) | (with_reducible refine rd_sfld ?_) | (with_reducible refine rd_while ?_) | (with_reducible refine rd_comp ?_) | (with_reducible refine rd_fld ?_) | (with_reducible refine rd_meth ?_) | (with_reducible refine rd_make ?_) | (with_reducible refine rd_raise ?_) | (with_reducible refine rd_try ?_) | (with_reducible refine rd_callS ?_) | (with_reducible refine rd_methS ?_) | (with_reducible refine rd_makeS ?_) | (with_reducible refine rd_bm ?_) | (with_reducible refine rd_bm0 ?_) | (with_reducible refine rd_sl ?_) | (with_reducible refine rd_nopart ?_) | (with_reducible refine rd_part ?_) | (with_reducible refine rd_exint ?_) | (with_reducible refine rd_exref ?_)
 | (with_reducible refine rd_abs ?_) | (with_reducible refine rd_min2 ?_) | (with_reducible refine rd_max2 ?_) | (with_reducible refine rd_intB ?_) | (with_reducible refine rd_for ?_) | (with_reducible refine rd_rng1 ?_) | (with_reducible refine rd_ilist ?_) | (with_reducible refine rd_itup ?_) | (with_reducible refine rd_izipS ?_) | (with_reducible refine iteT ?_) | (with_reducible refine iteF ?_) | (with_reducible refine if_true_do ?_) | (with_reducible refine iteNN ?_) | (with_reducible refine iteTA ?_) | (with_reducible refine iteFA ?_) | ((with_reducible refine' rd_cut (r := ?kr) ?ke ?kh); (case ke => assumption)) | (dsimp only))
local macro_rules | `(tactic| walk_at "rd") => `(tactic| repeat walk_at "rd1")
section
variable {P : Program} {w : World} {K : PySem.W.Frag} {mg : Str → Option Value} {base : Heap} {t : Ad}
def isBit (i : Int) : Bool := decide (0 ≤ i) && decide (i < 2)
def sp_isnumber : Sp := fun vs H Q _ => ∃ i, vs = [.int i] ∧ Q (.bl true) H
theorem ok_isnumber (T : Txt K mg t) : FnOk P w K mg base CX0 1 t.f_isnumber t.d_isnumber ["value"] sp_isnumber := by
 refine T.F_isnumber.ok sc_isnumber (fun vs H Q E h => ?_) (fun cdv A outer s H vs Q E hr h => ?_)
 ·obtain ⟨i, rfl, _⟩ := h; rfl
 ·obtain ⟨i, rfl, k⟩ := h
  refine ⟨_, (pss_one (ps_ret (pe_and (pe_callB (cI_isinstK K rfl) rfl T.no_isinstance (by rfl) (pa_cons (pv 0) (pa_cons (pe_bltn (v := .ty "int") rfl T.no_int (by rfl : bootBuiltins "int" = some (.type "int")) rfl) pa_nil))) (pe_one (pe_not (pe_callB (cI_isinstK K rfl) rfl T.no_isinstance (by rfl) (pa_cons (pv 0) (pa_cons (pe_bltn (v := .ty "bool") rfl T.no_bool (by rfl : bootBuiltins "bool" = some (.type "bool")) rfl) pa_nil)))))))), ?_⟩
  walk_at "rd"
  refine rd_isi (.int i) kit_ii ?_
  walk_at "rd"
  refine rd_isi (.int i) kit_ib ?_
  walk_at "rd"
  exact k
def sp_isbelow : Sp := fun vs H Q _ => ∃ i b, vs = [.int i, .int b] ∧ Q (.bl (decide (0 ≤ i) && decide (i < b))) H
theorem ok_isbelow (T : Txt K mg t) : FnOk P w K mg base CX0 2 t.f_isbelow t.d_isbelow ["value", "bound"] sp_isbelow := by
 have G_isnumber := ok_isnumber (P := P) (w := w) (base := base) T
 refine T.F_isbelow.ok sc_isbelow (fun vs H Q E h => ?_) (fun cdv A outer s H vs Q E hr h => ?_)
 ·obtain ⟨i, b, rfl, _⟩ := h; rfl
 ·obtain ⟨i, b, rfl, k⟩ := h
  refine ⟨_, (pss_one (ps_ret (pe_and (pe_call G_isnumber (hr.mono (by first | decide | omega)) rfl T.mg_isnumber T.F_isnumber.kp T.b_isnumber .nil pass0 (pa_cons (pv 0) pa_nil)) (pe_one (pe_chain op_le op_lt pe_int (pv 0) (pv 1)))))), ?_⟩
  walk_at "rd"
  refine ⟨i, rfl, ?_⟩
  walk_at "rd"
  refine ite2 (fun h0 => ?_) (fun h0 => ?_)
  ·walk_at "rd"
   rw [h0] at k
   exact k
  ·rw [Bool.not_eq_true] at h0
   rw [h0] at k
   exact k
def sp_isbit : Sp := fun vs H Q _ => ∃ i, vs = [.int i] ∧ Q (.bl (isBit i)) H
theorem ok_isbit (T : Txt K mg t) : FnOk P w K mg base CX0 3 t.f_isbit t.d_isbit ["value"] sp_isbit := by
 have G_isbelow := ok_isbelow (P := P) (w := w) (base := base) T
 refine T.F_isbit.ok sc_isbit (fun vs H Q E h => ?_) (fun cdv A outer s H vs Q E hr h => ?_)
 ·obtain ⟨i, rfl, _⟩ := h; rfl
 ·obtain ⟨i, rfl, k⟩ := h
  refine ⟨_, (pss_one (ps_ret (pe_call G_isbelow (hr.mono (by first | decide | omega)) rfl T.mg_isbelow T.F_isbelow.kp T.b_isbelow .nil pass0 (pa_cons (pv 0) (pa_cons pe_int pa_nil))))), ?_⟩
  walk_at "rd"
  exact ⟨i, 2, rfl, k⟩
def isSide (n : Int) : Bool := decide (0 < n) && decide (n < 41)
def sp_isside : Sp := fun vs H Q _ => ∃ i, vs = [.int i] ∧ Q (.bl (isSide i)) H
theorem ok_isside (T : Txt K mg t) : FnOk P w K mg base CX0 3 t.f_isside t.d_isside ["count"] sp_isside := by
  have G_isbelow := ok_isbelow (P := P) (w := w) (base := base) T
  refine T.F_isside.ok sc_isside (fun vs H Q E h => ?_) (fun cdv A outer s H vs Q E hr h => ?_)
  · obtain ⟨i, rfl, _⟩ := h; rfl
  · obtain ⟨i, rfl, k⟩ := h
    refine ⟨_, (pss_one (ps_ret (pe_and (pe_call G_isbelow (hr.mono (by first | decide | omega)) rfl T.mg_isbelow T.F_isbelow.kp T.b_isbelow .nil pass0 (pa_cons (pv 0) (pa_cons (pe_op op_add (pe_glob (v := .int 40) rfl T.mg_LONGEST_SIDE ⟨_, rfl⟩) pe_int) pa_nil))) (pe_one (pe_cmpR op_gt (pv 0) pe_int (nomark _)))))), ?_⟩
    walk_at "rd"
    refine ⟨i, _, rfl, ?_⟩
    walk_at "rd"
    refine ite2 (fun h0 => ?_) (fun h0 => ?_)
    · walk_at "rd"
      have e : isSide i = decide (0 < i) := by
        rw [Bool.and_eq_true, decide_eq_true_eq, decide_eq_true_eq] at h0
        unfold isSide
        rw [decide_eq_true (by omega : i < 41), Bool.and_true]
      rw [e] at k
      exact k
    · have e : isSide i = false := by
        rw [Bool.and_eq_true, decide_eq_true_eq, decide_eq_true_eq] at h0
        unfold isSide
        by_cases hi : 0 < i
        · rw [decide_eq_false (by omega : ¬ i < 41), Bool.and_false]
        · rw [decide_eq_false hi, Bool.false_and]
      rw [e] at k
      exact k
end
section
variable {P : Program} {w : World} {K : PySem.W.Frag} {mg : Str → Option Value} {base : Heap} {t : Ad}
def sp_allbits : Sp := fun vs H Q _ => ∃ (p : Addr) (ns : List Int), vs = [.ref p] ∧ H p = some (.lst (ns.map V.int)) ∧ ns.length ≤ 1000 ∧ ∀ H', Same H H' → Q (.bl (ns.all isBit)) H'
theorem ok_allbits (T : Txt K mg t) : FnOk P w K mg base CX0 4 t.f_allbits t.d_allbits ["values"] sp_allbits := by
 have G_isbit := ok_isbit (P := P) (w := w) (base := base) T
 refine T.F_allbits.ok sc_allbits (fun vs H Q E h => ?_) (fun cdv A outer s H vs Q E hr h => ?_)
 ·obtain ⟨p, ns, rfl, _⟩ := h; rfl
 ·obtain ⟨p, ns, rfl, hp, hl, k⟩ := h
  refine ⟨_, (pss_one (ps_ret (pe_callB (cI_allK K rfl rfl) rfl T.no_all (by rfl) (pa_cons (pe_comp (N := ["value"]) (cap := [none]) rfl ⟨rfl, rfl, rfl, rfl, rfl, rfl⟩ (pi_list (pv 0)) (fun _ _ _ => (pg_name (i := 0) (show (["value"] : List Str).Nodup by decide +kernel) rfl (Or.inl rfl))) (fun _ _ _ => pts_nil) (fun _ _ _ => (pe_call G_isbit (hr.mono (by first | decide | omega)) rfl T.mg_isbit T.F_isbit.kp T.b_isbit .nil pass0 (pa_cons (pv 0) pa_nil)))) pa_nil)))), ?_⟩
  walk_at "rd"
  refine ⟨⟨_, SqL.of hp⟩, fun l hn => ?_⟩
  refine compW_list (fun v => match v with | .int i => .bl (isBit i) | _ => .non) (SqL.of hp) (by rw [List.length_map]; exact hl) hn (fun x o H' Q' hx s1 q => ?_) (fun H' s1 e => ?_)
  ·obtain ⟨i, _, rfl⟩ := List.mem_map.mp hx
   walk_at "rd"
   exact ⟨i, rfl, q H' (Same.refl _)⟩
  ·walk_at "rd"
   have e' : H' l = some (.lst ((ns.map isBit).map V.bl)) := by rw [e, List.map_map, List.map_map]; rfl
   refine rd_all e' ?_
   rw [List.all_map]
   exact k H' s1
def bfl (a b : Addr) (w h : Int) : List (Str × V) := putF "row_bits" (.ref b) (putF "col_bits" (.ref a) (putF "rows_count" (.int h) (putF "columns_count" (.int w) [])))
abbrev NoF (m : Str) : Prop := ((¬ m = "first_colour") ∧ ¬ m = "col_bits") ∧ (¬ m = "row_bits") ∧ (¬ m = "columns_count") ∧ ¬ m = "rows_count"
theorem bfl_w {w h : Int} (a b : Addr) : (bfl a b w h).lookup ("columns_count" : Str) = some (.int w) := by
 unfold bfl; rw [lookup_putF, if_neg (by decide +kernel), lookup_putF, if_neg (by decide +kernel), lookup_putF, if_neg (by decide +kernel), lookup_putF, if_pos rfl]
theorem bfl_h {w h : Int} (a b : Addr) : (bfl a b w h).lookup ("rows_count" : Str) = some (.int h) := by
 unfold bfl; rw [lookup_putF, if_neg (by decide +kernel), lookup_putF, if_neg (by decide +kernel), lookup_putF, if_pos rfl]
theorem bfl_c {w h : Int} (a b : Addr) : (bfl a b w h).lookup ("col_bits" : Str) = some (.ref a) := by
 unfold bfl; rw [lookup_putF, if_neg (by decide +kernel), lookup_putF, if_pos rfl]
theorem bfl_r {w h : Int} (a b : Addr) : (bfl a b w h).lookup ("row_bits" : Str) = some (.ref b) := by
 unfold bfl; rw [lookup_putF, if_pos rfl]
theorem bfl_no {w h : Int} (a b : Addr) {m : Str} (n : NoF m) : (bfl a b w h).lookup m = none := by
 obtain ⟨⟨n1, n2⟩, n3, n4, n5⟩ := n
 unfold bfl; rw [lookup_putF, if_neg n3, lookup_putF, if_neg n2, lookup_putF, if_neg n5, lookup_putF, if_neg n4]; rfl
structure BoardAt (C : Addr) (H : Hp) (p : Addr) (w h : Int) (cs rs : List Int) : Prop where
 ob : ∃ dx a b, H p = some (.ins C dx (bfl a b w h)) ∧ H a = some (.tup (cs.map V.int)) ∧ H b = some (.tup (rs.map V.int))
def KpBut (H : Hp) (p : Addr) (H' : Hp) : Prop := ∀ b o, H b = some o → b ≠ p → H' b = some o
end
section
variable {P : Program} {w : World} {K : PySem.W.Frag} {mg : Str → Option Value} {base : Heap} {t : Ad}
def spx_BoardInitR (C BB : Addr) : Sp := fun vs H Q E => ∃ (p dx c r : Addr) (w h : Int) (cs rs : List Int), vs = [.ref p, .int w, .int h, .ref c, .ref r] ∧ H p = some (.ins C dx []) ∧ H c = some (.lst (cs.map V.int)) ∧ H r = some (.lst (rs.map V.int)) ∧
 cs.length ≤ 1000 ∧ rs.length ≤ 1000 ∧ (((cs.all isBit && rs.all isBit) = false ∧ ∀ H', Same H H' → E (.ref BB) none H') ∨
  ((cs.all isBit && rs.all isBit) = true ∧ ∀ H', KpBut H p H' → BoardAt C H' p w h cs rs → Q .non H'))
theorem okx_BoardInitR (T : Txt K mg t) : FnOk P w K mg base (CX1 P w) 5 t.f_BoardInit t.d_BoardInit ["self", "wide", "tall", "cols", "rows"] (spx_BoardInitR t.a_Ring t.a_BadBit) := by
 have G_allbits := ok_allbits (P := P) (w := w) (base := base) T
 refine T.F_BoardInit.ok1 sc_BoardInit (fun vs H Q E h => ?_) (fun cdv A outer s H vs Q E hr h => ?_)
 ·obtain ⟨p, dx, c, r, wd, ht, cs, rs, rfl, _⟩ := h; rfl
 ·obtain ⟨p, dx, c, r, wd, ht, cs, rs, rfl, hp, hc, hr', lc, lr, k⟩ := h
  refine cutC (ps_if (pt_not (PW.pt (pw_and (pt_val (pe_call G_allbits.up (hr.mono (by first | decide | omega)) rfl T.mg_allbits T.F_allbits.kp T.b_allbits .nil pass1 (pa_cons (pv 3) pa_nil))) (pw_and1 (pt_val (pe_call G_allbits.up (hr.mono (by first | decide | omega)) rfl T.mg_allbits T.F_allbits.kp T.b_allbits .nil pass1 (pa_cons (pv 4) pa_nil))))))) (pss_one (ps_raiseK T.mg_BadBit T.x_BadBit PySem.F.excBase_ValueError rfl rfl (fun _ _ _ _ _ _ _ _ I m q => xe_new I m q) (pa_cons pe_str pa_nil))) pss_nil) fun _ _ => cutC (ps_fld (pv 0) (pv 1) rfl) fun _ _ => cutC (ps_fld (pv 0) (pv 2) rfl) fun _ _ => cutC (ps_fld (pv 0) (pe_callTy (cI_tupleK K rfl) rfl T.no_tuple (by rfl) (pa_cons (pv 3) pa_nil)) rfl) fun _ _ => cutE (ps_fld (pv 0) (pe_callTy (cI_tupleK K rfl) rfl T.no_tuple (by rfl) (pa_cons (pv 4) pa_nil)) rfl) fun _ _ => ?_
  walk_at "rd"
  refine ⟨c, cs, rfl, hc, lc, fun H1 s1 => ?_⟩
  cases b2 : cs.all isBit with
  | false =>
   walk_at "rd"
   refine ⟨by show 1 ≤ sizeLine; decide, ?_⟩
   rcases k with ⟨_, e⟩ | ⟨y, _⟩
   ·exact e _ s1
   ·rw [b2] at y; cases y
  | true =>
   walk_at "rd"
   refine ⟨r, rs, rfl, s1 _ _ hr', lr, fun H2 s2 => ?_⟩
   have s12 := s1.trans s2
   cases b3 : rs.all isBit with
   | false =>
    walk_at "rd"
    refine ⟨by show 1 ≤ sizeLine; decide, ?_⟩
    rcases k with ⟨_, e⟩ | ⟨y, _⟩
    ·exact e _ s12
    ·rw [b2, b3] at y; cases y
   | true =>
    walk_at "rd"
    have k : ∀ H', KpBut H p H' → BoardAt t.a_Ring H' p wd ht cs rs → Q .non H' := by
     rcases k with ⟨y, _⟩ | ⟨_, z⟩
     ·rw [b2, b3] at y; cases y
     ·exact z
    have npc : c ≠ p := ne_of hc hp (by intro z; cases z)
    have npr : r ≠ p := ne_of hr' hp (by intro z; cases z)
    refine rd_sfldv (s12 _ _ hp) T.cl_Ring T.naR_columns_count (by show 0 < 1000; decide) ?_
    walk_at "rd"
    refine rd_sfldv upd_same T.cl_Ring T.naR_rows_count (Nat.lt_of_le_of_lt (length_putF _ _ _) (by show 1 < 1000; decide)) ?_
    rw [upd_upd]
    walk_at "rd"
    refine rd_tupleL (by rw [upd_ne npc]; exact s12 _ _ hc) fun a ha => ?_
    have pa : p ≠ a := by intro z; subst z; rw [upd_same] at ha; cases ha
    walk_at "rd"
    refine rd_sfldv (by rw [upd_ne pa, upd_same]) T.cl_Ring T.naR_col_bits (Nat.lt_of_le_of_lt (length_putF _ _ _) (Nat.lt_of_le_of_lt (Nat.succ_le_succ (length_putF _ _ _)) (by show 2 < 1000; decide))) ?_
    walk_at "rd"
    have ra : r ≠ a := by intro z; subst z; rw [upd_ne npr, s12 _ _ hr'] at ha; cases ha
    refine rd_tupleL (by rw [upd_ne npr, upd_ne ra, upd_ne npr]; exact s12 _ _ hr') fun b hb => ?_
    have pb : p ≠ b := by intro z; subst z; rw [upd_same] at hb; cases hb
    have ab : a ≠ b := by intro z; subst z; rw [upd_ne pa.symm, upd_same] at hb; cases hb
    walk_at "rd"
    refine rd_sfldv (by rw [upd_ne pb, upd_same]) T.cl_Ring T.naR_row_bits (Nat.lt_of_le_of_lt (length_putF _ _ _) (Nat.lt_of_le_of_lt (Nat.succ_le_succ (length_putF _ _ _)) (Nat.lt_of_le_of_lt (Nat.succ_le_succ (Nat.succ_le_succ (length_putF _ _ _))) (by show 3 < 1000; decide)))) ?_
    walk_at "rd"
    refine k _ (fun x o e hx => ?_) ⟨⟨dx, a, b, upd_same, ?_, ?_⟩⟩
    ·have e2 := s12 _ _ e
     have xa : x ≠ a := by intro z; subst z; rw [upd_ne hx, e2] at ha; cases ha
     have xb : x ≠ b := by intro z; subst z; rw [upd_ne hx, upd_ne xa, upd_ne hx, e2] at hb; cases hb
     rw [upd_ne hx, upd_ne xb, upd_ne hx, upd_ne xa, upd_ne hx]
     exact e2
    ·rw [upd_ne pa.symm, upd_ne ab, upd_ne pa.symm, upd_same]
    ·rw [upd_ne pb.symm, upd_same]
def sp_isringside : Sp := fun vs H Q _ => ∃ i, vs = [.int i] ∧ Q (.bl (isSide i && decide (i % 2 = 0))) H
theorem ok_isringside (T : Txt K mg t) : FnOk P w K mg base CX0 4 t.f_isringside t.d_isringside ["count"] sp_isringside := by
 have G_isside := ok_isside (P := P) (w := w) (base := base) T
 refine T.F_isringside.ok sc_isringside (fun vs H Q E h => ?_) (fun cdv A outer s H vs Q E hr h => ?_)
 ·obtain ⟨i, rfl, _⟩ := h; rfl
 ·obtain ⟨i, rfl, k⟩ := h
  refine ⟨_, (pss_one (ps_ret (pe_and (pe_call G_isside (hr.mono (by first | decide | omega)) rfl T.mg_isside T.F_isside.kp T.b_isside .nil pass0 (pa_cons (pv 0) pa_nil)) (pe_one (pe_cmpR op_eq (pe_op op_mod (pv 0) pe_int) pe_int (nomark _)))))), ?_⟩
  walk_at "rd"
  refine ⟨i, rfl, ?_⟩
  cases e : isSide i with
  | false => rw [e] at k; walk_at "rd"; exact k
  | true => rw [e] at k; walk_at "rd"; refine rd_I (by decide) ?_; walk_at "rd"; exact k
def rOk (n : Nat) : Prop := 2 ≤ n ∧ n ≤ 40 ∧ n % 2 = 0
instance (n : Nat) : Decidable (rOk n) := by unfold rOk; infer_instance
theorem rside {n : Nat} : (isSide (n : Int) && decide ((n : Int) % 2 = 0)) = decide (rOk n) := by
 unfold isSide
 by_cases h : rOk n
 ·rw [decide_eq_true h]
  obtain ⟨h1, h2, h3⟩ := h
  rw [decide_eq_true (by omega : (0 : Int) < (n : Int)), decide_eq_true (by omega : (n : Int) < 41), decide_eq_true (by omega : (n : Int) % 2 = 0)]; rfl
 ·rw [decide_eq_false h, Bool.eq_false_iff]
  intro z
  rw [Bool.and_eq_true, Bool.and_eq_true, decide_eq_true_eq, decide_eq_true_eq, decide_eq_true_eq] at z
  exact h ⟨by omega, by omega, by omega⟩
def RingAt (C : Addr) (H : Hp) (p : Addr) (cs rs : List Int) : Prop := BoardAt C H p cs.length rs.length cs rs
theorem RingAt.mono {C : Addr} {H H' : Hp} {p : Addr} {cs rs : List Int} (e : Same H H') (c : RingAt C H p cs rs) : RingAt C H' p cs rs := by
 obtain ⟨dx, a, b, h1, h2, h3⟩ := c.ob
 exact ⟨dx, a, b, e _ _ h1, e _ _ h2, e _ _ h3⟩
def spx_RingInit (C BS BB : Addr) : Sp := fun vs H Q E => ∃ (p dx c r : Addr) (cs rs : List Int), vs = [.ref p, .ref c, .ref r] ∧ H p = some (.ins C dx []) ∧ H c = some (.lst (cs.map V.int)) ∧ H r = some (.lst (rs.map V.int)) ∧
 cs.length ≤ 1000 ∧ rs.length ≤ 1000 ∧ ((¬ (rOk cs.length ∧ rOk rs.length) ∧ E (.ref BS) none H) ∨ ((rOk cs.length ∧ rOk rs.length) ∧ (cs.all isBit && rs.all isBit) = false ∧ ∀ H', Same H H' → E (.ref BB) none H') ∨
  ((rOk cs.length ∧ rOk rs.length) ∧ (cs.all isBit && rs.all isBit) = true ∧ ∀ H', KpBut H p H' → RingAt C H' p cs rs → Q .non H'))
theorem okx_RingInit (T : Txt K mg t) : FnOk P w K mg base (CX1 P w) 6 t.f_RingInit t.d_RingInit ["self", "cols", "rows"] (spx_RingInit t.a_Ring t.a_BadSize t.a_BadBit) := by
 have G_isringside := ok_isringside (P := P) (w := w) (base := base) T
 have GX_BoardInit := okx_BoardInitR (P := P) (w := w) (base := base) T
 refine T.F_RingInit.ok1 sc_RingInit (fun vs H Q E h => ?_) (fun cdv A outer s H vs Q E hr h => ?_)
 ·obtain ⟨p, dx, c, r, cs, rs, rfl, _⟩ := h; rfl
 ·obtain ⟨p, dx, c, r, cs, rs, rfl, hp, hc, hr', lc, lr, k⟩ := h
  refine ⟨_, (pss_cons (ps_if (pt_not (PW.pt (pw_and (pt_val (pe_call G_isringside.up (hr.mono (by first | decide | omega)) rfl T.mg_isringside T.F_isringside.kp T.b_isringside .nil pass1 (pa_cons (pe_callB (cI_lenK K rfl) rfl T.no_len (by rfl) (pa_cons (pv 1) pa_nil)) pa_nil))) (pw_and1 (pt_val (pe_call G_isringside.up (hr.mono (by first | decide | omega)) rfl T.mg_isringside T.F_isringside.kp T.b_isringside .nil pass1 (pa_cons (pe_callB (cI_lenK K rfl) rfl T.no_len (by rfl) (pa_cons (pv 2) pa_nil)) pa_nil))))))) (pss_one (ps_raiseK T.mg_BadSize T.x_BadSize PySem.F.excBase_ValueError rfl rfl (fun _ _ _ _ _ _ _ _ I m q => xe_new I m q) (pa_cons pe_str pa_nil))) pss_nil) (pss_one (ps_expr (pe_callC rfl T.mg_Board T.cf_BoardInit GX_BoardInit (hr.mono (by first | decide | omega)) T.b_BoardInit .nil pass1 (pa_cons (pv 0) (pa_cons (pe_callB (cI_lenK K rfl) rfl T.no_len (by rfl) (pa_cons (pv 1) pa_nil)) (pa_cons (pe_callB (cI_lenK K rfl) rfl T.no_len (by rfl) (pa_cons (pv 2) pa_nil)) (pa_cons (pv 1) (pa_cons (pv 2) pa_nil))))))))), ?_⟩
  walk_at "rd"
  refine rd_lenL hc ?_
  walk_at "rd"
  refine ⟨_, rfl, ?_⟩
  rw [List.length_map, rside]
  have sz : (¬ (rOk cs.length ∧ rOk rs.length) → E (.ref t.a_BadSize) none H) := fun n => by
   rcases k with ⟨_, e⟩ | ⟨z, _⟩ | ⟨z, _⟩
   ·exact e
   ·exact absurd z n
   ·exact absurd z n
  by_cases c1 : rOk cs.length
  ·rw [decide_eq_true c1]
   walk_at "rd"
   refine rd_lenL hr' ?_
   walk_at "rd"
   refine ⟨_, rfl, ?_⟩
   rw [List.length_map, rside]
   by_cases c2 : rOk rs.length
   ·rw [decide_eq_true c2]
    walk_at "rd"
    refine rd_lenL hc ?_
    walk_at "rd"
    refine rd_lenL hr' ?_
    walk_at "rd"
    rw [List.length_map, List.length_map]
    refine ⟨p, dx, c, r, _, _, cs, rs, rfl, hp, hc, hr', lc, lr, ?_⟩
    rcases k with ⟨z, _⟩ | ⟨_, b, e⟩ | ⟨_, b, q⟩
    ·exact absurd ⟨c1, c2⟩ z
    ·exact .inl ⟨b, e⟩
    ·refine .inr ⟨b, fun H' kp rg => ?_⟩
     walk_at "rd"
     exact q H' kp rg
   ·rw [decide_eq_false c2]
    walk_at "rd"
    exact ⟨by show 1 ≤ sizeLine; decide, sz fun z => c2 z.2⟩
  ·rw [decide_eq_false c1]
   walk_at "rd"
   exact ⟨by show 1 ≤ sizeLine; decide, sz fun z => c1 z.1⟩
def RBits (l : List Int) : Prop := rOk l.length ∧ ∀ z ∈ l, z = 0 ∨ z = 1
theorem RBits.all {l : List Int} (h : RBits l) : l.all isBit = true := by
 rw [List.all_eq_true]
 intro z hz
 rcases h.2 z hz with rfl | rfl <;> rfl
def sp_RingInit (C : Addr) : Sp := fun vs H Q _ => ∃ (p dx c r : Addr) (cs rs : List Int), vs = [.ref p, .ref c, .ref r] ∧ H p = some (.ins C dx []) ∧ H c = some (.lst (cs.map V.int)) ∧ H r = some (.lst (rs.map V.int)) ∧ RBits cs ∧ RBits rs ∧
 ∀ H', KpBut H p H' → RingAt C H' p cs rs → Q .non H'
theorem ok_RingInit (T : Txt K mg t) : FnOk P w K mg base CX0 6 t.f_RingInit t.d_RingInit ["self", "cols", "rows"] (sp_RingInit t.a_Ring) :=
 (okx_RingInit T).down fun vs H Q E hh => by
  obtain ⟨p, dx, c, r, cs, rs, e, hp, hc, hr, bc, br, k⟩ := hh
  exact ⟨p, dx, c, r, cs, rs, e, hp, hc, hr, by have := bc.1.2.1; omega, by have := br.1.2.1; omega, .inr (.inr ⟨⟨bc.1, br.1⟩, by rw [bc.all, br.all]; rfl, k⟩)⟩
end
section
variable {P : Program} {w : World} {K : PySem.W.Frag} {mg : Str → Option Value} {base : Heap} {t : Ad}
def sp_Ringwide (C : Addr) : Sp := fun vs H Q _ => ∃ (p : Addr) (cs rs : List Int), vs = [.ref p] ∧ RingAt C H p cs rs ∧ Q (.int cs.length) H
theorem ok_Ringwide (T : Txt K mg t) : FnOk P w K mg base CX0 1 t.f_Ringwide t.d_Ringwide ["self"] (sp_Ringwide t.a_Ring) := by
 refine T.F_Ringwide.ok sc_Ringwide (fun vs H Q E h => ?_) (fun cdv A outer s H vs Q E hr h => ?_)
 ·obtain ⟨p, cs, rs, rfl, _⟩ := h; rfl
 ·obtain ⟨p, cs, rs, rfl, ⟨dx, a, b, h1, h2, h3⟩, k⟩ := h
  refine ⟨_, (pss_one (ps_ret (pe_fldK K rfl (pv 0) rfl))), ?_⟩
  walk_at "rd"
  refine rd_fldv h1 T.cl_Ring T.naR_columns_count (bfl_w _ _) ?_
  walk_at "rd"
  exact k
def sp_Ringtall (C : Addr) : Sp := fun vs H Q _ => ∃ (p : Addr) (cs rs : List Int), vs = [.ref p] ∧ RingAt C H p cs rs ∧ Q (.int rs.length) H
theorem ok_Ringtall (T : Txt K mg t) : FnOk P w K mg base CX0 1 t.f_Ringtall t.d_Ringtall ["self"] (sp_Ringtall t.a_Ring) := by
 refine T.F_Ringtall.ok sc_Ringtall (fun vs H Q E h => ?_) (fun cdv A outer s H vs Q E hr h => ?_)
 ·obtain ⟨p, cs, rs, rfl, _⟩ := h; rfl
 ·obtain ⟨p, cs, rs, rfl, ⟨dx, a, b, h1, h2, h3⟩, k⟩ := h
  refine ⟨_, (pss_one (ps_ret (pe_fldK K rfl (pv 0) rfl))), ?_⟩
  walk_at "rd"
  refine rd_fldv h1 T.cl_Ring T.naR_rows_count (bfl_h _ _) ?_
  walk_at "rd"
  exact k
def IsWay (w : Str) (cs rs bs : List Int) : Prop := (w = "col" ∧ bs = cs) ∨ (w = "row" ∧ bs = rs)
theorem rc_ne : ¬ (("row" : Str) = "col") := by decide +kernel
def spx_Ringbitsalong (C NL : Addr) : Sp := fun vs H Q E => ∃ (p : Addr) (w : Str) (cs rs : List Int), vs = [.ref p, .str w] ∧ RingAt C H p cs rs ∧
 ((∃ bs, IsWay w cs rs bs ∧ ∀ a, H a = some (.tup (bs.map V.int)) → Q (.ref a) H) ∨ (¬ w = "col" ∧ ¬ w = "row" ∧ E (.ref NL) none H))
theorem okx_Ringbitsalong (T : Txt K mg t) : FnOk P w K mg base (CX1 P w) 1 t.f_Ringbitsalong t.d_Ringbitsalong ["self", "way"] (spx_Ringbitsalong t.a_Ring t.a_NoLine) := by
 refine T.F_Ringbitsalong.ok1 sc_Ringbitsalong (fun vs H Q E h => ?_) (fun cdv A outer s H vs Q E hr h => ?_)
 ·obtain ⟨p, w, cs, rs, rfl, _⟩ := h; rfl
 ·obtain ⟨p, w, cs, rs, rfl, ⟨dx, a, b, h1, h2, h3⟩, hw⟩ := h
  refine cutC (ps_if (pt_cmpR op_eq (pv 1) pe_str (nomark _)) (pss_one (ps_ret (pe_fldK K rfl (pv 0) rfl))) pss_nil) fun _ _ => cutC (ps_if (pt_cmpR op_eq (pv 1) pe_str (nomark _)) (pss_one (ps_ret (pe_fldK K rfl (pv 0) rfl))) pss_nil) fun _ _ => cutE (ps_raiseK T.mg_NoLine T.x_NoLine PySem.F.excBase_ValueError rfl rfl (fun _ _ _ _ _ _ _ _ I m q => xe_new I m q) (pa_cons pe_str pa_nil)) fun _ _ => ?_
  walk_at "rd"
  rcases hw with ⟨bs, ⟨rfl, rfl⟩ | ⟨rfl, rfl⟩, k⟩ | ⟨n1, n2, k⟩
  ·rw [decide_eq_true (rfl : ("col" : Str) = "col")]
   walk_at "rd"
   refine rd_fldv h1 T.cl_Ring T.naR_col_bits (bfl_c _ _) ?_
   walk_at "rd"
   exact k a h2
  ·rw [decide_eq_false rc_ne]
   walk_at "rd"
   rw [decide_eq_true (rfl : ("row" : Str) = "row")]
   walk_at "rd"
   refine rd_fldv h1 T.cl_Ring T.naR_row_bits (bfl_r _ _) ?_
   walk_at "rd"
   exact k b h3
  ·rw [decide_eq_false n1]
   walk_at "rd"
   rw [decide_eq_false n2]
   walk_at "rd"
   exact ⟨by show 1 ≤ sizeLine; decide, k⟩
theorem below_t {x b : Int} (h : 0 ≤ x ∧ x < b) : (decide (0 ≤ x) && decide (x < b)) = true := by rw [decide_eq_true h.1, decide_eq_true h.2]; rfl
theorem below_f {x b : Int} (h : ¬ (0 ≤ x ∧ x < b)) : (decide (0 ≤ x) && decide (x < b)) = false := by
 rw [Bool.eq_false_iff]
 intro z
 rw [Bool.and_eq_true, decide_eq_true_eq, decide_eq_true_eq] at z
 exact h z
def NoLn (w : Str) (k : Int) (cs rs : List Int) : Prop := (¬ w = "col" ∧ ¬ w = "row") ∨ ∃ bs, IsWay w cs rs bs ∧ ¬ (0 ≤ k ∧ k < bs.length)
def spx_Ringbit (C NL : Addr) : Sp := fun vs H Q E => ∃ (p : Addr) (w : Str) (k : Int) (cs rs : List Int), vs = [.ref p, .str w, .int k] ∧ RingAt C H p cs rs ∧
 ((∃ bs, IsWay w cs rs bs ∧ 0 ≤ k ∧ k < bs.length ∧ Q (.int (bs.getD k.toNat 0)) H) ∨ (NoLn w k cs rs ∧ E (.ref NL) none H))
theorem okx_Ringbit (T : Txt K mg t) : FnOk P w K mg base (CX1 P w) 3 t.f_Ringbit t.d_Ringbit ["self", "way", "k"] (spx_Ringbit t.a_Ring t.a_NoLine) := by
 have G_isbelow := ok_isbelow (P := P) (w := w) (base := base) T
 have GX_Ringbitsalong := okx_Ringbitsalong (P := P) (w := w) (base := base) T
 refine T.F_Ringbit.ok1 sc_Ringbit (fun vs H Q E h => ?_) (fun cdv A outer s H vs Q E hr h => ?_)
 ·obtain ⟨p, w, k, cs, rs, rfl, _⟩ := h; rfl
 ·obtain ⟨p, w, k, cs, rs, rfl, hc, h⟩ := h
  obtain ⟨dx, a, b, e1, e2, e3⟩ := hc.ob
  refine cutC (ps_set (i := 3) sc_Ringbit.nd rfl (Or.inl rfl) (pe_meth (pv 0) T.cl_Ring T.m_Ringbitsalong GX_Ringbitsalong (hr.mono (by first | decide | omega)) T.b_Ringbitsalong .nil pass1 (pa_cons (pv 1) pa_nil))) fun _ _ => cutC (ps_if (pt_not (pt_val (pe_call G_isbelow.up (hr.mono (by first | decide | omega)) rfl T.mg_isbelow T.F_isbelow.kp T.b_isbelow .nil pass1 (pa_cons (pv 2) (pa_cons (pe_callB (cI_lenK K rfl) rfl T.no_len (by rfl) (pa_cons (pv 3) pa_nil)) pa_nil))))) (pss_one (ps_raiseK T.mg_NoLine T.x_NoLine PySem.F.excBase_ValueError rfl rfl (fun _ _ _ _ _ _ _ _ I m q => xe_new I m q) (pa_cons pe_str pa_nil))) pss_nil) fun _ _ => cutE (ps_ret (pe_ix (ix_tupK K rfl) (pv 3) (pv 2) (fun _ _ => rfl))) fun _ _ => ?_
  walk_at "rd"
  refine rd_methv e1 (bfl_no _ _ (by decide +kernel)) ?_
  walk_at "rd"
  rcases h with ⟨bs, hw, h0, h1, q⟩ | ⟨⟨n1, n2⟩ | ⟨bs, hw, hn⟩, q⟩
  ·refine ⟨p, w, cs, rs, rfl, hc, .inl ⟨bs, hw, fun z hz => ?_⟩⟩
   walk_at "rd"
   refine rd_lenT hz ?_
   walk_at "rd"
   refine ⟨k, _, rfl, ?_⟩
   rw [List.length_map, below_t ⟨h0, h1⟩]
   walk_at "rd"
   refine rd_ixT (SqT.of hz) (atI_ints h0 h1) ?_
   exact q
  ·exact ⟨p, w, cs, rs, rfl, hc, .inr ⟨n1, n2, q⟩⟩
  ·refine ⟨p, w, cs, rs, rfl, hc, .inl ⟨bs, hw, fun z hz => ?_⟩⟩
   walk_at "rd"
   refine rd_lenT hz ?_
   walk_at "rd"
   refine ⟨k, _, rfl, ?_⟩
   rw [List.length_map, below_f hn]
   walk_at "rd"
   exact ⟨by show 1 ≤ sizeLine; decide, q⟩
def NoSt (w : Str) (k st : Int) (cs rs : List Int) : Prop := ∃ bs os, IsWay w cs rs bs ∧ IsWay w rs cs os ∧ 0 ≤ k ∧ k < bs.length ∧ ¬ (0 ≤ st ∧ st < (os.length : Int))
def stB (bs : List Int) (k st : Int) : Bool := decide ((st + bs.getD k.toNat 0) % 2 = 1)
def spx_Ringstitched (C NL NS : Addr) : Sp := fun vs H Q E => ∃ (p : Addr) (w : Str) (k st : Int) (cs rs : List Int), vs = [.ref p, .str w, .int k, .int st] ∧ RingAt C H p cs rs ∧
 ((∃ bs os, IsWay w cs rs bs ∧ IsWay w rs cs os ∧ 0 ≤ k ∧ k < bs.length ∧ 0 ≤ st ∧ st < os.length ∧ Q (.bl (stB bs k st)) H) ∨ (NoLn w k cs rs ∧ E (.ref NL) none H) ∨ (NoSt w k st cs rs ∧ E (.ref NS) none H))
theorem okx_Ringstitched (T : Txt K mg t) : FnOk P w K mg base (CX1 P w) 4 t.f_Ringstitched t.d_Ringstitched ["self", "way", "k", "step"] (spx_Ringstitched t.a_Ring t.a_NoLine t.a_NoStep) := by
 have G_isbelow := ok_isbelow (P := P) (w := w) (base := base) T
 have GX_Ringbit := okx_Ringbit (P := P) (w := w) (base := base) T
 have G_Ringwide := ok_Ringwide (P := P) (w := w) (base := base) T
 have G_Ringtall := ok_Ringtall (P := P) (w := w) (base := base) T
 refine T.F_Ringstitched.ok1 sc_Ringstitched (fun vs H Q E h => ?_) (fun cdv A outer s H vs Q E hr h => ?_)
 ·obtain ⟨p, w, k, st, cs, rs, rfl, _⟩ := h; rfl
 ·obtain ⟨p, w, k, st, cs, rs, rfl, hc, h⟩ := h
  obtain ⟨dx, a, b, e1, e2, e3⟩ := hc.ob
  refine cutC (ps_set (i := 4) sc_Ringstitched.nd rfl (Or.inl rfl) (pe_meth (pv 0) T.cl_Ring T.m_Ringbit GX_Ringbit (hr.mono (by first | decide | omega)) T.b_Ringbit .nil pass1 (pa_cons (pv 1) (pa_cons (pv 2) pa_nil)))) fun _ _ => cutC (ps_set (i := 5) sc_Ringstitched.nd rfl (Or.inl rfl) (pe_ifExp (pt_cmpR op_eq (pv 1) pe_str (nomark _)) (pe_meth0 (pv 0) T.cl_Ring T.m_Ringtall G_Ringtall.up (hr.mono (by first | decide | omega)) T.b_Ringtall .nil pass1) (pe_meth0 (pv 0) T.cl_Ring T.m_Ringwide G_Ringwide.up (hr.mono (by first | decide | omega)) T.b_Ringwide .nil pass1))) fun _ _ => cutC (ps_if (pt_not (pt_val (pe_call G_isbelow.up (hr.mono (by first | decide | omega)) rfl T.mg_isbelow T.F_isbelow.kp T.b_isbelow .nil pass1 (pa_cons (pv 3) (pa_cons (pv 5) pa_nil))))) (pss_one (ps_raiseK T.mg_NoStep T.x_NoStep PySem.F.excBase_ValueError rfl rfl (fun _ _ _ _ _ _ _ _ I m q => xe_new I m q) (pa_cons pe_str pa_nil))) pss_nil) fun _ _ => cutE (ps_ret (pe_cmpR op_eq (pe_op op_mod (pe_op op_add (pv 3) (pv 4)) pe_int) pe_int (nomark _))) fun _ _ => ?_
  walk_at "rd"
  refine rd_methv e1 (bfl_no _ _ (by decide +kernel)) ?_
  walk_at "rd"
  rcases h with ⟨bs, os, hw, ho, h0, h1, g0, g1, q⟩ | ⟨n, q⟩ | ⟨⟨bs, os, hw, ho, h0, h1, hn⟩, q⟩
  ·refine ⟨p, w, k, cs, rs, rfl, hc, .inl ⟨bs, hw, h0, h1, ?_⟩⟩
   walk_at "rd"
   rcases ho with ⟨rfl, rfl⟩ | ⟨rfl, rfl⟩
   ·rw [decide_eq_true (rfl : ("col" : Str) = "col")]
    walk_at "rd"
    refine rd_methv e1 (bfl_no _ _ (by decide +kernel)) ?_
    walk_at "rd"
    refine ⟨p, cs, _, rfl, hc, ?_⟩
    walk_at "rd"
    refine ⟨st, _, rfl, ?_⟩
    rw [below_t ⟨g0, g1⟩]
    walk_at "rd"
    refine rd_I (by decide) ?_
    walk_at "rd"
    exact q
   ·rw [decide_eq_false rc_ne]
    walk_at "rd"
    refine rd_methv e1 (bfl_no _ _ (by decide +kernel)) ?_
    walk_at "rd"
    refine ⟨p, _, rs, rfl, hc, ?_⟩
    walk_at "rd"
    refine ⟨st, _, rfl, ?_⟩
    rw [below_t ⟨g0, g1⟩]
    walk_at "rd"
    refine rd_I (by decide) ?_
    walk_at "rd"
    exact q
  ·exact ⟨p, w, k, cs, rs, rfl, hc, .inr ⟨n, q⟩⟩
  ·refine ⟨p, w, k, cs, rs, rfl, hc, .inl ⟨bs, hw, h0, h1, ?_⟩⟩
   walk_at "rd"
   rcases ho with ⟨rfl, rfl⟩ | ⟨rfl, rfl⟩
   ·rw [decide_eq_true (rfl : ("col" : Str) = "col")]
    walk_at "rd"
    refine rd_methv e1 (bfl_no _ _ (by decide +kernel)) ?_
    walk_at "rd"
    refine ⟨p, cs, _, rfl, hc, ?_⟩
    walk_at "rd"
    refine ⟨st, _, rfl, ?_⟩
    rw [below_f hn]
    walk_at "rd"
    exact ⟨by show 1 ≤ sizeLine; decide, q⟩
   ·rw [decide_eq_false rc_ne]
    walk_at "rd"
    refine rd_methv e1 (bfl_no _ _ (by decide +kernel)) ?_
    walk_at "rd"
    refine ⟨p, _, rs, rfl, hc, ?_⟩
    walk_at "rd"
    refine ⟨st, _, rfl, ?_⟩
    rw [below_f hn]
    walk_at "rd"
    exact ⟨by show 1 ≤ sizeLine; decide, q⟩
def sp_Ringstitched (C : Addr) : Sp := fun vs H Q _ => ∃ (p : Addr) (w : Str) (k st : Int) (cs rs bs os : List Int), vs = [.ref p, .str w, .int k, .int st] ∧ RingAt C H p cs rs ∧ IsWay w cs rs bs ∧ IsWay w rs cs os ∧ 0 ≤ k ∧ k < bs.length ∧ 0 ≤ st ∧ st < os.length ∧
 Q (.bl (stB bs k st)) H
theorem ok_Ringstitched (T : Txt K mg t) : FnOk P w K mg base CX0 4 t.f_Ringstitched t.d_Ringstitched ["self", "way", "k", "step"] (sp_Ringstitched t.a_Ring) :=
 (okx_Ringstitched T).down fun vs H Q E ⟨p, w, k, st, cs, rs, bs, os, e, hc, hw, ho, h0, h1, g0, g1, q⟩ => ⟨p, w, k, st, cs, rs, e, hc, .inl ⟨bs, os, hw, ho, h0, h1, g0, g1, q⟩⟩
end
section
variable {P : Program} {w : World} {K : PySem.W.Frag} {mg : Str → Option Value} {base : Heap} {t : Ad}
def Sm (z : Int) : Prop := -1000000000000000000 < z ∧ z < 1000000000000000000
theorem sm_snoc {zs : List Int} {z : Int} (h : ∀ y ∈ zs, Sm y) (hz : Sm z) : ∀ y ∈ zs ++ [z], Sm y := fun y hy => by
 rcases List.mem_append.mp hy with q | q
 ·exact h y q
 ·rw [List.mem_singleton.mp q]; exact hz
theorem sm_mod (r : Int) {m : Int} (h0 : 0 < m) (h1 : m ≤ 1000003) : Sm (r % m) := by
 have := Int.emod_nonneg r (by omega : m ≠ 0)
 have := Int.emod_lt_of_pos r h0
 unfold Sm; omega
def sp_Ldraws (K : PySem.W.Frag) : Sp := fun vs H Q _ => ∃ (a : Addr) (m : Nat) (ns : List Int), vs = [.ref a, .int m] ∧ SqL K H a (ns.map V.int) ∧ ns.length ≤ 63 ∧ m ≤ 200 ∧
 ∀ (l : Addr) (zs : List Int) (H' : Hp), Same H H' → H' l = some (.lst (zs.map V.int)) → m ≤ zs.length → zs.length ≤ 300 → (∀ z ∈ zs, Sm z) → Q (.ref l) H'
theorem map_snoc (zs : List Int) (z : Int) : zs.map V.int ++ [V.int z] = (zs ++ [z]).map V.int := by simp
theorem ok_Ldraws (T : Txt K mg t) : FnOk P w K mg base CX0 1 t.f_Ldraws t.d_Ldraws ["_law_script", "_law_many"] (sp_Ldraws K) := by
 refine T.F_Ldraws.ok sc_Ldraws (fun vs H Q E h => ?_) (fun cdv A outer s H vs Q E hr h => ?_)
 ·obtain ⟨a, m, ns, rfl, _⟩ := h; rfl
 ·obtain ⟨a, m, ns, rfl, hS, hl, hm, k⟩ := h
  refine cutC (ps_set (i := 2) sc_Ldraws.nd rfl (Or.inl rfl) (pe_lst pa_nil)) fun _ _ => cutC (ps_set (i := 3) sc_Ldraws.nd rfl (Or.inl rfl) pe_int) fun _ _ => cutC (ps_for PassesOwn.never rfl (pi_list (pv 0)) (pg_name (i := 4) sc_Ldraws.nd rfl (Or.inl rfl)) (pss_cons (ps_set (i := 3) sc_Ldraws.nd rfl (Or.inl rfl) (pe_op op_mod (pe_op op_add (pe_op op_mul (pv 3) pe_int) (pv 4)) pe_int)) (pss_cons (ps_set (i := 5) sc_Ldraws.nd rfl (Or.inl rfl) (pe_callB cI_abs rfl T.no_abs (by rfl) (pa_cons (pv 4) pa_nil))) (pss_cons (ps_if (pt_cmpR op_lt (pv 5) (pe_op op_pow pe_int pe_int) (nomark _)) (pss_cons (ps_expr (pe_bm PySem.F.plainAttrs_list PySem.F.slot_list_append PySem.F.type_list_append mt_append (pv 2) (pa_cons (pv 4) pa_nil))) (pss_one (ps_set (i := 5) sc_Ldraws.nd rfl (Or.inl rfl) pe_int))) pss_nil) (pss_one (ps_while PassesOwn.never (PW.pt (pw_and (pt_cmpR op_gt (pv 5) pe_int (nomark _)) (pw_and1 (pt_cmpR op_lt (pe_callB (cI_lenK K rfl) rfl T.no_len (by rfl) (pa_cons (pv 2) pa_nil)) (pv 1) (nomark _))))) (pss_cons (ps_expr (pe_bm PySem.F.plainAttrs_list PySem.F.slot_list_append PySem.F.type_list_append mt_append (pv 2) (pa_cons (pe_op op_mod (pv 5) pe_int) pa_nil))) (pss_one (ps_set (i := 5) sc_Ldraws.nd rfl (Or.inl rfl) (pe_op op_fdiv (pv 5) pe_int)))))))))) fun _ _ => cutC (ps_while PassesOwn.never (pt_cmpR op_lt (pe_callB (cI_lenK K rfl) rfl T.no_len (by rfl) (pa_cons (pv 2) pa_nil)) (pv 1) (nomark _)) (pss_cons (ps_set (i := 3) sc_Ldraws.nd rfl (Or.inl rfl) (pe_op op_mod (pe_op op_add (pe_op op_mul (pv 3) pe_int) pe_int) pe_int)) (pss_one (ps_expr (pe_bm PySem.F.plainAttrs_list PySem.F.slot_list_append PySem.F.type_list_append mt_append (pv 2) (pa_cons (pe_op op_mod (pe_op op_mul (pv 3) (pv 3)) pe_int) pa_nil)))))) fun _ _ => cutE (ps_ret (pv 2)) fun _ _ => ?_
  walk_at "rd"
  refine ⟨Nat.zero_le _, fun l hn => ?_⟩
  walk_at "rd"
  have hz : ∀ {zs : List Int}, zs.length ≤ 300 → (zs.map V.int).length < sizeLine := fun h => by rw [List.length_map]; exact small1000 (by omega)
  refine ⟨⟨_, (Same.new hn).seq hS⟩, forW_list (K := K) (a := a) (xs := ns.map V.int) (fun i σ' H' => ∃ (zs : List Int) (mix : Int) (c r : Option V), σ' = [some (.ref a), some (.int m), some (.ref l), some (.int mix), c, r] ∧ Same H H' ∧ H' l = some (.lst (zs.map V.int)) ∧ zs.length ≤ i + m ∧ ∀ z ∈ zs, Sm z)
   ⟨[], 1, none, none, rfl, Same.new hn, upd_same, Nat.zero_le _, fun z hz => by cases hz⟩ (fun i σ' H' _ ⟨_, _, _, _, _, s, _⟩ => s.seq hS) ?_ ?_⟩
  ·rintro i y σ' H' hi ⟨zs, mix, c, r, rfl, s1, e1, lz, sm⟩
   have hil : i < ns.length := by have := (List.getElem?_eq_some_iff.mp hi).1; rwa [List.length_map] at this
   obtain ⟨z, rfl⟩ : ∃ z, y = V.int z := by
    rw [List.getElem?_map] at hi
    cases e : ns[i]? with
    | none => rw [e] at hi; cases hi
    | some z => rw [e] at hi; exact ⟨z, (Option.some.inj hi).symm⟩
   walk_at "rd"
   refine rd_I (.inr ⟨by decide, by decide⟩) ?_
   walk_at "rd"
   refine rd_I (by decide) ?_
   walk_at "rd"
   refine rd_I ⟨by decide, by decide, by decide⟩ ?_
   walk_at "rd"
   refine ite2 (fun hc => ?_) (fun _ => ?_)
   ·have hc := of_decide_eq_true hc
    have hcz : Sm z := by
     unfold Sm
     have e18 : (10 : Int) ^ 18 = 1000000000000000000 := by decide
     by_cases hz0 : z < 0
     ·rw [if_pos hz0] at hc; change -z < (10 : Int) ^ 18 at hc; omega
     ·rw [if_neg hz0] at hc; change z < (10 : Int) ^ 18 at hc; omega
    walk_at "rd"
    refine rd_bmL e1 ?_
    walk_at "rd"
    refine rd_append e1 (hz (by omega)) ?_
    rw [map_snoc]
    walk_at "rd"
    refine ⟨fun n σ' H' => ∃ (zs : List Int) (mix : Int) (r : Int), σ' = [some (.ref a), some (.int m), some (.ref l), some (.int mix), some (.int z), some (.int r)] ∧ Same H H' ∧ H' l = some (.lst (zs.map V.int)) ∧ zs.length ≤ i + 1 + m ∧ n = m - zs.length ∧ ∀ z ∈ zs, Sm z,
     ⟨_, zs ++ [z], _, _, rfl, s1.later hn, upd_same, by rw [List.length_append, List.length_singleton]; omega, rfl, sm_snoc sm hcz⟩, ?_⟩
    rintro n σ' H' ⟨zs, mix, r, rfl, s1, e1, lz, rfl, sm⟩
    walk_at "rd"
    refine ite2 (fun _ => ?_) (fun _ => ?_)
    ·walk_at "rd"
     refine rd_lenL e1 ?_
     walk_at "rd"
     rw [List.length_map]
     refine ite2 (fun h2 => ?_) (fun h2 => ?_)
     ·have h2 := of_decide_eq_true h2
      refine ⟨fun σ' H' => ∃ (zs' : List Int) (mix : Int) (r : Int), σ' = [some (.ref a), some (.int m), some (.ref l), some (.int mix), some (.int z), some (.int r)] ∧ Same H H' ∧ H' l = some (.lst (zs'.map V.int)) ∧ zs'.length = zs.length + 1 ∧ ∀ z ∈ zs', Sm z, ?_, ?_⟩
      ·rintro σ' H' ⟨zs', mix, r, rfl, s1, e1, lz', sm'⟩
       exact ⟨m - zs'.length, by omega, zs', mix, r, rfl, s1, e1, by omega, rfl, sm'⟩
      ·walk_at "rd"
       refine rd_bmL e1 ?_
       walk_at "rd"
       refine rd_I (by decide) ?_
       walk_at "rd"
       refine rd_append e1 (hz (by omega)) ?_
       rw [map_snoc]
       walk_at "rd"
       refine rd_I ⟨by decide, by decide⟩ ?_
       walk_at "rd"
       exact ⟨zs ++ [r % 1000003], mix, _, rfl, s1.later hn, upd_same, by rw [List.length_append, List.length_singleton], sm_snoc sm (sm_mod r (by decide) (by decide))⟩
     ·walk_at "rd"
      exact ⟨zs, mix, _, _, rfl, s1, e1, lz, sm⟩
    ·walk_at "rd"
     exact ⟨zs, mix, _, _, rfl, s1, e1, lz, sm⟩
   ·walk_at "rd"
    refine ⟨fun n σ' H' => ∃ (zs : List Int) (mix : Int) (r : Int), σ' = [some (.ref a), some (.int m), some (.ref l), some (.int mix), some (.int z), some (.int r)] ∧ Same H H' ∧ H' l = some (.lst (zs.map V.int)) ∧ zs.length ≤ i + 1 + m ∧ n = m - zs.length ∧ ∀ z ∈ zs, Sm z,
     ⟨_, zs, _, _, rfl, s1, e1, by omega, rfl, sm⟩, ?_⟩
    rintro n σ' H' ⟨zs, mix, r, rfl, s1, e1, lz, rfl, sm⟩
    walk_at "rd"
    refine ite2 (fun _ => ?_) (fun _ => ?_)
    ·walk_at "rd"
     refine rd_lenL e1 ?_
     walk_at "rd"
     rw [List.length_map]
     refine ite2 (fun h2 => ?_) (fun h2 => ?_)
     ·have h2 := of_decide_eq_true h2
      refine ⟨fun σ' H' => ∃ (zs' : List Int) (mix : Int) (r : Int), σ' = [some (.ref a), some (.int m), some (.ref l), some (.int mix), some (.int z), some (.int r)] ∧ Same H H' ∧ H' l = some (.lst (zs'.map V.int)) ∧ zs'.length = zs.length + 1 ∧ ∀ z ∈ zs', Sm z, ?_, ?_⟩
      ·rintro σ' H' ⟨zs', mix, r, rfl, s1, e1, lz', sm'⟩
       exact ⟨m - zs'.length, by omega, zs', mix, r, rfl, s1, e1, by omega, rfl, sm'⟩
      ·walk_at "rd"
       refine rd_bmL e1 ?_
       walk_at "rd"
       refine rd_I (by decide) ?_
       walk_at "rd"
       refine rd_append e1 (hz (by omega)) ?_
       rw [map_snoc]
       walk_at "rd"
       refine rd_I ⟨by decide, by decide⟩ ?_
       walk_at "rd"
       exact ⟨zs ++ [r % 1000003], mix, _, rfl, s1.later hn, upd_same, by rw [List.length_append, List.length_singleton], sm_snoc sm (sm_mod r (by decide) (by decide))⟩
     ·walk_at "rd"
      exact ⟨zs, mix, _, _, rfl, s1, e1, lz, sm⟩
    ·walk_at "rd"
     exact ⟨zs, mix, _, _, rfl, s1, e1, lz, sm⟩
  ·rintro σ' H' ⟨zs, mix, c, r, rfl, s1, e1, lz, sm⟩
   rw [List.length_map] at lz
   walk_at "rd"
   refine ⟨fun n σ' H' => ∃ (zs : List Int) (mix : Int), σ' = [some (.ref a), some (.int m), some (.ref l), some (.int mix), c, r] ∧ (-(2 ^ 64) < mix ∧ mix < 2 ^ 64 ∨ True) ∧ Same H H' ∧ H' l = some (.lst (zs.map V.int)) ∧ zs.length ≤ 300 ∧ n = m - zs.length ∧ ∀ z ∈ zs, Sm z,
    ⟨_, zs, mix, rfl, .inr trivial, s1, e1, by omega, rfl, sm⟩, ?_⟩
   rintro n σ' H' ⟨zs, mix, rfl, _, s1, e1, lz, rfl, sm⟩
   walk_at "rd"
   refine rd_lenL e1 ?_
   walk_at "rd"
   rw [List.length_map]
   refine ite2 (fun h2 => ?_) (fun h2 => ?_)
   ·have h2 := of_decide_eq_true h2
    refine ⟨fun σ' H' => ∃ (zs' : List Int) (mix : Int), σ' = [some (.ref a), some (.int m), some (.ref l), some (.int mix), c, r] ∧ Same H H' ∧ H' l = some (.lst (zs'.map V.int)) ∧ zs'.length = zs.length + 1 ∧ ∀ z ∈ zs', Sm z, ?_, ?_⟩
    ·rintro σ' H' ⟨zs', mix, rfl, s1, e1, lz', sm'⟩
     exact ⟨m - zs'.length, by omega, zs', mix, rfl, .inr trivial, s1, e1, by omega, rfl, sm'⟩
    ·walk_at "rd"
     refine rd_I (.inr ⟨by decide, by decide⟩) ?_
     walk_at "rd"
     refine rd_I (by decide) ?_
     walk_at "rd"
     refine rd_bmL e1 ?_
     walk_at "rd"
     refine rd_I (.inl ⟨by omega, by omega⟩) ?_
     walk_at "rd"
     refine rd_I (by decide) ?_
     walk_at "rd"
     refine rd_append e1 (hz (by omega)) ?_
     rw [map_snoc]
     walk_at "rd"
     exact ⟨zs ++ [_], _, rfl, s1.later hn, upd_same, by rw [List.length_append, List.length_singleton], sm_snoc sm (sm_mod _ (by decide) (by decide))⟩
   ·have h2 : ¬ ((zs.length : Int) < m) := fun z => h2 (decide_eq_true z)
    walk_at "rd"
    exact k l zs H' s1 e1 (by omega) (by omega) sm
end
section
variable {P : Program} {w : World} {K : PySem.W.Frag} {mg : Str → Option Value} {base : Heap} {t : Ad}
def sp_Lbits : Sp := fun vs H Q _ => ∃ (n : Int) (m : Nat), vs = [.int n, .int m] ∧ m ≤ 100 ∧ ∀ (l : Addr) (bs : List Int) (H' : Hp), Same H H' → H l = none → H' l = some (.lst (bs.map V.int)) → bs.length = m → (∀ z ∈ bs, z = 0 ∨ z = 1) → Q (.ref l) H'
theorem emod_le {a b : Int} (ha : 0 ≤ a) (hb : 0 < b) : a % b ≤ a := by
 obtain ⟨m, rfl⟩ := Int.eq_ofNat_of_zero_le ha
 obtain ⟨n, rfl⟩ := Int.eq_ofNat_of_zero_le (Int.le_of_lt hb)
 rw [← Int.natCast_emod]
 exact Int.ofNat_le.mpr (Nat.mod_le _ _)
theorem mod2 (n : Int) : n % 2 = 0 ∨ n % 2 = 1 := by omega
theorem ok_Lbits (T : Txt K mg t) : FnOk P w K mg base CX0 1 t.f_Lbits t.d_Lbits ["_law_number", "_law_many"] sp_Lbits := by
 refine T.F_Lbits.ok sc_Lbits (fun vs H Q E h => ?_) (fun cdv A outer s H vs Q E hr h => ?_)
 ·obtain ⟨n, m, rfl, _⟩ := h; rfl
 ·obtain ⟨n, m, rfl, hm, k⟩ := h
  refine cutC (ps_set (i := 2) sc_Lbits.nd rfl (Or.inl rfl) (pe_lst pa_nil)) fun _ _ => cutC (ps_for PassesOwn.never rfl (pi_range1 rfl T.no_range (pa_cons (pv 1) pa_nil)) (pg_name (i := 3) sc_Lbits.nd rfl (Or.inl rfl)) (pss_cons (ps_expr (pe_bm PySem.F.plainAttrs_list PySem.F.slot_list_append PySem.F.type_list_append mt_append (pv 2) (pa_cons (pe_op op_mod (pv 0) pe_int) pa_nil))) (pss_one (ps_set (i := 0) sc_Lbits.nd rfl (Or.inl rfl) (pe_op op_fdiv (pv 0) pe_int))))) fun _ _ => cutE (ps_ret (pv 2)) fun _ _ => ?_
  walk_at "rd"
  refine ⟨Nat.zero_le _, fun l hn => ?_⟩
  walk_at "rd"
  refine ⟨m, rfl, by omega, by omega, ?_⟩
  rw [Int.toNat_natCast]
  refine forW_range (fun i σ' H' => ∃ (n : Int) (bs : List Int) (c : Option V), σ' = [some (.int n), some (.int m), some (.ref l), c] ∧ Same H H' ∧ H' l = some (.lst (bs.map V.int)) ∧ bs.length = i ∧ ∀ z ∈ bs, z = 0 ∨ z = 1)
   ⟨n, [], none, rfl, Same.new hn, upd_same, rfl, fun z hz => by cases hz⟩ ?_ ?_
  ·rintro i σ' H' hi ⟨n, bs, c, rfl, s1, e1, lb, hb⟩
   walk_at "rd"
   refine rd_bmL e1 ?_
   walk_at "rd"
   refine rd_I (by decide) ?_
   walk_at "rd"
   refine rd_append e1 (by rw [List.length_map]; exact small1000 (by omega)) ?_
   rw [map_snoc]
   walk_at "rd"
   refine rd_I ⟨by decide, by decide⟩ ?_
   walk_at "rd"
   refine ⟨_, bs ++ [n % 2], _, rfl, s1.later hn, upd_same, by rw [List.length_append, List.length_singleton]; omega, fun z hz => ?_⟩
   rcases List.mem_append.mp hz with h | h
   ·exact hb z h
   ·rw [List.mem_singleton.mp h]; exact mod2 n
  ·rintro σ' H' ⟨n, bs, c, rfl, s1, e1, lb, hb⟩
   walk_at "rd"
   exact k l bs H' s1 hn e1 lb hb
def sp_Lrow : Sp := fun vs H Q _ => ∃ (a : Addr) (m : Nat) (zs : List Int), vs = [.ref a, .int m] ∧ H a = some (.lst (zs.map V.int)) ∧ 4 ≤ zs.length ∧ m ≤ 100 ∧ ∀ (l : Addr) (bs : List Int) (H' : Hp), Same H H' → H l = none → H' l = some (.lst (bs.map V.int)) → bs.length = m → (∀ z ∈ bs, z = 0 ∨ z = 1) → Q (.ref l) H'
theorem ok_Lrow (T : Txt K mg t) : FnOk P w K mg base CX0 2 t.f_Lrow t.d_Lrow ["_law_some", "_law_many"] sp_Lrow := by
 have G_Lbits := ok_Lbits (P := P) (w := w) (base := base) T
 refine T.F_Lrow.ok sc_Lrow (fun vs H Q E h => ?_) (fun cdv A outer s H vs Q E hr h => ?_)
 ·obtain ⟨a, m, zs, rfl, _⟩ := h; rfl
 ·obtain ⟨a, m, zs, rfl, ha, hl, hm, k⟩ := h
  refine cutC (ps_set (i := 2) sc_Lrow.nd rfl (Or.inl rfl) (pe_op op_add (pe_op op_add (pe_ix (ix_listK K rfl) (pv 0) pe_int (fun _ _ => rfl)) (pe_op op_mul pe_int (pe_ix (ix_listK K rfl) (pv 0) pe_int (fun _ _ => rfl)))) (pe_op op_mul (pe_op op_mul pe_int pe_int) (pe_ix (ix_listK K rfl) (pv 0) pe_int (fun _ _ => rfl))))) fun _ _ => cutC (ps_if (pt_cmpR op_eq (pe_op op_mod (pe_ix (ix_listK K rfl) (pv 0) pe_int (fun _ _ => rfl)) pe_int) pe_int (nomark _)) (pss_one (ps_set (i := 2) sc_Lrow.nd rfl (Or.inl rfl) (pe_un un_neg (pe_op op_mod (pe_ix (ix_listK K rfl) (pv 0) pe_int (fun _ _ => rfl)) pe_int)))) pss_nil) fun _ _ => cutC (ps_set (i := 3) sc_Lrow.nd rfl (Or.inr rfl) (pe_call G_Lbits (hr.mono (by first | decide | omega)) rfl T.mg_Lbits T.F_Lbits.kp T.b_Lbits .nil pass0 (pa_cons (pv 2) (pa_cons (pv 1) pa_nil)))) fun _ _ => cutC (ps_if (pt_cmpR op_eq (pe_op op_mod (pe_ix (ix_listK K rfl) (pv 0) pe_int (fun _ _ => rfl)) pe_int) pe_int (nomark _)) (pss_one (ps_set (i := 3) sc_Lrow.nd rfl (Or.inr rfl) (pe_comp (N := ["_law_k", "_law_row_here", "_law_some"]) (cap := [none, some 3, some 0]) rfl ⟨rfl, rfl, rfl, rfl, rfl, rfl⟩ (pi_range1 rfl T.no_range (pa_cons (pv 1) pa_nil)) (fun _ _ _ => (pg_name (i := 0) (show (["_law_k", "_law_row_here", "_law_some"] : List Str).Nodup by decide +kernel) rfl (Or.inl rfl))) (fun _ _ _ => pts_nil) (fun _ _ _ => (pe_ix (ix_listK K rfl) (pv 1) (pe_op op_mod (pv 0) (pe_op op_add pe_int (pe_op op_mod (pe_ix (ix_listK K rfl) (pv 2) pe_int (fun _ _ => rfl)) pe_int))) (fun _ _ => rfl)))))) pss_nil) fun _ _ => cutE (ps_ret (pv 3)) fun _ _ => ?_
  have I0 : atI (zs.map V.int) 0 = _ := atI_ints (by decide) (by omega)
  have I1 : atI (zs.map V.int) 1 = _ := atI_ints (by decide) (by omega)
  have I2 : atI (zs.map V.int) 2 = _ := atI_ints (by decide) (by omega)
  have I3 : atI (zs.map V.int) 3 = _ := atI_ints (by decide) (by omega)
  generalize zs.getD (0 : Int).toNat 0 = z0 at I0
  generalize zs.getD (1 : Int).toNat 0 = z1 at I1
  generalize zs.getD (2 : Int).toNat 0 = z2 at I2
  generalize zs.getD (3 : Int).toNat 0 = z3 at I3
  -- behind the raw number: the bits, and the pattern
  walk_at "rd"
  refine rd_ixL (SqL.of ha) I0 ?_
  walk_at "rd"
  refine rd_ixL (SqL.of ha) I1 ?_
  walk_at "rd"
  refine rd_I (.inl ⟨by decide, by decide⟩) ?_
  walk_at "rd"
  refine rd_I (.inl ⟨by decide, by decide⟩) ?_
  walk_at "rd"
  refine rd_ixL (SqL.of ha) I2 ?_
  walk_at "rd"
  refine rd_I (.inl ⟨by decide, by decide⟩) ?_
  walk_at "rd"
  refine rd_ixL (SqL.of ha) I3 ?_
  walk_at "rd"
  refine rd_I (by decide) ?_
  walk_at "rd"
  refine ite2 (fun _ => ?_) (fun _ => ?_)
  ·walk_at "rd"
   refine rd_ixL (SqL.of ha) I0 ?_
   walk_at "rd"
   refine rd_I (by decide) ?_
   walk_at "rd"
   refine ⟨_, m, rfl, hm, fun l bs H1 s1 n1 e1 lb hb => ?_⟩
   walk_at "rd"
   refine rd_ixL (SqL.of (s1 _ _ ha)) I3 ?_
   walk_at "rd"
   refine rd_I (by decide) ?_
   walk_at "rd"
   refine ite2 (fun _ => ?_) (fun _ => ?_)
   ·walk_at "rd"
    refine ⟨m, rfl, by omega, by omega, fun l2 hn => ?_⟩
    rw [Int.toNat_natCast]
    refine compW_range (fun i => .int (bs.getD (((0 : Int) + (i : Nat)) % (1 + z1 % 4)).toNat 0)) (by omega) hn (fun i o H' Q' hi s2 q => ?_) (fun H' s2 e2 => ?_)
    ·walk_at "rd"
     refine rd_ixL (SqL.of (s2 _ _ (s1 _ _ ha))) I1 ?_
     walk_at "rd"
     refine rd_I (by decide) ?_
     walk_at "rd"
     have p1 : 0 < 1 + z1 % 4 := by omega
     refine rd_I p1 ?_
     walk_at "rd"
     have q0 := Int.emod_nonneg ((0 : Int) + (i : Nat)) (by omega : 1 + z1 % 4 ≠ 0)
     have q1 : ((0 : Int) + (i : Nat)) % (1 + z1 % 4) ≤ (0 : Int) + (i : Nat) := emod_le (by omega) (by omega)
     refine rd_ixL (SqL.of (s2 _ _ e1)) (atI_ints q0 (by omega)) ?_
     exact q H' (Same.refl _)
    ·walk_at "rd"
     refine k l2 ((List.range m).map fun i => bs.getD (((0 : Int) + (i : Nat)) % (1 + z1 % 4)).toNat 0) H' (s1.trans s2) (s1.free hn) (by rw [e2, List.map_map]; rfl) (by rw [List.length_map, List.length_range]) fun z hz => ?_
     obtain ⟨i, hi, rfl⟩ := List.mem_map.mp hz
     have hi := List.mem_range.mp hi
     have q0 := Int.emod_nonneg ((0 : Int) + (i : Nat)) (by omega : 1 + z1 % 4 ≠ 0)
     have q1 : ((0 : Int) + (i : Nat)) % (1 + z1 % 4) ≤ (0 : Int) + (i : Nat) := emod_le (by omega) (by omega)
     exact hb _ (L2.getD_mem (by omega))
   ·walk_at "rd"
    exact k l bs H1 s1 n1 e1 lb hb
  ·walk_at "rd"
   refine ⟨_, m, rfl, hm, fun l bs H1 s1 n1 e1 lb hb => ?_⟩
   walk_at "rd"
   refine rd_ixL (SqL.of (s1 _ _ ha)) I3 ?_
   walk_at "rd"
   refine rd_I (by decide) ?_
   walk_at "rd"
   refine ite2 (fun _ => ?_) (fun _ => ?_)
   ·walk_at "rd"
    refine ⟨m, rfl, by omega, by omega, fun l2 hn => ?_⟩
    rw [Int.toNat_natCast]
    refine compW_range (fun i => .int (bs.getD (((0 : Int) + (i : Nat)) % (1 + z1 % 4)).toNat 0)) (by omega) hn (fun i o H' Q' hi s2 q => ?_) (fun H' s2 e2 => ?_)
    ·walk_at "rd"
     refine rd_ixL (SqL.of (s2 _ _ (s1 _ _ ha))) I1 ?_
     walk_at "rd"
     refine rd_I (by decide) ?_
     walk_at "rd"
     have p1 : 0 < 1 + z1 % 4 := by omega
     refine rd_I p1 ?_
     walk_at "rd"
     have q0 := Int.emod_nonneg ((0 : Int) + (i : Nat)) (by omega : 1 + z1 % 4 ≠ 0)
     have q1 : ((0 : Int) + (i : Nat)) % (1 + z1 % 4) ≤ (0 : Int) + (i : Nat) := emod_le (by omega) (by omega)
     refine rd_ixL (SqL.of (s2 _ _ e1)) (atI_ints q0 (by omega)) ?_
     exact q H' (Same.refl _)
    ·walk_at "rd"
     refine k l2 ((List.range m).map fun i => bs.getD (((0 : Int) + (i : Nat)) % (1 + z1 % 4)).toNat 0) H' (s1.trans s2) (s1.free hn) (by rw [e2, List.map_map]; rfl) (by rw [List.length_map, List.length_range]) fun z hz => ?_
     obtain ⟨i, hi, rfl⟩ := List.mem_map.mp hz
     have hi := List.mem_range.mp hi
     have q0 := Int.emod_nonneg ((0 : Int) + (i : Nat)) (by omega : 1 + z1 % 4 ≠ 0)
     have q1 : ((0 : Int) + (i : Nat)) % (1 + z1 % 4) ≤ (0 : Int) + (i : Nat) := emod_le (by omega) (by omega)
     exact hb _ (L2.getD_mem (by omega))
   ·walk_at "rd"
    exact k l bs H1 s1 n1 e1 lb hb
end
section
variable {P : Program} {w : World} {K : PySem.W.Frag} {mg : Str → Option Value} {base : Heap} {t : Ad}
structure LoopAt (H : Hp) (p : Addr) (cs rs : List Int) : Prop where
 ob : ∃ c r, H p = some (.tup [.ref c, .ref r]) ∧ H c = some (.lst (cs.map V.int)) ∧ H r = some (.lst (rs.map V.int))
 bc : RBits cs
 br : RBits rs
theorem LoopAt.mono {H H' : Hp} {p : Addr} {cs rs : List Int} (e : Same H H') (c : LoopAt H p cs rs) : LoopAt H' p cs rs := by
 obtain ⟨⟨a, b, h1, h2, h3⟩, y, z⟩ := c
 exact ⟨⟨a, b, e _ _ h1, e _ _ h2, e _ _ h3⟩, y, z⟩
theorem pick_la (i : Int) : 0 < ([4, 4, 8, 20, 3] : List Int).getD (i % 5).toNat 0 ∧ ([4, 4, 8, 20, 3] : List Int).getD (i % 5).toNat 0 ≤ 20 := by
 have h := L2.getD_mem (zs := ([4, 4, 8, 20, 3] : List Int)) (k := (i % 5).toNat) (d := 0) (by simp; omega)
 simp only [List.mem_cons, List.not_mem_nil, or_false] at h
 rcases h with h | h | h | h | h <;> rw [h] <;> decide
theorem pick_lb (i : Int) : 0 < ([4, 8, 4, 3, 20] : List Int).getD (i % 5).toNat 0 ∧ ([4, 8, 4, 3, 20] : List Int).getD (i % 5).toNat 0 ≤ 20 := by
 have h := L2.getD_mem (zs := ([4, 8, 4, 3, 20] : List Int)) (k := (i % 5).toNat) (d := 0) (by simp; omega)
 simp only [List.mem_cons, List.not_mem_nil, or_false] at h
 rcases h with h | h | h | h | h <;> rw [h] <;> decide
def sp_Lloop : Sp := fun vs H Q _ => ∃ (a : Addr) (zs : List Int), vs = [.ref a] ∧ H a = some (.lst (zs.map V.int)) ∧ 11 ≤ zs.length ∧ ∀ p cs rs H', Same H H' → LoopAt H' p cs rs → Q (.ref p) H'
theorem ok_Lloop (T : Txt K mg t) : FnOk P w K mg base CX0 3 t.f_Lloop t.d_Lloop ["_law_some"] sp_Lloop := by
 have G_Lrow := ok_Lrow (P := P) (w := w) (base := base) T
 refine T.F_Lloop.ok sc_Lloop (fun vs H Q E h => ?_) (fun cdv A outer s H vs Q E hr h => ?_)
 ·obtain ⟨a, zs, rfl, _⟩ := h; rfl
 ·obtain ⟨a, zs, rfl, ha, hl, k⟩ := h
  refine cutC (ps_set (i := 1) sc_Lloop.nd rfl (Or.inl rfl) (pe_op op_add pe_int (pe_op op_mul pe_int (pe_op op_mod (pe_ix (ix_listK K rfl) (pv 0) pe_int (fun _ _ => rfl)) (pe_ix (ix_listK K rfl) (pe_lst (pa_cons pe_int (pa_cons pe_int (pa_cons pe_int (pa_cons pe_int (pa_cons pe_int pa_nil)))))) (pe_op op_mod (pe_ix (ix_listK K rfl) (pv 0) pe_int (fun _ _ => rfl)) pe_int) (fun _ _ => rfl)))))) fun _ _ => cutC (ps_set (i := 2) sc_Lloop.nd rfl (Or.inl rfl) (pe_op op_add pe_int (pe_op op_mul pe_int (pe_op op_mod (pe_ix (ix_listK K rfl) (pv 0) pe_int (fun _ _ => rfl)) (pe_ix (ix_listK K rfl) (pe_lst (pa_cons pe_int (pa_cons pe_int (pa_cons pe_int (pa_cons pe_int (pa_cons pe_int pa_nil)))))) (pe_op op_mod (pe_ix (ix_listK K rfl) (pv 0) pe_int (fun _ _ => rfl)) pe_int) (fun _ _ => rfl)))))) fun _ _ => cutE (ps_ret (pe_tup (pa_cons (pe_call G_Lrow (hr.mono (by first | decide | omega)) rfl T.mg_Lrow T.F_Lrow.kp T.b_Lrow .nil pass0 (pa_cons (pe_slice (sl_listK K rfl) (pv 0) (po_some pe_int) po_none) (pa_cons (pv 1) pa_nil))) (pa_cons (pe_call G_Lrow (hr.mono (by first | decide | omega)) rfl T.mg_Lrow T.F_Lrow.kp T.b_Lrow .nil pass0 (pa_cons (pe_slice (sl_listK K rfl) (pv 0) (po_some pe_int) po_none) (pa_cons (pv 2) pa_nil))) pa_nil)))) fun _ _ => ?_
  have I0 : atI (zs.map V.int) 0 = _ := atI_ints (by decide) (by omega)
  have I1 : atI (zs.map V.int) 1 = _ := atI_ints (by decide) (by omega)
  have I2 : atI (zs.map V.int) 2 = _ := atI_ints (by decide) (by omega)
  generalize zs.getD (0 : Int).toNat 0 = z0 at I0
  generalize zs.getD (1 : Int).toNat 0 = z1 at I1
  generalize zs.getD (2 : Int).toNat 0 = z2 at I2
  have m0 : 0 ≤ z0 % 5 := by omega
  have m5 : z0 % 5 < 5 := by omega
  walk_at "rd"
  refine rd_ixL (SqL.of ha) I1 ?_
  walk_at "rd"
  refine ⟨by show 5 ≤ sizeLine; decide, fun l1 n1 => ?_⟩
  have s1 := Same.new (o := HO.lst (([4, 4, 8, 20, 3] : List Int).map V.int)) n1
  walk_at "rd"
  refine rd_ixL (SqL.of (s1 _ _ ha)) I0 ?_
  walk_at "rd"
  refine rd_I (by decide) ?_
  walk_at "rd"
  refine rd_ixL (SqL.of (xs := ([4, 4, 8, 20, 3] : List Int).map V.int) upd_same) (atI_ints m0 m5) ?_
  walk_at "rd"
  refine rd_I (pick_la z0).1 ?_
  walk_at "rd"
  have va := pick_la z0
  have vb := pick_lb z0
  generalize ([4, 4, 8, 20, 3] : List Int).getD (z0 % 5).toNat 0 = va' at va ⊢
  have wa0 := Int.emod_nonneg z1 (by omega : va' ≠ 0)
  have wa1 := Int.emod_lt_of_pos z1 va.1
  refine rd_I (.inl ⟨by decide, by decide⟩) ?_
  walk_at "rd"
  refine rd_ixL (SqL.of (s1 _ _ ha)) I2 ?_
  walk_at "rd"
  refine ⟨by show 5 ≤ sizeLine; decide, fun l2 n2 => ?_⟩
  have s2 := Same.new (o := HO.lst (([4, 8, 4, 3, 20] : List Int).map V.int)) n2
  walk_at "rd"
  refine rd_ixL (SqL.of (s2 _ _ (s1 _ _ ha))) I0 ?_
  walk_at "rd"
  refine rd_I (by decide) ?_
  walk_at "rd"
  refine rd_ixL (SqL.of (xs := ([4, 8, 4, 3, 20] : List Int).map V.int) upd_same) (atI_ints m0 m5) ?_
  walk_at "rd"
  refine rd_I (pick_lb z0).1 ?_
  walk_at "rd"
  generalize ([4, 8, 4, 3, 20] : List Int).getD (z0 % 5).toNat 0 = vb' at vb ⊢
  have wb0 := Int.emod_nonneg z2 (by omega : vb' ≠ 0)
  have wb1 := Int.emod_lt_of_pos z2 vb.1
  refine rd_I (.inl ⟨by decide, by decide⟩) ?_
  walk_at "rd"
  have ha2 := s2 _ _ (s1 _ _ ha)
  refine rd_slL ha2 fun l3 n3 => ?_
  have s3 := Same.new (o := HO.lst (cutV (zs.map V.int) (some 3) none)) n3
  walk_at "rd"
  refine ⟨l3, (2 + 2 * (z1 % va')).toNat, zs.drop 3, (by show [V.ref l3, V.int (2 + 2 * (z1 % va'))] = _; rw [show (2 + 2 * (z1 % va') : Int) = (((2 + 2 * (z1 % va')).toNat : Nat) : Int) by omega]; rfl), by rw [upd_same]; exact congrArg (fun x => some (HO.lst x)) (cutV_drop (k := 3)), by rw [List.length_drop]; omega, by omega, fun c cs H1 s4 _ ec lc bc => ?_⟩
  walk_at "rd"
  have ha4 := s4 _ _ (s3 _ _ ha2)
  refine rd_slL ha4 fun l5 n5 => ?_
  have s5 := Same.new (o := HO.lst (cutV (zs.map V.int) (some 7) none)) n5
  walk_at "rd"
  refine ⟨l5, (2 + 2 * (z2 % vb')).toNat, zs.drop 7, (by show [V.ref l5, V.int (2 + 2 * (z2 % vb'))] = _; rw [show (2 + 2 * (z2 % vb') : Int) = (((2 + 2 * (z2 % vb')).toNat : Nat) : Int) by omega]; rfl), by rw [upd_same]; exact congrArg (fun x => some (HO.lst x)) (cutV_drop (k := 7)), by rw [List.length_drop]; omega, by omega, fun r rs H2 s6 _ er lr br => ?_⟩
  walk_at "rd"
  refine ⟨by show 2 ≤ sizeLine; decide, fun p hp => ?_⟩
  have s7 := Same.new (o := HO.tup [V.ref c, V.ref r]) hp
  exact k p cs rs _ (s1.trans (s2.trans (s3.trans (s4.trans (s5.trans (s6.trans s7)))))) ⟨⟨c, r, upd_same, s7 _ _ (s6 _ _ (s5 _ _ ec)), s7 _ _ er⟩, ⟨by unfold rOk; omega, bc⟩, ⟨by unfold rOk; omega, br⟩⟩
end
section
variable {P : Program} {w : World} {K : PySem.W.Frag} {mg : Str → Option Value} {base : Heap} {t : Ad}
def sp_Lring (C : Addr) : Sp := fun vs H Q _ => ∃ (p : Addr) (cs rs : List Int), vs = [.ref p] ∧ LoopAt H p cs rs ∧ ∀ x H', Same H H' → RingAt C H' x cs rs → Q (.ref x) H'
theorem ok_Lring (T : Txt K mg t) : FnOk P w K mg base CX0 8 t.f_Lring t.d_Lring ["_law_loop_here"] (sp_Lring t.a_Ring) := by
 have G_RingInit := ok_RingInit (P := P) (w := w) (base := base) T
 refine T.F_Lring.ok sc_Lring (fun vs H Q E h => ?_) (fun cdv A outer s H vs Q E hr h => ?_)
 ·obtain ⟨p, cs, rs, rfl, _⟩ := h; rfl
 ·obtain ⟨p, cs, rs, rfl, pl, k⟩ := h
  obtain ⟨⟨c, r, hp, hc, hr'⟩, bc, br⟩ := id pl
  refine ⟨_, (pss_one (ps_ret (pe_make T.mk_Ring G_RingInit (hr.mono (by first | decide | omega)) rfl T.mg_Ring T.b_RingInit .nil pass0 (pa_cons (pe_callTy (cI_listK K rfl) rfl T.no_list (by rfl) (pa_cons (pe_ix (ix_tupK K rfl) (pv 0) pe_int (fun _ _ => rfl)) pa_nil)) (pa_cons (pe_callTy (cI_listK K rfl) rfl T.no_list (by rfl) (pa_cons (pe_ix (ix_tupK K rfl) (pv 0) pe_int (fun _ _ => rfl)) pa_nil)) pa_nil))))), ?_⟩
  walk_at "rd"
  refine rd_ixT (SqT.of hp) (v := .ref c) rfl ?_
  walk_at "rd"
  refine rd_listL hc fun l1 n1 => ?_
  have s1 := Same.new (o := HO.lst (cs.map V.int)) n1
  walk_at "rd"
  refine rd_ixT (SqT.of (s1 _ _ hp)) (v := .ref r) rfl ?_
  walk_at "rd"
  refine rd_listL (s1 _ _ hr') fun l2 n2 => ?_
  have s2 := Same.new (o := HO.lst (rs.map V.int)) n2
  walk_at "rd"
  intro x dx nx ndx nex
  have s12 := s1.trans s2
  have h1 : upd (upd H l1 (.lst (cs.map V.int))) l2 (.lst (rs.map V.int)) l1 = some (.lst (cs.map V.int)) := s2 _ _ upd_same
  have h2 : upd (upd H l1 (.lst (cs.map V.int))) l2 (.lst (rs.map V.int)) l2 = some (.lst (rs.map V.int)) := upd_same
  generalize upd (upd H l1 (.lst (cs.map V.int))) l2 (.lst (rs.map V.int)) = H3 at h1 h2 s12 nx ndx ⊢
  have s3 : Same H3 (upd (upd H3 dx (.own x)) x (.ins t.a_Ring dx [])) := (Same.new ndx).later nx
  refine ⟨x, dx, l1, l2, cs, rs, rfl, upd_same, s3 _ _ h1, s3 _ _ h2, bc, br, fun H4 kp hC => ⟨rfl, ?_⟩⟩
  exact k x H4 (fun b o e => kp b o (s3 b o (s12 b o e)) (ne_of_none (s12 b o e) nx)) hC
end
local macro_rules | `(tactic| walk_at "rdr1") => `(tactic| first
 | ((with_reducible refine' rd_var (v := ?kv) ?ke ?kh); (case ke => exact rfl))
 | (with_reducible refine rd_seqA fun _ _ => ?_) | (with_reducible refine rd_asg ?_) | (with_reducible refine rd_name ?_) | (with_reducible refine rd_ret ?_) | (with_reducible refine rd_retN ?_) | (with_reducible refine rd_drop ?_)
 | (with_reducible refine rd_ifS ?_) | (with_reducible refine rd_tB ?_) | (with_reducible refine rd_tTest ?_) | (with_reducible refine rd_exbl ?_) | (with_reducible refine rd_c ?_) | (with_reducible refine rd_op ?_) | (with_reducible refine rd_un ?_)
 | (with_reducible refine rd_andV ?_) | (with_reducible refine rd_orV ?_) | (with_reducible refine rd_notV ?_) | (with_reducible refine rd_and ?_) | (with_reducible refine rd_or ?_) | (with_reducible refine rd_not ?_) | (with_reducible refine rd_true ?_)
 | (with_reducible refine rd_I0 ?_) | (with_reducible refine rd_U ?_) | (with_reducible refine rd_eqI ?_) | (with_reducible refine rd_neI ?_) | (with_reducible refine rd_eqS ?_) | (with_reducible refine rd_eqB ?_) | (with_reducible refine rd_neB ?_)
 | (with_reducible refine rd_chain ?_) | (with_reducible refine rd_call ?_) | (with_reducible refine rd_nil ?_) | (with_reducible refine rd_cons ?_) | (with_reducible refine rd_CB ?_) | (with_reducible refine rd_tup ?_) | (with_reducible refine rd_lst ?_)
 | (with_reducible refine rd_next ?_) | ((with_reducible refine' rd_aug (x := ?kv) ?ke ?kh); (case ke => exact rfl)) | (with_reducible refine rd_ipI ?_) | (with_reducible refine rd_gcons ?_) | (with_reducible refine rd_gnil ?_) | (with_reducible refine rd_gsub ?_) | (with_reducible refine rd_sfld ?_) | (with_reducible refine rd_while ?_) | (with_reducible refine rd_comp ?_) | (with_reducible refine rd_fld ?_) | (with_reducible refine rd_meth ?_) | (with_reducible refine rd_make ?_) | (with_reducible refine rd_raise ?_) | (with_reducible refine rd_try ?_) | (with_reducible refine rd_callS ?_) | (with_reducible refine rd_methS ?_) | (with_reducible refine rd_makeS ?_) | (with_reducible refine rd_bm ?_) | (with_reducible refine rd_bm0 ?_) | (with_reducible refine rd_sl ?_) | (with_reducible refine rd_nopart ?_) | (with_reducible refine rd_part ?_) | (with_reducible refine rd_exint ?_) | (with_reducible refine rd_exref ?_)
 | (with_reducible refine rd_augS ?_) | (with_reducible refine rd_dput ?_) | (with_reducible refine rd_din ?_) | (with_reducible refine rd_dnotin ?_) | (with_reducible refine rd_dnewT ?_) | (with_reducible refine rd_rng3 ?_) | (with_reducible refine rd_ienum ?_) | (with_reducible refine rd_abs ?_) | (with_reducible refine rd_min2 ?_) | (with_reducible refine rd_max2 ?_) | (with_reducible refine rd_intB ?_) | (with_reducible refine rd_for ?_) | (with_reducible refine rd_rng1 ?_) | (with_reducible refine rd_ilist ?_) | (with_reducible refine rd_itup ?_) | (with_reducible refine rd_izipS ?_) | (with_reducible refine iteT ?_) | (with_reducible refine iteF ?_) | (with_reducible refine if_true_do ?_) | (with_reducible refine iteNN ?_) | (with_reducible refine iteTA ?_) | (with_reducible refine iteFA ?_) | ((with_reducible refine' rd_cut (r := ?kr) ?ke ?kh); (case ke => assumption)) | (dsimp only))
local macro_rules | `(tactic| walk_at "rdr") => `(tactic| repeat walk_at "rdr1")
theorem nodup_le {α : Type} [DecidableEq α] : ∀ (a b : List α), a.Nodup → (∀ x ∈ a, x ∈ b) → a.length ≤ b.length
 | [], _, _, _ => Nat.zero_le _
 | x :: a, b, hn, hs => by
  rw [List.nodup_cons] at hn
  have hx := hs x List.mem_cons_self
  have ih := nodup_le a (b.erase x) hn.2 fun y hy => by
   have : y ≠ x := fun e => hn.1 (e ▸ hy)
   exact (List.mem_erase_of_ne this).mpr (hs y (List.mem_cons_of_mem _ hy))
  rw [List.length_erase_of_mem hx] at ih
  have := List.length_pos_of_mem hx
  rw [List.length_cons]
  omega
def st1 (N d x : Int) : Int := (x + if (x + d) % 2 = 1 then 1 else -1) % N
theorem st1_cases {N d x : Int} (hN : 2 ≤ N) (h0 : 0 ≤ x) (h1 : x < N) :
  ((x + d) % 2 = 1 ∧ ((x + 1 < N ∧ st1 N d x = x + 1) ∨ (x + 1 = N ∧ st1 N d x = 0))) ∨ (¬ (x + d) % 2 = 1 ∧ ((0 < x ∧ st1 N d x = x - 1) ∨ (x = 0 ∧ st1 N d x = N - 1))) := by
 unfold st1
 by_cases h : (x + d) % 2 = 1
 ·rw [if_pos h]
  refine .inl ⟨h, ?_⟩
  by_cases hx : x + 1 < N
  ·exact .inl ⟨hx, Int.emod_eq_of_lt (by omega) hx⟩
  ·exact .inr ⟨by omega, by rw [show x + 1 = N by omega, Int.emod_self]⟩
 ·rw [if_neg h]
  refine .inr ⟨h, ?_⟩
  by_cases hx : 0 < x
  ·exact .inl ⟨hx, by rw [Int.emod_eq_of_lt (by omega) (by omega)]; omega⟩
  ·refine .inr ⟨by omega, ?_⟩
   rw [show x + -1 = N - 1 + N * (-1) by omega, Int.add_mul_emod_self_left, Int.emod_eq_of_lt (by omega) (by omega)]
theorem st1_in {N d x : Int} (hN : 2 ≤ N) (h0 : 0 ≤ x) (h1 : x < N) : 0 ≤ st1 N d x ∧ st1 N d x < N := by
 rcases st1_cases (d := d) hN h0 h1 with ⟨_, h | h⟩ | ⟨_, h | h⟩ <;> omega
theorem st1_par {N d x : Int} (hN : 2 ≤ N) (ev : N % 2 = 0) (h0 : 0 ≤ x) (h1 : x < N) : (st1 N d x + x) % 2 = 1 := by
 rcases st1_cases (d := d) hN h0 h1 with ⟨_, h | h⟩ | ⟨_, h | h⟩ <;> omega
theorem st1_inv {N d x : Int} (hN : 2 ≤ N) (ev : N % 2 = 0) (h0 : 0 ≤ x) (h1 : x < N) : st1 N d (st1 N d x) = x := by
 have hi := st1_in (d := d) hN h0 h1
 rcases st1_cases (d := d) hN h0 h1 with ⟨_, h | h⟩ | ⟨_, h | h⟩ <;> rcases st1_cases (d := d) hN hi.1 hi.2 with ⟨_, g | g⟩ | ⟨_, g | g⟩ <;> omega
def gR (cs rs : List Int) (p : Int × Int) : Int × Int := (st1 cs.length (rs.getD p.2.toNat 0) p.1, p.2)
def gC (cs rs : List Int) (p : Int × Int) : Int × Int := (p.1, st1 rs.length (cs.getD p.1.toNat 0) p.2)
def InR (cs rs : List Int) (p : Int × Int) : Prop := (0 ≤ p.1 ∧ p.1 < cs.length) ∧ 0 ≤ p.2 ∧ p.2 < rs.length
def EvS (cs rs : List Int) : Prop := (2 ≤ cs.length ∧ cs.length % 2 = 0) ∧ 2 ≤ rs.length ∧ rs.length % 2 = 0
section
variable {cs rs : List Int} {p q : Int × Int}
theorem gR_in (e : EvS cs rs) (h : InR cs rs p) : InR cs rs (gR cs rs p) := ⟨st1_in (by have := e.1.1; omega) h.1.1 h.1.2, h.2⟩
theorem gC_in (e : EvS cs rs) (h : InR cs rs p) : InR cs rs (gC cs rs p) := ⟨h.1, st1_in (by have := e.2.1; omega) h.2.1 h.2.2⟩
theorem gR_inv (e : EvS cs rs) (h : InR cs rs p) : gR cs rs (gR cs rs p) = p := by
 have := st1_inv (d := rs.getD p.2.toNat 0) (by have := e.1.1; omega) (by have := e.1.2; omega) h.1.1 h.1.2
 exact Prod.ext this rfl
theorem gC_inv (e : EvS cs rs) (h : InR cs rs p) : gC cs rs (gC cs rs p) = p := by
 have := st1_inv (d := cs.getD p.1.toNat 0) (by have := e.2.1; omega) (by have := e.2.2; omega) h.2.1 h.2.2
 exact Prod.ext rfl this
theorem gR_par (e : EvS cs rs) (h : InR cs rs p) : ((gR cs rs p).1 + (gR cs rs p).2 + (p.1 + p.2)) % 2 = 1 := by
 have := st1_par (d := rs.getD p.2.toNat 0) (by have := e.1.1; omega) (by have := e.1.2; omega) h.1.1 h.1.2
 show (st1 _ _ p.1 + p.2 + (p.1 + p.2)) % 2 = 1
 omega
theorem gC_par (e : EvS cs rs) (h : InR cs rs p) : ((gC cs rs p).1 + (gC cs rs p).2 + (p.1 + p.2)) % 2 = 1 := by
 have := st1_par (d := cs.getD p.1.toNat 0) (by have := e.2.1; omega) (by have := e.2.2; omega) h.2.1 h.2.2
 show (p.1 + st1 _ _ p.2 + (p.1 + p.2)) % 2 = 1
 omega
theorem gR_inj (e : EvS cs rs) (h : InR cs rs p) (h' : InR cs rs q) (z : gR cs rs p = gR cs rs q) : p = q := by rw [← gR_inv e h, z, gR_inv e h']
theorem gC_inj (e : EvS cs rs) (h : InR cs rs p) (h' : InR cs rs q) (z : gC cs rs p = gC cs rs q) : p = q := by rw [← gC_inv e h, z, gC_inv e h']
def itr (cs rs : List Int) : Nat → Int × Int → Int × Int
 | 0, p => p
 | n + 1, p => gC cs rs (gR cs rs (itr cs rs n p))
theorem itr_in (e : EvS cs rs) (h : InR cs rs p) : ∀ n, InR cs rs (itr cs rs n p)
 | 0 => h
 | n + 1 => gC_in e (gR_in e (itr_in e h n))
theorem itr_par (e : EvS cs rs) (h : InR cs rs p) : ∀ n, ((itr cs rs n p).1 + (itr cs rs n p).2 + (p.1 + p.2)) % 2 = 0
 | 0 => by show (p.1 + p.2 + (p.1 + p.2)) % 2 = 0; omega
 | n + 1 => by
  have h1 := itr_par e h n
  have h2 := gR_par e (itr_in e h n)
  have h3 := gC_par e (gR_in e (itr_in e h n))
  show ((gC cs rs (gR cs rs (itr cs rs n p))).1 + (gC cs rs (gR cs rs (itr cs rs n p))).2 + (p.1 + p.2)) % 2 = 0
  omega
theorem itr_step_inj (e : EvS cs rs) (h : InR cs rs p) (h' : InR cs rs q) {i j : Nat} (z : itr cs rs (i + 1) p = itr cs rs (j + 1) q) : itr cs rs i p = itr cs rs j q :=
 gR_inj e (itr_in e h i) (itr_in e h' j) (gC_inj e (gR_in e (itr_in e h i)) (gR_in e (itr_in e h' j)) z)
theorem itr_back (e : EvS cs rs) (h : InR cs rs p) : ∀ (i k : Nat), itr cs rs i p = itr cs rs (i + k) p → p = itr cs rs k p
 | 0, k, z => by rw [Nat.zero_add] at z; exact z
 | i + 1, k, z => itr_back e h i k (itr_step_inj e h h (by rw [show i + k + 1 = i + 1 + k by omega]; exact z))
def NoRet (cs rs : List Int) (p : Int × Int) (n : Nat) : Prop := ∀ j, 0 < j → j < n → itr cs rs j p ≠ p
theorem itr_ne (e : EvS cs rs) (h : InR cs rs p) {n i j : Nat} (nr : NoRet cs rs p n) (hij : i < j) (hj : j < n) : itr cs rs i p ≠ itr cs rs j p := fun z => by
 have := itr_back e h i (j - i) (by rw [show i + (j - i) = j by omega]; exact z)
 exact nr (j - i) (by omega) (by omega) this.symm
def pts (cs rs : List Int) (p : Int × Int) : Nat → List (Int × Int)
 | 0 => []
 | n + 1 => pts cs rs p n ++ [itr cs rs n p, gR cs rs (itr cs rs n p)]
theorem pts_len (n : Nat) : (pts cs rs p n).length = 2 * n := by
 induction n with
 | zero => rfl
 | succ n ih => show (pts cs rs p n ++ _).length = _; rw [List.length_append, ih]; show 2 * n + 2 = _; omega
theorem mem_pts {n : Nat} : q ∈ pts cs rs p n ↔ ∃ i, i < n ∧ (q = itr cs rs i p ∨ q = gR cs rs (itr cs rs i p)) := by
 induction n with
 | zero => exact ⟨fun h => (by cases h), fun ⟨i, h, _⟩ => absurd h (Nat.not_lt_zero i)⟩
 | succ n ih =>
  show q ∈ pts cs rs p n ++ _ ↔ _
  rw [List.mem_append, ih]
  constructor
  ·rintro (⟨i, hi, h⟩ | h)
   ·exact ⟨i, by omega, h⟩
   ·simp only [List.mem_cons, List.not_mem_nil, or_false] at h
    exact ⟨n, by omega, h⟩
  ·rintro ⟨i, hi, h⟩
   by_cases e : i = n
   ·subst e
    exact .inr (by simp only [List.mem_cons, List.not_mem_nil, or_false]; exact h)
   ·exact .inl ⟨i, by omega, h⟩
theorem pts_in (e : EvS cs rs) (h : InR cs rs p) {n : Nat} : ∀ q ∈ pts cs rs p n, InR cs rs q := fun q hq => by
 obtain ⟨i, _, rfl | rfl⟩ := mem_pts.mp hq
 ·exact itr_in e h i
 ·exact gR_in e (itr_in e h i)
theorem itr_ne_gR (e : EvS cs rs) (h : InR cs rs p) (i j : Nat) : itr cs rs i p ≠ gR cs rs (itr cs rs j p) := fun z => by
 have h1 := itr_par e h i
 have h2 := itr_par e h j
 have h3 := gR_par e (itr_in e h j)
 rw [← z] at h3
 omega
theorem pts_nodup (e : EvS cs rs) (h : InR cs rs p) {n : Nat} (nr : NoRet cs rs p n) : (pts cs rs p n).Nodup := by
 induction n with
 | zero => exact List.nodup_nil
 | succ n ih =>
  have ih := ih fun j h0 h1 => nr j h0 (by omega)
  show (pts cs rs p n ++ [itr cs rs n p, gR cs rs (itr cs rs n p)]).Nodup
  rw [List.nodup_append]
  refine ⟨ih, ?_, ?_⟩
  ·rw [List.nodup_cons]
   exact ⟨fun hm => itr_ne_gR e h n n (List.mem_singleton.mp hm), (by simp)⟩
  ·intro a ha b hb z
   subst z
   obtain ⟨i, hi, hai⟩ := mem_pts.mp ha
   simp only [List.mem_cons, List.not_mem_nil, or_false] at hb
   rcases hai with rfl | rfl <;> rcases hb with hb | hb
   ·exact itr_ne e h nr hi (by omega) hb
   ·exact itr_ne_gR e h i n hb
   ·exact itr_ne_gR e h n i hb.symm
   ·exact itr_ne e h nr hi (by omega) (gR_inj e (itr_in e h i) (itr_in e h n) hb)
def dec (rs : List Int) (k : Nat) : Int × Int := (((k / rs.length : Nat) : Int), ((k % rs.length : Nat) : Int))
theorem dec_enc (h : InR cs rs p) : ∃ k, k < cs.length * rs.length ∧ dec rs k = p := by
 obtain ⟨⟨h1, h2⟩, h3, h4⟩ := h
 obtain ⟨x, y⟩ := p
 obtain ⟨x, rfl⟩ := Int.eq_ofNat_of_zero_le h1
 obtain ⟨y, rfl⟩ := Int.eq_ofNat_of_zero_le h3
 have hx : x < cs.length := by have : (x : Int) < cs.length := h2; omega
 have hy : y < rs.length := by have : (y : Int) < rs.length := h4; omega
 refine ⟨x * rs.length + y, ?_, ?_⟩
 ·have := Nat.mul_le_mul_right rs.length (show x + 1 ≤ cs.length by omega)
  rw [Nat.add_mul, Nat.one_mul] at this
  omega
 ·unfold dec
  rw [Nat.mul_comm, Nat.mul_add_div (by omega), Nat.div_eq_of_lt hy, Nat.mul_add_mod, Nat.mod_eq_of_lt hy]
  rfl
theorem few {l : List (Int × Int)} (hn : l.Nodup) (hi : ∀ q ∈ l, InR cs rs q) : l.length ≤ cs.length * rs.length := by
 have := nodup_le l ((List.range (cs.length * rs.length)).map (dec rs)) hn fun q hq => by
  obtain ⟨k, hk, rfl⟩ := dec_enc (hi q hq)
  exact List.mem_map.mpr ⟨k, List.mem_range.mpr hk, rfl⟩
 rwa [List.length_map, List.length_range] at this
theorem ret_few (e : EvS cs rs) (h : InR cs rs p) {n : Nat} (nr : NoRet cs rs p n) : 2 * n ≤ cs.length * rs.length := by
 have := few (pts_nodup e h nr) (pts_in e h)
 rwa [pts_len] at this
structure Rnd (cs rs : List Int) (p : Int × Int) (n : Nat) : Prop where
 pos : 1 ≤ n
 back : itr cs rs n p = p
 nr : NoRet cs rs p n
theorem Rnd.per (r : Rnd cs rs p n) : ∀ k, itr cs rs (k + n) p = itr cs rs k p
 | 0 => by rw [Nat.zero_add]; exact r.back
 | k + 1 => by
  rw [show k + 1 + n = k + n + 1 by omega]
  show gC cs rs (gR cs rs (itr cs rs (k + n) p)) = gC cs rs (gR cs rs (itr cs rs k p))
  rw [r.per k]
theorem Rnd.mod (r : Rnd cs rs p n) (k : Nat) : ∃ i, i < n ∧ itr cs rs k p = itr cs rs i p := by
 induction k using Nat.strongRecOn with
 | ind k ih =>
  by_cases h : k < n
  ·exact ⟨k, h, rfl⟩
  ·obtain ⟨i, hi, z⟩ := ih (k - n) (by have := r.pos; omega)
   refine ⟨i, hi, ?_⟩
   rw [← z, ← r.per (k - n), show k - n + n = k by omega]
theorem Rnd.meets (e : EvS cs rs) (h : InR cs rs p) (h' : InR cs rs q) (r : Rnd cs rs p n) : ∀ (i j : Nat), itr cs rs i q = itr cs rs j p → ∃ k, q = itr cs rs k p
 | 0, j, z => ⟨j, z⟩
 | i + 1, j, z => by
  refine r.meets e h h' i (j + n - 1) (itr_step_inj e h' h ?_)
  rw [show j + n - 1 + 1 = j + n by have := r.pos; omega, r.per j]
  exact z
theorem Rnd.apart (e : EvS cs rs) (h : InR cs rs p) (h' : InR cs rs q) (hp : (p.1 + p.2) % 2 = 0) (hq : (q.1 + q.2) % 2 = 0) {n m : Nat} (r : Rnd cs rs p n) (hn : q ∉ pts cs rs p n) : ∀ z ∈ pts cs rs q m, z ∉ pts cs rs p n := fun z hz hz' => by
 have on : ∀ i j, itr cs rs i q = itr cs rs j p → False := fun i j y => by
  obtain ⟨k, hk⟩ := r.meets e h h' i j y
  obtain ⟨l, hl, el⟩ := r.mod k
  exact hn (mem_pts.mpr ⟨l, hl, .inl (hk.trans el)⟩)
 have par : ∀ i j, itr cs rs i q ≠ gR cs rs (itr cs rs j p) := fun i j y => by
  have h1 := itr_par e h' i
  have h2 := itr_par e h j
  have h3 := gR_par e (itr_in e h j)
  rw [← y] at h3
  omega
 have par' : ∀ i j, gR cs rs (itr cs rs i q) ≠ itr cs rs j p := fun i j y => by
  have h1 := itr_par e h' i
  have h2 := itr_par e h j
  have h3 := gR_par e (itr_in e h' i)
  rw [y] at h3
  omega
 obtain ⟨i, _, hi⟩ := mem_pts.mp hz
 obtain ⟨j, _, hj⟩ := mem_pts.mp hz'
 rcases hi with rfl | rfl <;> rcases hj with hj | hj
 ·exact on i j hj
 ·exact par i j hj
 ·exact par' i j hj
 ·exact on i j (gR_inj e (itr_in e h' i) (itr_in e h j) hj)
def dR (rs : List Int) (p : Int × Int) : Int := if (p.1 + rs.getD p.2.toNat 0) % 2 = 1 then 1 else -1
def dC (cs : List Int) (p : Int × Int) : Int := if (p.2 + cs.getD p.1.toNat 0) % 2 = 1 then 1 else -1
def sumR (cs rs : List Int) (p : Int × Int) : Nat → Int
 | 0 => 0
 | n + 1 => sumR cs rs p n + dR rs (itr cs rs n p)
def sumC (cs rs : List Int) (p : Int × Int) : Nat → Int
 | 0 => 0
 | n + 1 => sumC cs rs p n + dC cs (gR cs rs (itr cs rs n p))
end
section
variable {P : Program} {w : World} {K : PySem.W.Frag} {mg : Str → Option Value} {base : Heap} {t : Ad}
theorem small1000' {n : Nat} (h : n < 2000) : n < sizeLine := Nat.lt_of_lt_of_le h (by decide)
def Pt (H : Hp) (v : V) (q : Int × Int) : Prop := ∃ a, v = .ref a ∧ H a = some (.tup [.int q.1, .int q.2])
theorem Pt.mono {H H' : Hp} {v : V} {q : Int × Int} (s : Same H H') (h : Pt H v q) : Pt H' v q := by
 obtain ⟨a, rfl, ha⟩ := h
 exact ⟨a, rfl, s _ _ ha⟩
theorem Pt.upd {H : Hp} {v : V} {q : Int × Int} {l : Addr} {u o : HO} (h : Pt H v q) (e : H l = some u) (ne : ∀ ys, HO.tup ys ≠ u) : Pt (upd H l o) v q := by
 obtain ⟨a, rfl, ha⟩ := h
 exact ⟨a, rfl, by rw [upd_ne (ne_of ha e (ne _))]; exact ha⟩
def PwPt (H : Hp) (xs : List V) (ps : List (Int × Int)) : Prop := xs.length = ps.length ∧ ∀ (i : Nat) v q, xs[i]? = some v → ps[i]? = some q → Pt H v q
theorem PwPt.mono {H H' : Hp} {xs : List V} {ps : List (Int × Int)} (s : Same H H') (h : PwPt H xs ps) : PwPt H' xs ps := ⟨h.1, fun i v q h1 h2 => (h.2 i v q h1 h2).mono s⟩
theorem PwPt.upd {H : Hp} {xs : List V} {ps : List (Int × Int)} {l : Addr} {u o : HO} (h : PwPt H xs ps) (e : H l = some u) (ne : ∀ ys, HO.tup ys ≠ u) : PwPt (upd H l o) xs ps := ⟨h.1, fun i v q h1 h2 => (h.2 i v q h1 h2).upd e ne⟩
theorem PwPt.snoc {H : Hp} {xs : List V} {ps : List (Int × Int)} {v : V} {q : Int × Int} (h : PwPt H xs ps) (hv : Pt H v q) : PwPt H (xs ++ [v]) (ps ++ [q]) := by
 refine ⟨by rw [List.length_append, List.length_append, h.1]; rfl, fun i v' q' h1 h2 => ?_⟩
 by_cases hi : i < xs.length
 ·rw [List.getElem?_append_left hi] at h1
  rw [List.getElem?_append_left (by rw [← h.1]; exact hi)] at h2
  exact h.2 i v' q' h1 h2
 ·rw [List.getElem?_append_right (by omega)] at h1
  rw [List.getElem?_append_right (by rw [← h.1]; omega), ← h.1] at h2
  cases hk : i - xs.length with
  | zero =>
   rw [hk] at h1 h2
   simp only [List.getElem?_cons_zero, Option.some.injEq] at h1 h2
   rw [← h1, ← h2]; exact hv
  | succ k => rw [hk] at h1; simp at h1
theorem RBits.evs {cs rs : List Int} (bc : RBits cs) (br : RBits rs) : EvS cs rs := ⟨⟨bc.1.1, bc.1.2.2⟩, br.1.1, br.1.2.2⟩
theorem dR_eq {rs : List Int} {x y : Int} : (if stB rs y x = true then (1 : Int) else -1) = dR rs (x, y) := by
 unfold stB dR
 by_cases h : (x + rs.getD y.toNat 0) % 2 = 1
 ·rw [decide_eq_true h, if_pos rfl, if_pos h]
 ·rw [decide_eq_false h, if_neg (by decide), if_neg h]
theorem dC_eq {cs : List Int} {x y : Int} : (if stB cs x y = true then (1 : Int) else -1) = dC cs (x, y) := by
 unfold stB dC
 by_cases h : (y + cs.getD x.toNat 0) % 2 = 1
 ·rw [decide_eq_true h, if_pos rfl, if_pos h]
 ·rw [decide_eq_false h, if_neg (by decide), if_neg h]
structure RndAt (H : Hp) (T l : Addr) (cs rs : List Int) (p : Int × Int) (n : Nat) : Prop where
 ob : H T = some (.tup [.ref l, .int (sumR cs rs p n / cs.length), .int (sumC cs rs p n / rs.length)])
 li : ∃ xs, H l = some (.lst xs) ∧ PwPt H xs (pts cs rs p n)
theorem RndAt.mono {H H' : Hp} {T l : Addr} {cs rs : List Int} {p : Int × Int} {n : Nat} (s : Same H H') (h : RndAt H T l cs rs p n) : RndAt H' T l cs rs p n :=
 ⟨s _ _ h.ob, let ⟨xs, h1, h2⟩ := h.li; ⟨xs, s _ _ h1, h2.mono s⟩⟩
def sp_walk (C : Addr) : Sp := fun vs H Q _ => ∃ (p a : Addr) (cs rs : List Int) (x y : Int), vs = [.ref p, .ref a] ∧ RingAt C H p cs rs ∧ RBits cs ∧ RBits rs ∧ H a = some (.tup [.int x, .int y]) ∧ InR cs rs (x, y) ∧
 ∀ n T l H', Same H H' → Rnd cs rs (x, y) n → H l = none → RndAt H' T l cs rs (x, y) n → Q (.ref T) H'
theorem ok_walk (T : Txt K mg t) : FnOk P w K mg base CX0 5 t.f_walk t.d_walk ["ring", "start"] (sp_walk t.a_Ring) := by
  have G_Ringwide := ok_Ringwide (P := P) (w := w) (base := base) T
  have G_Ringtall := ok_Ringtall (P := P) (w := w) (base := base) T
  have G_Ringstitched := ok_Ringstitched (P := P) (w := w) (base := base) T
  refine T.F_walk.ok sc_walk (fun vs H Q E h => ?_) (fun cdv A outer s H vs Q E hr h => ?_)
  · obtain ⟨p, a, cs, rs, x, y, rfl, _⟩ := h; rfl
  · obtain ⟨p, a, cs, rs, x, y, rfl, hC, bc, br, ha, hin, k⟩ := h
    have ev := RBits.evs bc br
    have lc := bc.1
    have lr := br.1
    unfold rOk at lc lr
    have big : cs.length * rs.length ≤ 1600 := Nat.mul_le_mul lc.2.1 lr.2.1
    refine cutC (ps_set (i := 2) sc_walk.nd rfl (Or.inl rfl) (pe_lst pa_nil)) fun _ _ => cutC (ps_set (i := 3) sc_walk.nd rfl (Or.inl rfl) pe_int) fun _ _ => cutC (ps_set (i := 4) sc_walk.nd rfl (Or.inl rfl) pe_int) fun _ _ => cutC (ps_set (i := 5) sc_walk.nd rfl (Or.inl rfl) (pv 1)) fun _ _ => cutC (ps_while PassesOwn.never (PW.pt (pw_or (pt_cmpR op_eq (pe_callB (cI_lenK K rfl) rfl T.no_len (by rfl) (pa_cons (pv 2) pa_nil)) pe_int (nomark _)) (pw_or1 (pt_cmpR (op_neD hr.units) (pv 5) (pv 1) (nomark _))))) (pss_cons (ps_set (i := 6) sc_walk.nd rfl (Or.inl rfl) (pe_ifExp (pt_val (pe_meth (pv 0) T.cl_Ring T.m_Ringstitched G_Ringstitched (hr.mono (by first | decide | omega)) T.b_Ringstitched .nil pass0 (pa_cons pe_str (pa_cons (pe_ix (ix_tupK K rfl) (pv 5) pe_int (fun _ _ => rfl)) (pa_cons (pe_ix (ix_tupK K rfl) (pv 5) pe_int (fun _ _ => rfl)) pa_nil))))) pe_int (pe_un un_neg pe_int))) (pss_cons (ps_set (i := 7) sc_walk.nd rfl (Or.inl rfl) (pe_tup (pa_cons (pe_op op_mod (pe_op op_add (pe_ix (ix_tupK K rfl) (pv 5) pe_int (fun _ _ => rfl)) (pv 6)) (pe_meth0 (pv 0) T.cl_Ring T.m_Ringwide G_Ringwide (hr.mono (by first | decide | omega)) T.b_Ringwide .nil pass0)) (pa_cons (pe_ix (ix_tupK K rfl) (pv 5) pe_int (fun _ _ => rfl)) pa_nil)))) (pss_cons (ps_set (i := 8) sc_walk.nd rfl (Or.inl rfl) (pe_ifExp (pt_val (pe_meth (pv 0) T.cl_Ring T.m_Ringstitched G_Ringstitched (hr.mono (by first | decide | omega)) T.b_Ringstitched .nil pass0 (pa_cons pe_str (pa_cons (pe_ix (ix_tupK K rfl) (pv 7) pe_int (fun _ _ => rfl)) (pa_cons (pe_ix (ix_tupK K rfl) (pv 7) pe_int (fun _ _ => rfl)) pa_nil))))) pe_int (pe_un un_neg pe_int))) (pss_cons (ps_expr (pe_bm PySem.F.plainAttrs_list PySem.F.slot_list_append PySem.F.type_list_append mt_append (pv 2) (pa_cons (pv 5) pa_nil))) (pss_cons (ps_expr (pe_bm PySem.F.plainAttrs_list PySem.F.slot_list_append PySem.F.type_list_append mt_append (pv 2) (pa_cons (pv 7) pa_nil))) (pss_cons (ps_aug (i := 3) sc_walk.nd rfl (Or.inl rfl) (pv 6) ip_add) (pss_cons (ps_aug (i := 4) sc_walk.nd rfl (Or.inl rfl) (pv 8) ip_add) (pss_one (ps_set (i := 5) sc_walk.nd rfl (Or.inl rfl) (pe_tup (pa_cons (pe_ix (ix_tupK K rfl) (pv 7) pe_int (fun _ _ => rfl)) (pa_cons (pe_op op_mod (pe_op op_add (pe_ix (ix_tupK K rfl) (pv 7) pe_int (fun _ _ => rfl)) (pv 8)) (pe_meth0 (pv 0) T.cl_Ring T.m_Ringtall G_Ringtall (hr.mono (by first | decide | omega)) T.b_Ringtall .nil pass0)) pa_nil))))))))))))) fun _ _ => cutE (ps_ret (pe_tup (pa_cons (pv 2) (pa_cons (pe_op op_fdiv (pv 3) (pe_meth0 (pv 0) T.cl_Ring T.m_Ringwide G_Ringwide (hr.mono (by first | decide | omega)) T.b_Ringwide .nil pass0)) (pa_cons (pe_op op_fdiv (pv 4) (pe_meth0 (pv 0) T.cl_Ring T.m_Ringtall G_Ringtall (hr.mono (by first | decide | omega)) T.b_Ringtall .nil pass0)) pa_nil))))) fun _ _ => ?_
    walk_at "rdr"
    refine ⟨Nat.zero_le _, fun l n1 => ?_⟩
    have s1 := Same.new (o := HO.lst []) n1
    have e1 := upd_same (H := H) (a := l) (o := HO.lst [])
    generalize upd H l (HO.lst []) = H1 at s1 e1 ⊢
    walk_at "rdr"
    refine ⟨fun m σ' H' => ∃ (i : Nat) (xs : List V) (b : Addr) (o6 o7 o8 : Option V), m = cs.length * rs.length + 1 - i ∧ σ' = [some (.ref p), some (.ref a), some (.ref l), some (.int (sumR cs rs (x, y) i)), some (.int (sumC cs rs (x, y) i)), some (.ref b), o6, o7, o8] ∧ Same H H' ∧ H' l = some (.lst xs) ∧
      PwPt H' xs (pts cs rs (x, y) i) ∧ Pt H' (.ref b) (itr cs rs i (x, y)) ∧ NoRet cs rs (x, y) i, ⟨_, 0, [], a, none, none, none, rfl, rfl, s1, e1, ⟨rfl, fun i v q h1 => by simp at h1⟩, ⟨a, rfl, s1 _ _ ha⟩, fun j h0 h1 => absurd h1 (Nat.not_lt_zero j)⟩, ?_⟩
    rintro m σ' H2 ⟨i, xs, b, o6, o7, o8, rfl, rfl, s2, e2, px, ⟨b', hb', hb⟩, nr⟩
    cases hb'
    have lx : xs.length = 2 * i := by rw [px.1, pts_len]
    have few := ret_few ev hin nr
    refine rd_orB (decide (i = 0)) (!decide (itr cs rs i (x, y) = (x, y))) (fun Q' q => ?_) (fun hc Q' q => ?_) ?_
    · walk_at "rdr"
      refine rd_lenL e2 ?_
      walk_at "rdr"
      rw [lx, show decide (((2 * i : Nat) : Int) = 0) = decide (i = 0) from decide_eq_decide.mpr (by omega)]
      exact q
    · walk_at "rdr"
      refine rd_neP hb (s2 _ _ ha) ?_
      walk_at "rdr"
      exact q
    · have hq := itr_in ev hin i
      have hc := gR_in ev hq
      refine ite2 (fun tt => ?_) (fun tf => ?_)
      · refine ⟨fun σ' H' => ∃ (xs : List V) (b : Addr) (o6 o7 o8 : Option V), σ' = [some (.ref p), some (.ref a), some (.ref l), some (.int (sumR cs rs (x, y) (i + 1))), some (.int (sumC cs rs (x, y) (i + 1))), some (.ref b), o6, o7, o8] ∧ Same H H' ∧ H' l = some (.lst xs) ∧
          PwPt H' xs (pts cs rs (x, y) (i + 1)) ∧ Pt H' (.ref b) (itr cs rs (i + 1) (x, y)), ?_, ?_⟩
        · rintro σ' H' ⟨xs, b, o6, o7, o8, rfl, s3, e3, px, hb⟩
          refine ⟨_, ?_, i + 1, xs, b, o6, o7, o8, rfl, rfl, s3, e3, px, hb, fun j h0 h1 => ?_⟩
          · omega
          · by_cases hj : j < i
            · exact nr j h0 hj
            · have : j = i := by omega
              subst this
              rw [decide_eq_false (by omega : ¬ j = 0), Bool.false_or] at tt
              intro z
              rw [decide_eq_true z] at tt
              cases tt
        · obtain ⟨dx, a1, b1, g1, g2, g3⟩ := hC.ob
          have hC2 := hC.mono s2
          have z1 := s2 _ _ g1
          have iS : itr cs rs (i + 1) (x, y) = gC cs rs (gR cs rs (itr cs rs i (x, y))) := rfl
          have sR : sumR cs rs (x, y) (i + 1) = sumR cs rs (x, y) i + dR rs (itr cs rs i (x, y)) := rfl
          have sC : sumC cs rs (x, y) (i + 1) = sumC cs rs (x, y) i + dC cs (gR cs rs (itr cs rs i (x, y))) := rfl
          have pS : pts cs rs (x, y) (i + 1) = pts cs rs (x, y) i ++ [itr cs rs i (x, y)] ++ [gR cs rs (itr cs rs i (x, y))] := by show _ ++ [_, _] = _; rw [List.append_assoc]; rfl
          rw [iS, sR, sC, pS]
          generalize itr cs rs i (x, y) = q at hb hq hc ⊢
          obtain ⟨qx, qy⟩ := q
          obtain ⟨⟨x0, x1⟩, y0, y1⟩ := hq
          obtain ⟨⟨c0, c1⟩, d0, d1⟩ := hc
          have cR : gR cs rs (qx, qy) = ((qx + dR rs (qx, qy)) % (cs.length : Int), qy) := rfl
          dsimp only at x0 x1 y0 y1 hb
          walk_at "rdr"
          refine rd_ifI (i := 1) (j := -1) (stB rs qy qx) (fun Q' k' => ?_) (fun Q' k' => ?_) (fun Q' k' => ?_) ?_
          · walk_at "rdr"
            refine rd_methv z1 (bfl_no _ _ (by decide +kernel)) ?_
            walk_at "rdr"
            refine rd_ixT (SqT.of hb) (v := .int qy) rfl ?_
            walk_at "rdr"
            refine rd_ixT (SqT.of hb) (v := .int qx) rfl ?_
            walk_at "rdr"
            refine ⟨p, "row", _, _, cs, rs, rs, cs, rfl, hC2, .inr ⟨rfl, rfl⟩, .inr ⟨rfl, rfl⟩, y0, y1, x0, x1, ?_⟩
            walk_at "rdr"
            exact k'
          · walk_at "rdr"
            exact k'
          · walk_at "rdr"
            exact k'
          rw [dR_eq]
          rw [cR] at c0 c1 d0 d1 ⊢
          generalize dR rs (qx, qy) = sr at c0 c1 d0 d1 ⊢
          walk_at "rdr"
          refine rd_ixT (SqT.of hb) (v := .int qx) rfl ?_
          walk_at "rdr"
          refine rd_methv z1 (bfl_no _ _ (by decide +kernel)) ?_
          walk_at "rdr"
          refine ⟨p, cs, rs, rfl, hC2, ?_⟩
          walk_at "rdr"
          refine rd_I (by omega) ?_
          walk_at "rdr"
          refine rd_ixT (SqT.of hb) (v := .int qy) rfl ?_
          walk_at "rdr"
          generalize (qx + sr) % (cs.length : Int) = cx at c0 c1 ⊢
          refine ⟨by show 2 ≤ sizeLine; decide, fun c nc => ?_⟩
          have s3 := Same.new (o := HO.tup [V.int cx, V.int qy]) nc
          have ec := upd_same (H := H2) (a := c) (o := HO.tup [V.int cx, V.int qy])
          generalize upd H2 c (HO.tup [V.int cx, V.int qy]) = H3 at s3 ec ⊢
          walk_at "rdr"
          refine rd_ifI (i := 1) (j := -1) (stB cs cx qy) (fun Q' k' => ?_) (fun Q' k' => ?_) (fun Q' k' => ?_) ?_
          · walk_at "rdr"
            refine rd_methv (s3 _ _ z1) (bfl_no _ _ (by decide +kernel)) ?_
            walk_at "rdr"
            refine rd_ixT (SqT.of ec) (v := .int cx) rfl ?_
            walk_at "rdr"
            refine rd_ixT (SqT.of ec) (v := .int qy) rfl ?_
            walk_at "rdr"
            refine ⟨p, "col", _, _, cs, rs, cs, rs, rfl, hC2.mono s3, .inl ⟨rfl, rfl⟩, .inl ⟨rfl, rfl⟩, c0, c1, y0, y1, ?_⟩
            walk_at "rdr"
            exact k'
          · walk_at "rdr"
            exact k'
          · walk_at "rdr"
            exact k'
          rw [dC_eq]
          have cC : gC cs rs (cx, qy) = (cx, (qy + dC cs (cx, qy)) % (rs.length : Int)) := rfl
          rw [cC]
          generalize dC cs (cx, qy) = sc at *
          walk_at "rdr"
          have e3 := s3 _ _ e2
          refine rd_bmL e3 ?_
          walk_at "rdr"
          refine rd_append e3 (by rw [lx]; exact small1000' (by omega)) ?_
          have px4 := ((px.mono s3).upd (o := .lst (xs ++ [V.ref b])) e3 (by intro ys z; cases z)).snoc (q := (qx, qy)) ((Pt.upd (q := (qx, qy)) (o := .lst (xs ++ [V.ref b])) ⟨b, rfl, s3 _ _ hb⟩ e3 (by intro ys z; cases z)))
          have s4 := (s2.trans s3).later (o := .lst (xs ++ [V.ref b])) n1
          have e4 := upd_same (H := H3) (a := l) (o := .lst (xs ++ [V.ref b]))
          have ec4 : upd H3 l (.lst (xs ++ [V.ref b])) c = _ := (upd_ne (ne_of ec e3 (by intro z; cases z))).trans ec
          have hC4 : RingAt t.a_Ring (upd H3 l (.lst (xs ++ [V.ref b]))) p cs rs := hC.mono s4
          generalize upd H3 l (.lst (xs ++ [V.ref b])) = H4 at px4 s4 e4 ec4 hC4 ⊢
          walk_at "rdr"
          refine rd_bmL e4 ?_
          walk_at "rdr"
          refine rd_append e4 (by rw [List.length_append, lx]; exact small1000' (by show 2 * i + 1 < 2000; omega)) ?_
          have px5 := (px4.upd (o := .lst (xs ++ [V.ref b] ++ [V.ref c])) e4 (by intro ys z; cases z)).snoc (q := (cx, qy)) (Pt.upd (q := (cx, qy)) (o := .lst (xs ++ [V.ref b] ++ [V.ref c])) ⟨c, rfl, ec4⟩ e4 (by intro ys z; cases z))
          have s5 := s4.later (o := .lst (xs ++ [V.ref b] ++ [V.ref c])) n1
          have e5 := upd_same (H := H4) (a := l) (o := .lst (xs ++ [V.ref b] ++ [V.ref c]))
          have ec5 : upd H4 l (.lst (xs ++ [V.ref b] ++ [V.ref c])) c = _ := (upd_ne (ne_of ec4 e4 (by intro z; cases z))).trans ec4
          generalize upd H4 l (.lst (xs ++ [V.ref b] ++ [V.ref c])) = H5 at px5 s5 e5 ec5 ⊢
          walk_at "rdr"
          refine rd_ixT (SqT.of ec5) (v := .int cx) rfl ?_
          walk_at "rdr"
          refine rd_ixT (SqT.of ec5) (v := .int qy) rfl ?_
          walk_at "rdr"
          refine rd_methv (s5 _ _ g1) (bfl_no _ _ (by decide +kernel)) ?_
          walk_at "rdr"
          refine ⟨p, cs, rs, rfl, hC.mono s5, ?_⟩
          walk_at "rdr"
          refine rd_I (by omega) ?_
          walk_at "rdr"
          refine ⟨by show 2 ≤ sizeLine; decide, fun d nd => ?_⟩
          have s6 := Same.new (o := HO.tup [V.int cx, V.int ((qy + sc) % (rs.length : Int))]) nd
          walk_at "rdr"
          exact ⟨_, d, _, _, _, rfl, s5.trans s6, s6 _ _ e5, px5.mono s6, ⟨d, rfl, upd_same⟩⟩
      · have tf : i ≠ 0 ∧ itr cs rs i (x, y) = (x, y) := by
          rw [Bool.not_eq_true, Bool.or_eq_false_iff] at tf
          refine ⟨of_decide_eq_false tf.1, ?_⟩
          have := tf.2
          by_cases z : itr cs rs i (x, y) = (x, y)
          · exact z
          · rw [decide_eq_false z] at this; cases this
        obtain ⟨dx, a1, b1, g1, g2, g3⟩ := hC.ob
        walk_at "rdr"
        refine rd_methv (s2 _ _ g1) (bfl_no _ _ (by decide +kernel)) ?_
        walk_at "rdr"
        refine ⟨p, cs, rs, rfl, hC.mono s2, ?_⟩
        walk_at "rdr"
        refine rd_I ⟨by omega, by omega⟩ ?_
        walk_at "rdr"
        refine rd_methv (s2 _ _ g1) (bfl_no _ _ (by decide +kernel)) ?_
        walk_at "rdr"
        refine ⟨p, cs, rs, rfl, hC.mono s2, ?_⟩
        walk_at "rdr"
        refine rd_I ⟨by omega, by omega⟩ ?_
        walk_at "rdr"
        refine ⟨by show 3 ≤ sizeLine; decide, fun T nT => ?_⟩
        have s3 := Same.new (o := HO.tup [V.ref l, V.int (sumR cs rs (x, y) i / cs.length), V.int (sumC cs rs (x, y) i / rs.length)]) nT
        exact k i T l _ (s2.trans s3) ⟨by omega, tf.2, nr⟩ n1 ⟨upd_same, xs, s3 _ _ e2, px.mono s3⟩
end
section
variable {cs rs : List Int}
def flat (cs rs : List Int) (L : List ((Int × Int) × Nat)) : List (Int × Int) := L.flatMap fun r => pts cs rs r.1 r.2
theorem flat_snoc (L : List ((Int × Int) × Nat)) (r : (Int × Int) × Nat) : flat cs rs (L ++ [r]) = flat cs rs L ++ pts cs rs r.1 r.2 := by
 unfold flat
 rw [List.flatMap_append]
 simp
theorem mem_flat {L : List ((Int × Int) × Nat)} {q : Int × Int} : q ∈ flat cs rs L ↔ ∃ r ∈ L, q ∈ pts cs rs r.1 r.2 := List.mem_flatMap
structure PartL (cs rs : List Int) (L : List ((Int × Int) × Nat)) : Prop where
 rnd : ∀ r ∈ L, InR cs rs r.1 ∧ (r.1.1 + r.1.2) % 2 = 0 ∧ Rnd cs rs r.1 r.2
 nd : (flat cs rs L).Nodup
theorem PartL.nil : PartL cs rs [] := ⟨fun r h => (by cases h), List.nodup_nil⟩
theorem PartL.in_ (e : EvS cs rs) {L : List ((Int × Int) × Nat)} (h : PartL cs rs L) : ∀ q ∈ flat cs rs L, InR cs rs q := fun q hq => by
 obtain ⟨r, hr, hq⟩ := mem_flat.mp hq
 exact pts_in e (h.rnd r hr).1 q hq
theorem PartL.add (e : EvS cs rs) {L : List ((Int × Int) × Nat)} (h : PartL cs rs L) {p : Int × Int} {n : Nat} (hp : InR cs rs p) (ev : (p.1 + p.2) % 2 = 0) (r : Rnd cs rs p n) (hn : p ∉ flat cs rs L) : PartL cs rs (L ++ [(p, n)]) := by
 refine ⟨fun r' hr' => ?_, ?_⟩
 ·rcases List.mem_append.mp hr' with z | z
  ·exact h.rnd r' z
  ·rw [List.mem_singleton.mp z]; exact ⟨hp, ev, r⟩
 ·rw [flat_snoc, List.nodup_append]
  refine ⟨h.nd, pts_nodup e hp r.nr, fun a ha b hb z => ?_⟩
  subst z
  obtain ⟨r', hr', ha⟩ := mem_flat.mp ha
  obtain ⟨h1, h2, h3⟩ := h.rnd r' hr'
  exact h3.apart e h1 hp h2 ev (fun z => hn (mem_flat.mpr ⟨r', hr', z⟩)) a hb ha
theorem odd_cov (e : EvS cs rs) {L : List ((Int × Int) × Nat)} (h : PartL cs rs L) (hc : ∀ q, InR cs rs q → (q.1 + q.2) % 2 = 0 → q ∈ flat cs rs L) (q : Int × Int) (hq : InR cs rs q) : q ∈ flat cs rs L := by
 by_cases ev : (q.1 + q.2) % 2 = 0
 ·exact hc q hq ev
 ·have h1 := gR_par e hq
  obtain ⟨r, hr, hm⟩ := mem_flat.mp (hc _ (gR_in e hq) (by omega))
  obtain ⟨k1, k2, k3⟩ := h.rnd r hr
  obtain ⟨i, hi, hz | hz⟩ := mem_pts.mp hm
  ·exact mem_flat.mpr ⟨r, hr, mem_pts.mpr ⟨i, hi, .inr (by rw [← hz, gR_inv e hq])⟩⟩
  ·have := gR_inj e hq (itr_in e k1 i) hz
   have := itr_par e k1 i
   subst q
   omega
theorem mem_start {p : Int × Int} {n : Nat} (r : Rnd cs rs p n) : p ∈ pts cs rs p n := mem_pts.mpr ⟨0, r.pos, .inl rfl⟩
end
section
variable {cs rs : List Int} {p q : Int × Int}
theorem Rnd.uniq {n m : Nat} (a : Rnd cs rs p n) (b : Rnd cs rs p m) : n = m := by
 have h1 : ¬ n < m := fun h => b.nr n a.pos h a.back
 have h2 : ¬ m < n := fun h => a.nr m b.pos h b.back
 omega
def ev1 (i m : Nat) : List (Int × Int) := ((List.range m).filter fun y => decide ((i + y) % 2 = 0)).map fun y => (((i : Nat) : Int), ((y : Nat) : Int))
def evs (ht x : Nat) : List (Int × Int) := (List.range x).flatMap fun i => ev1 i ht
theorem ev1_zero (i : Nat) : ev1 i 0 = [] := rfl
theorem ev1_even {i m : Nat} (h : (i + m) % 2 = 0) : ev1 i (m + 1) = ev1 i m ++ [(((i : Nat) : Int), ((m : Nat) : Int))] := by
 unfold ev1
 rw [List.range_succ, List.filter_append, List.map_append, List.filter_cons, if_pos (decide_eq_true h)]
 rfl
theorem ev1_odd {i m : Nat} (h : ¬ (i + m) % 2 = 0) : ev1 i (m + 1) = ev1 i m := by
 unfold ev1
 rw [List.range_succ, List.filter_append, List.map_append, List.filter_cons, if_neg (by rw [decide_eq_false h]; decide)]
 exact List.append_nil _
theorem evs_succ (ht x : Nat) : evs ht (x + 1) = evs ht x ++ ev1 x ht := by
 unfold evs
 rw [List.range_succ, List.flatMap_append]
 simp
theorem mem_ev1 {i m : Nat} : q ∈ ev1 i m ↔ q.1 = (i : Nat) ∧ 0 ≤ q.2 ∧ q.2 < (m : Nat) ∧ (q.1 + q.2) % 2 = 0 := by
 unfold ev1
 rw [List.mem_map]
 constructor
 ·rintro ⟨y, hy, rfl⟩
  rw [List.mem_filter, List.mem_range] at hy
  have := of_decide_eq_true hy.2
  refine ⟨rfl, ?_, ?_, ?_⟩
  ·show (0 : Int) ≤ (y : Nat); omega
  ·show ((y : Nat) : Int) < (m : Nat); omega
  ·show (((i : Nat) : Int) + ((y : Nat) : Int)) % 2 = 0; omega
 ·rintro ⟨h1, h2, h3, h4⟩
  refine ⟨q.2.toNat, ?_, Prod.ext h1.symm (by show ((q.2.toNat : Nat) : Int) = q.2; omega)⟩
  rw [List.mem_filter, List.mem_range]
  exact ⟨by omega, decide_eq_true (by omega)⟩
theorem mem_evs {ht x : Nat} : q ∈ evs ht x ↔ 0 ≤ q.1 ∧ q.1 < (x : Nat) ∧ 0 ≤ q.2 ∧ q.2 < (ht : Nat) ∧ (q.1 + q.2) % 2 = 0 := by
 unfold evs
 rw [List.mem_flatMap]
 constructor
 ·rintro ⟨i, hi, h⟩
  rw [List.mem_range] at hi
  rw [mem_ev1] at h
  exact ⟨by omega, by omega, h.2⟩
 ·rintro ⟨h1, h2, h3⟩
  exact ⟨q.1.toNat, List.mem_range.mpr (by omega), mem_ev1.mpr ⟨by omega, h3⟩⟩
inductive Gath (cs rs : List Int) : List (Int × Int) → List ((Int × Int) × Nat) → Prop
 | nil : Gath cs rs [] []
 | skip {ps : List (Int × Int)} {L : List ((Int × Int) × Nat)} {q : Int × Int} : Gath cs rs ps L → q ∈ flat cs rs L → Gath cs rs (ps ++ [q]) L
 | add {ps : List (Int × Int)} {L : List ((Int × Int) × Nat)} {q : Int × Int} {n : Nat} : Gath cs rs ps L → q ∉ flat cs rs L → Rnd cs rs q n → Gath cs rs (ps ++ [q]) (L ++ [(q, n)])
theorem Gath.uniq {ps : List (Int × Int)} {L : List ((Int × Int) × Nat)} (a : Gath cs rs ps L) : ∀ {L' : List ((Int × Int) × Nat)}, Gath cs rs ps L' → L = L' := by
 induction a with
 | nil =>
  intro L' b
  generalize e : ([] : List (Int × Int)) = ps at b
  cases b with
  | nil => rfl
  | skip => simp at e
  | add => simp at e
 | @skip ps L q a h ih =>
  intro L' b
  generalize e : ps ++ [q] = ps' at b
  cases b with
  | nil => simp at e
  | @skip ps2 L2 q2 b h2 =>
   obtain ⟨rfl, e2⟩ := List.append_inj' e rfl
   exact ih b
  | @add ps2 L2 q2 n b h2 r =>
   obtain ⟨rfl, e2⟩ := List.append_inj' e rfl
   have := ih b
   injection e2 with e2
   subst this e2
   exact absurd h h2
 | @add ps L q n a h r ih =>
  intro L' b
  generalize e : ps ++ [q] = ps' at b
  cases b with
  | nil => simp at e
  | @skip ps2 L2 q2 b h2 =>
   obtain ⟨rfl, e2⟩ := List.append_inj' e rfl
   have := ih b
   injection e2 with e2
   subst this e2
   exact absurd h2 h
  | @add ps2 L2 q2 m b h2 r2 =>
   obtain ⟨rfl, e2⟩ := List.append_inj' e rfl
   have := ih b
   injection e2 with e2
   subst this e2
   rw [r.uniq r2]
theorem Gath.cov {ps : List (Int × Int)} {L : List ((Int × Int) × Nat)} (a : Gath cs rs ps L) : ∀ q ∈ ps, q ∈ flat cs rs L := by
 induction a with
 | nil => intro q h; cases h
 | skip a h ih =>
  intro q hq
  rcases List.mem_append.mp hq with z | z
  ·exact ih q z
  ·rw [List.mem_singleton.mp z]; exact h
 | add a h r ih =>
  intro q hq
  rw [flat_snoc]
  rcases List.mem_append.mp hq with z | z
  ·exact List.mem_append_left _ (ih q z)
  ·rw [List.mem_singleton.mp z]; exact List.mem_append_right _ (mem_start r)
theorem Gath.least {ps : List (Int × Int)} {L : List ((Int × Int) × Nat)} (a : Gath cs rs ps L) (pa : PartL cs rs L) (so : ps.Pairwise Ts.ple) : ∀ r ∈ L, ∀ z ∈ pts cs rs r.1 r.2, z ∈ ps → Ts.ple r.1 z := by
 induction a with
 | nil => intro r h; cases h
 | @skip ps L q a h ih =>
  intro r hr z hz hp
  rw [List.pairwise_append] at so
  have nd := pa.nd
  rcases List.mem_append.mp hp with hp | hp
  ·exact ih pa so.1 r hr z hz hp
  ·have e := List.mem_singleton.mp hp
   subst e
   obtain ⟨r', hr', hz'⟩ := mem_flat.mp h
   have hst : r.1 ∈ ps ∨ Ts.ple r.1 z := by
    left
    have : ∀ {ps L}, Gath cs rs ps L → ∀ r ∈ L, r.1 ∈ ps := by
     intro ps L g
     induction g with
     | nil => intro r h; cases h
     | skip _ _ ih => intro r hr; exact List.mem_append_left _ (ih r hr)
     | add _ _ _ ih =>
      intro r hr
      rcases List.mem_append.mp hr with z | z
      ·exact List.mem_append_left _ (ih r z)
      ·rw [List.mem_singleton.mp z]; exact List.mem_append_right _ (by simp)
    exact this a r hr
   rcases hst with hs | hs
   ·exact so.2.2 _ hs _ (by simp)
   ·exact hs
 | @add ps L q n a h r ih =>
  intro r' hr z hz hp
  rw [List.pairwise_append] at so
  have nd := pa.nd
  rw [flat_snoc, List.nodup_append] at nd
  rcases List.mem_append.mp hr with hr | hr
  ·have hzL : z ∈ flat cs rs L := mem_flat.mpr ⟨r', hr, hz⟩
   rcases List.mem_append.mp hp with hp | hp
   ·exact ih ⟨fun x hx => pa.rnd x (List.mem_append_left _ hx), nd.1⟩ so.1 r' hr z hz hp
   ·rw [List.mem_singleton.mp hp] at hzL
    exact absurd hzL h
  ·have e := List.mem_singleton.mp hr
   subst e
   rcases List.mem_append.mp hp with hp | hp
   ·exact absurd rfl (nd.2.2 z (a.cov z hp) z hz)
   ·rw [List.mem_singleton.mp hp]
    exact Ts.ple_refl _
theorem ev1_sorted (i m : Nat) : (ev1 i m).Pairwise Ts.ple := by
 unfold ev1
 rw [List.pairwise_map]
 refine List.Pairwise.imp_of_mem (R := fun a b => a < b) (fun {a b} _ _ h => ?_) (List.Pairwise.filter _ List.pairwise_lt_range)
 unfold Ts.ple
 show ((i : Nat) : Int) < ((i : Nat) : Int) ∨ (((i : Nat) : Int) = ((i : Nat) : Int) ∧ ((a : Nat) : Int) ≤ ((b : Nat) : Int))
 omega
theorem evs_sorted (ht x : Nat) : (evs ht x).Pairwise Ts.ple := by
 induction x with
 | zero => exact List.Pairwise.nil
 | succ x ih =>
  rw [evs_succ, List.pairwise_append]
  refine ⟨ih, ev1_sorted _ _, fun a ha b hb => ?_⟩
  have h1 := mem_evs.mp ha
  have h2 := mem_ev1.mp hb
  unfold Ts.ple
  omega
end
def ky (q : Int × Int) : List Key := [Sum.inl q.1, Sum.inl q.2]
theorem ky_inj {p q : Int × Int} (h : ky p = ky q) : p = q := by
 unfold ky at h
 simp only [List.cons.injEq, Sum.inl.injEq, and_true] at h
 exact Prod.ext h.1 h.2
def KeysAre (kvs : List (List Key × V)) (ps : List (Int × Int)) : Prop := kvs.map (·.1) = ps.map ky
theorem KeysAre.len {kvs : List (List Key × V)} {ps : List (Int × Int)} (h : KeysAre kvs ps) : kvs.length = ps.length := by
 have := congrArg List.length h
 rwa [List.length_map, List.length_map] at this
theorem KeysAre.val {kvs : List (List Key × V)} {ps : List (Int × Int)} (h : KeysAre kvs ps) (q : Int × Int) : (valV kvs (ky q)).isSome = decide (q ∈ ps) := by
 rw [← valV_any]
 have e : (kvs.any fun kv => decide (kv.1 = ky q)) = (kvs.map (·.1)).any fun k => decide (k = ky q) := by rw [List.any_map]; rfl
 rw [e, show kvs.map (·.1) = ps.map ky from h, Bool.eq_iff_iff, List.any_eq_true, decide_eq_true_eq]
 constructor
 ·rintro ⟨k, hk, z⟩
  obtain ⟨p, hp, rfl⟩ := List.mem_map.mp hk
  exact ky_inj (of_decide_eq_true z) ▸ hp
 ·intro hq
  exact ⟨ky q, List.mem_map.mpr ⟨q, hq, rfl⟩, decide_eq_true rfl⟩
theorem KeysAre.put {kvs : List (List Key × V)} {ps : List (Int × Int)} {q : Int × Int} {v : V} (h : KeysAre kvs ps) (hq : q ∉ ps) : KeysAre (putK kvs (ky q) v) (ps ++ [q]) := by
 have hn : valV kvs (ky q) = none := by
  have := h.val q
  rw [decide_eq_false hq] at this
  cases e : valV kvs (ky q) with
  | none => rfl
  | some z => rw [e] at this; cases this
 rw [putK_new v hn]
 unfold KeysAre
 rw [List.map_append, List.map_append, show kvs.map (·.1) = ps.map ky from h]
 rfl
section
variable {P : Program} {w : World} {K : PySem.W.Frag} {mg : Str → Option Value} {base : Heap} {t : Ad}
def RndV (H0 H : Hp) (lf : Addr) (cs rs : List Int) (v : V) (r : (Int × Int) × Nat) : Prop := ∃ T l, v = .ref T ∧ (l ≠ lf ∧ H0 l = none) ∧ RndAt H T l cs rs r.1 r.2
def PwR (H0 H : Hp) (lf : Addr) (cs rs : List Int) (xs : List V) (L : List ((Int × Int) × Nat)) : Prop := xs.length = L.length ∧ ∀ (i : Nat) v r, xs[i]? = some v → L[i]? = some r → RndV H0 H lf cs rs v r
theorem RndV.mono {H0 H H' : Hp} {lf : Addr} {cs rs : List Int} {v : V} {r : (Int × Int) × Nat} (s : Same H H') (h : RndV H0 H lf cs rs v r) : RndV H0 H' lf cs rs v r := by
 obtain ⟨T, l, h1, h2, h3⟩ := h
 exact ⟨T, l, h1, h2, h3.mono s⟩
theorem RndV.lst {H0 H : Hp} {lf : Addr} {cs rs : List Int} {v : V} {r : (Int × Int) × Nat} {ys : List V} {o : HO} (h : RndV H0 H lf cs rs v r) (e : H lf = some (.lst ys)) : RndV H0 (upd H lf o) lf cs rs v r := by
 obtain ⟨T, l, h1, h2, ⟨h3, xs, h4, h5⟩⟩ := h
 exact ⟨T, l, h1, h2, ⟨by rw [upd_ne (ne_of h3 e (by intro z; cases z))]; exact h3, xs, by rw [upd_ne h2.1]; exact h4, h5.upd e (by intro ys z; cases z)⟩⟩
theorem RndV.dct {H0 H : Hp} {lf d : Addr} {cs rs : List Int} {v : V} {r : (Int × Int) × Nat} {ys : List (List Key × V)} {o : HO} (h : RndV H0 H lf cs rs v r) (e : H d = some (.dT ys)) : RndV H0 (upd H d o) lf cs rs v r := by
 obtain ⟨T, l, h1, h2, ⟨h3, xs, h4, h5⟩⟩ := h
 exact ⟨T, l, h1, h2, ⟨by rw [upd_ne (ne_of h3 e (by intro z; cases z))]; exact h3, xs, by rw [upd_ne (ne_of h4 e (by intro z; cases z))]; exact h4, h5.upd e (by intro ys z; cases z)⟩⟩
theorem PwR.mono {H0 H H' : Hp} {lf : Addr} {cs rs : List Int} {xs : List V} {L : List ((Int × Int) × Nat)} (s : Same H H') (h : PwR H0 H lf cs rs xs L) : PwR H0 H' lf cs rs xs L := ⟨h.1, fun i v q h1 h2 => (h.2 i v q h1 h2).mono s⟩
theorem PwR.lst {H0 H : Hp} {lf : Addr} {cs rs : List Int} {xs : List V} {L : List ((Int × Int) × Nat)} {ys : List V} {o : HO} (h : PwR H0 H lf cs rs xs L) (e : H lf = some (.lst ys)) : PwR H0 (upd H lf o) lf cs rs xs L := ⟨h.1, fun i v q h1 h2 => (h.2 i v q h1 h2).lst e⟩
theorem PwR.dct {H0 H : Hp} {lf d : Addr} {cs rs : List Int} {xs : List V} {L : List ((Int × Int) × Nat)} {ys : List (List Key × V)} {o : HO} (h : PwR H0 H lf cs rs xs L) (e : H d = some (.dT ys)) : PwR H0 (upd H d o) lf cs rs xs L := ⟨h.1, fun i v q h1 h2 => (h.2 i v q h1 h2).dct e⟩
theorem PwR.snoc {H0 H : Hp} {lf : Addr} {cs rs : List Int} {xs : List V} {L : List ((Int × Int) × Nat)} {v : V} {r : (Int × Int) × Nat} (h : PwR H0 H lf cs rs xs L) (hv : RndV H0 H lf cs rs v r) : PwR H0 H lf cs rs (xs ++ [v]) (L ++ [r]) := by
 refine ⟨by rw [List.length_append, List.length_append, h.1]; rfl, fun i v' q' h1 h2 => ?_⟩
 by_cases hi : i < xs.length
 ·rw [List.getElem?_append_left hi] at h1
  rw [List.getElem?_append_left (by rw [← h.1]; exact hi)] at h2
  exact h.2 i v' q' h1 h2
 ·rw [List.getElem?_append_right (by omega)] at h1
  rw [List.getElem?_append_right (by rw [← h.1]; omega), ← h.1] at h2
  cases hk : i - xs.length with
  | zero =>
   rw [hk] at h1 h2
   simp only [List.getElem?_cons_zero, Option.some.injEq] at h1 h2
   rw [← h1, ← h2]; exact hv
  | succ k => rw [hk] at h1; simp at h1
structure GaAt (H0 H : Hp) (lf ds : Addr) (cs rs : List Int) (L : List ((Int × Int) × Nat)) (ps : List (Int × Int)) : Prop where
 lst : ∃ xs, H lf = some (.lst xs) ∧ PwR H0 H lf cs rs xs L
 dct : ∃ kvs, H ds = some (.dT kvs) ∧ KeysAre kvs ps
theorem GaAt.mono {H0 H H' : Hp} {lf ds : Addr} {cs rs : List Int} {L : List ((Int × Int) × Nat)} {ps : List (Int × Int)} (s : Same H H') (h : GaAt H0 H lf ds cs rs L ps) : GaAt H0 H' lf ds cs rs L ps :=
 ⟨let ⟨xs, h1, h2⟩ := h.lst; ⟨xs, s _ _ h1, h2.mono s⟩, let ⟨kvs, h1, h2⟩ := h.dct; ⟨kvs, s _ _ h1, h2⟩⟩
def sp_ringrounds (C : Addr) : Sp := fun vs H Q _ => ∃ (p : Addr) (cs rs : List Int), vs = [.ref p] ∧ RingAt C H p cs rs ∧ RBits cs ∧ RBits rs ∧
 ∀ lf L xs H', Same H H' → H lf = none → PartL cs rs L → Gath cs rs (evs rs.length cs.length) L → (∀ q, InR cs rs q → q ∈ flat cs rs L) → H' lf = some (.lst xs) → PwR H H' lf cs rs xs L → Q (.ref lf) H'
theorem ok_ringrounds (T : Txt K mg t) : FnOk P w K mg base CX0 6 t.f_ringrounds t.d_ringrounds ["ring"] (sp_ringrounds t.a_Ring) := by
  have G_Ringwide := ok_Ringwide (P := P) (w := w) (base := base) T
  have G_Ringtall := ok_Ringtall (P := P) (w := w) (base := base) T
  have G_walk := ok_walk (P := P) (w := w) (base := base) T
  refine T.F_ringrounds.ok sc_ringrounds (fun vs H Q E h => ?_) (fun cdv A outer s H vs Q E hr h => ?_)
  · obtain ⟨p, cs, rs, rfl, _⟩ := h; rfl
  · obtain ⟨p, cs, rs, rfl, hC, bc, br, k⟩ := h
    have ev := RBits.evs bc br
    have lc := bc.1
    have lr := br.1
    unfold rOk at lc lr
    have big : cs.length * rs.length ≤ 1600 := Nat.mul_le_mul lc.2.1 lr.2.1
    obtain ⟨dx, a1, b1, g1, g2, g3⟩ := hC.ob
    refine cutC (ps_set (i := 1) sc_ringrounds.nd rfl (Or.inl rfl) (pe_lst pa_nil)) fun _ _ => cutC (ps_set (i := 2) sc_ringrounds.nd rfl (Or.inl rfl) pe_dnewT) fun _ _ => cutC (ps_for PassesOwn.never rfl (pi_range1 rfl T.no_range (pa_cons (pe_meth0 (pv 0) T.cl_Ring T.m_Ringwide G_Ringwide (hr.mono (by first | decide | omega)) T.b_Ringwide .nil pass0) pa_nil)) (pg_name (i := 3) sc_ringrounds.nd rfl (Or.inl rfl)) (pss_one (ps_for PassesOwn.never rfl (pi_range3 rfl T.no_range (pa_cons (pe_op op_mod (pv 3) pe_int) (pa_cons (pe_meth0 (pv 0) T.cl_Ring T.m_Ringtall G_Ringtall (hr.mono (by first | decide | omega)) T.b_Ringtall .nil pass0) (pa_cons pe_int pa_nil)))) (pg_name (i := 4) sc_ringrounds.nd rfl (Or.inl rfl)) (pss_one (ps_join (ps_if (pt_cmp (pc_dnotin (hu_of hr) (pe_tup (pa_cons (pv 3) (pa_cons (pv 4) pa_nil))) (pv 2))) (pss_cons (ps_set (i := 5) sc_ringrounds.nd rfl (Or.inl rfl) (pe_call G_walk (hr.mono (by first | decide | omega)) rfl T.mg_walk T.F_walk.kp T.b_walk .nil pass0 (pa_cons (pv 0) (pa_cons (pe_tup (pa_cons (pv 3) (pa_cons (pv 4) pa_nil))) pa_nil)))) (pss_cons (ps_expr (pe_bm PySem.F.plainAttrs_list PySem.F.slot_list_append PySem.F.type_list_append mt_append (pv 1) (pa_cons (pv 5) pa_nil))) (pss_one (ps_for PassesOwn.never rfl (pi_list (pe_ix (ix_tupK K rfl) (pv 5) pe_int (fun _ _ => rfl))) (pg_name (i := 6) sc_ringrounds.nd rfl (Or.inl rfl)) (pss_one (ps_dput (hu_of hr) (pv 2) (pv 6) pe_bl rfl)))))) pss_nil)))))) fun _ _ => cutE (ps_ret (pv 1)) fun _ _ => ?_
    walk_at "rdr"
    refine ⟨Nat.zero_le _, fun lf nf => ?_⟩
    have s1 := Same.new (o := HO.lst []) nf
    have e1 := upd_same (H := H) (a := lf) (o := HO.lst [])
    generalize upd H lf (HO.lst []) = H1 at s1 e1 ⊢
    walk_at "rdr"
    intro ds nds
    have s2 := Same.new (o := HO.dT []) nds
    have e2 := upd_same (H := H1) (a := ds) (o := HO.dT [])
    have e1 := s2 _ _ e1
    have nds : H ds = none := s1.free nds
    have s2 := s1.trans s2
    generalize upd H1 ds (HO.dT []) = H2 at s2 e1 e2 ⊢
    have ga : GaAt H H2 lf ds cs rs [] (flat cs rs []) := ⟨⟨[], e1, rfl, fun i v r h1 => by simp at h1⟩, ⟨[], e2, rfl⟩⟩
    clear e1 e2 s1
    walk_at "rdr"
    refine rd_methv (s2 _ _ g1) (bfl_no _ _ (by decide +kernel)) ?_
    walk_at "rdr"
    refine ⟨p, cs, rs, rfl, hC.mono s2, ?_⟩
    walk_at "rdr"
    refine ⟨_, rfl, by omega, by omega, ?_⟩
    rw [Int.toNat_natCast]
    refine forW_range (fun x σ' H' => ∃ (L : List ((Int × Int) × Nat)) (o3 o4 o5 o6 : Option V), σ' = [some (.ref p), some (.ref lf), some (.ref ds), o3, o4, o5, o6] ∧ Same H H' ∧ GaAt H H' lf ds cs rs L (flat cs rs L) ∧ PartL cs rs L ∧ Gath cs rs (evs rs.length x) L ∧ ∀ q, InR cs rs q → (q.1 + q.2) % 2 = 0 → q.1 < (x : Nat) → q ∈ flat cs rs L)
      ⟨[], none, none, none, none, rfl, s2, ga, .nil, .nil, fun q hq _ hx => by have := hq.1.1; omega⟩ ?_ ?_
    · rintro x σ' H3 hx ⟨L, o3, o4, o5, o6, rfl, s3, ga3, pa3, gt3, cov3⟩
      rw [Int.zero_add]
      walk_at "rdr"
      refine rd_I (by decide) ?_
      walk_at "rdr"
      refine rd_methv (s3 _ _ g1) (bfl_no _ _ (by decide +kernel)) ?_
      walk_at "rdr"
      refine ⟨p, cs, rs, rfl, hC.mono s3, ?_⟩
      walk_at "rdr"
      refine ⟨_, _, rfl, by omega, by omega, by omega, ?_⟩
      have gat0 : Gath cs rs (evs rs.length x ++ ev1 x (x % 2 + 0 * 2)) L := by
        have e : ev1 x (x % 2 + 0 * 2) = [] := by
          rw [Nat.zero_mul, Nat.add_zero]
          rcases Nat.mod_two_eq_zero_or_one x with z | z
          · rw [z]; rfl
          · rw [z]; exact ev1_odd (by omega)
        rw [e, List.append_nil]; exact gt3
      refine forW_range2 (fun j σ' H' => ∃ (L : List ((Int × Int) × Nat)) (o4 o5 o6 : Option V), σ' = [some (.ref p), some (.ref lf), some (.ref ds), some (.int (x : Nat)), o4, o5, o6] ∧ Same H H' ∧ GaAt H H' lf ds cs rs L (flat cs rs L) ∧ PartL cs rs L ∧ Gath cs rs (evs rs.length x ++ ev1 x (x % 2 + j * 2)) L ∧
          ∀ q, InR cs rs q → (q.1 + q.2) % 2 = 0 → (q.1 < (x : Nat) ∨ (q.1 = (x : Nat) ∧ q.2 < (x : Int) % 2 + (j : Nat) * 2)) → q ∈ flat cs rs L)
        ⟨L, o4, o5, o6, rfl, s3, ga3, pa3, gat0, fun q hq he h => cov3 q hq he (by have := hq.2.1; omega)⟩ ?_ ?_
      · rintro j σ' H4 hj ⟨L, o4, o5, o6, rfl, s4, ga4, pa4, gt4, cov4⟩
        unfold cnt2 at hj
        have hy0 : 0 ≤ (x : Int) % 2 + (j : Nat) * 2 := by omega
        have hy1 : (x : Int) % 2 + (j : Nat) * 2 < rs.length := by omega
        have hev : ((x : Int) + ((x : Int) % 2 + (j : Nat) * 2)) % 2 = 0 := by omega
        have nxt : ∀ L', (∀ q ∈ flat cs rs L, q ∈ flat cs rs L') → (((x : Nat) : Int), (x : Int) % 2 + (j : Nat) * 2) ∈ flat cs rs L' →
            ∀ q, InR cs rs q → (q.1 + q.2) % 2 = 0 → (q.1 < (x : Nat) ∨ (q.1 = (x : Nat) ∧ q.2 < (x : Int) % 2 + ((j + 1 : Nat) : Int) * 2)) → q ∈ flat cs rs L' := fun L' sub hp q hq he h => by
          by_cases hh : q.1 < (x : Nat) ∨ (q.1 = (x : Nat) ∧ q.2 < (x : Int) % 2 + (j : Nat) * 2)
          · exact sub q (cov4 q hq he hh)
          · have : q = (((x : Nat) : Int), (x : Int) % 2 + (j : Nat) * 2) := Prod.ext (by show q.1 = _; omega) (by show q.2 = _; omega)
            rw [this]; exact hp
        have hin : InR cs rs (((x : Nat) : Int), (x : Int) % 2 + (j : Nat) * 2) := ⟨⟨by omega, by show ((x : Nat) : Int) < _; omega⟩, hy0, hy1⟩
        have hgp : evs rs.length x ++ ev1 x (x % 2 + (j + 1) * 2) = evs rs.length x ++ ev1 x (x % 2 + j * 2) ++ [(((x : Nat) : Int), (x : Int) % 2 + (j : Nat) * 2)] := by
          rw [show x % 2 + (j + 1) * 2 = x % 2 + j * 2 + 1 + 1 by omega, ev1_odd (by omega), ev1_even (by omega), List.append_assoc, show (((x % 2 + j * 2 : Nat)) : Int) = (x : Int) % 2 + (j : Nat) * 2 by omega]
        generalize evs rs.length x ++ ev1 x (x % 2 + j * 2) = gps at gt4 hgp
        generalize (x : Int) % 2 + (j : Nat) * 2 = yy at hgp hy0 hy1 hev hin nxt ⊢
        clear cov4
        walk_at "rdr"
        refine rd_join (fun σ' H' => ∃ (L' : List ((Int × Int) × Nat)) (o5 o6 : Option V), σ' = [some (.ref p), some (.ref lf), some (.ref ds), some (.int (x : Nat)), some (.int yy), o5, o6] ∧ Same H H' ∧ GaAt H H' lf ds cs rs L' (flat cs rs L') ∧ PartL cs rs L' ∧ Gath cs rs (gps ++ [(((x : Nat) : Int), yy)]) L' ∧
          (∀ q ∈ flat cs rs L, q ∈ flat cs rs L') ∧ (((x : Nat) : Int), yy) ∈ flat cs rs L') ?_ ?_
        · walk_at "rdr"
          refine ⟨by show 2 ≤ sizeLine; decide, fun a na => ?_⟩
          have s5 := Same.new (o := HO.tup [V.int (x : Nat), V.int yy]) na
          have ea := upd_same (H := H4) (a := a) (o := HO.tup [V.int (x : Nat), V.int yy])
          generalize upd H4 a (HO.tup [V.int (x : Nat), V.int yy]) = H5 at s5 ea ⊢
          have ga5 := ga4.mono s5
          have s5 := s4.trans s5
          obtain ⟨kvs, ed, ke⟩ := ga5.dct
          walk_at "rdr"
          refine ⟨ds, _, rfl, DGet.t (k := ky (((x : Nat) : Int), yy)) ed ea, ?_⟩
          rw [ke.val]
          by_cases hm : (((x : Nat) : Int), yy) ∈ flat cs rs L
          · rw [decide_eq_true hm]
            walk_at "rdr"
            exact ⟨L, _, _, rfl, s5, ga5, pa4, gt4.skip hm, fun q hq => hq, hm⟩
          · rw [decide_eq_false hm]
            walk_at "rdr"
            refine ⟨by show 2 ≤ sizeLine; decide, fun b nb => ?_⟩
            have s6 := Same.new (o := HO.tup [V.int (x : Nat), V.int yy]) nb
            have eb := upd_same (H := H5) (a := b) (o := HO.tup [V.int (x : Nat), V.int yy])
            generalize upd H5 b (HO.tup [V.int (x : Nat), V.int yy]) = H6 at s6 eb ⊢
            have ga6 := ga5.mono s6
            have s6 := s5.trans s6
            clear ed ke kvs ga5 ga4
            walk_at "rdr"
            refine ⟨p, b, cs, rs, _, _, rfl, hC.mono s6, bc, br, eb, hin, fun n T l H7 s7 rn nl ra => ?_⟩
            obtain ⟨xs, el, px⟩ := ra.li
            have ga7 := ga6.mono s7
            obtain ⟨ys, ef, pr⟩ := ga7.lst
            have nlf : l ≠ lf := by
              intro z
              obtain ⟨ys', ef', _⟩ := ga6.lst
              rw [z, ef'] at nl; cases nl
            have nl0 := s6.free nl
            have s7 := s6.trans s7
            have pa7 := pa4.add ev hin hev rn hm
            have hsub : ∀ q ∈ flat cs rs L, q ∈ flat cs rs (L ++ [((((x : Nat) : Int), yy), n)]) := fun q hq => by rw [flat_snoc]; exact List.mem_append_left _ hq
            have hme : (((x : Nat) : Int), yy) ∈ flat cs rs (L ++ [((((x : Nat) : Int), yy), n)]) := by rw [flat_snoc]; exact List.mem_append_right _ (mem_start rn)
            walk_at "rdr"
            refine rd_bmL ef ?_
            walk_at "rdr"
            have ly : ys.length ≤ 1600 := by
              have h1 := few pa4.nd (pa4.in_ ev)
              have h2 : ∀ (M : List ((Int × Int) × Nat)), (∀ r ∈ M, 1 ≤ r.2) → M.length ≤ (flat cs rs M).length := by
                intro M
                induction M with
                | nil => intro _; exact Nat.zero_le _
                | cons r M ih =>
                  intro hM
                  have := ih fun r' hr' => hM r' (List.mem_cons_of_mem _ hr')
                  have hr := hM r List.mem_cons_self
                  unfold flat at this ⊢
                  rw [List.flatMap_cons, List.length_append, pts_len, List.length_cons]
                  omega
              have h3 := h2 L fun r hr => (pa4.rnd r hr).2.2.pos
              rw [pr.1]
              omega
            refine rd_append ef (small1000' (by omega)) ?_
            have pr8 := (pr.lst (o := .lst (ys ++ [V.ref T])) ef).snoc (r := ((((x : Nat) : Int), yy), n)) (RndV.lst (o := .lst (ys ++ [V.ref T])) ⟨T, l, rfl, ⟨nlf, nl0⟩, ra⟩ ef)
            have ef8 := upd_same (H := H7) (a := lf) (o := .lst (ys ++ [V.ref T]))
            obtain ⟨kvs, ed, ke⟩ := ga7.dct
            have ed8 : upd H7 lf (.lst (ys ++ [V.ref T])) ds = some (.dT kvs) := (upd_ne (ne_of ed ef (by intro z; cases z))).trans ed
            have s8 := s7.later (o := .lst (ys ++ [V.ref T])) nf
            have el8 : upd H7 lf (.lst (ys ++ [V.ref T])) l = some (.lst xs) := (upd_ne nlf).trans el
            have px8 := px.upd (o := .lst (ys ++ [V.ref T])) ef (by intro ys z; cases z)
            have eT8 : upd H7 lf (.lst (ys ++ [V.ref T])) T = _ := (upd_ne (ne_of ra.ob ef (by intro z; cases z))).trans ra.ob
            generalize upd H7 lf (.lst (ys ++ [V.ref T])) = H8 at pr8 ef8 ed8 s8 el8 px8 eT8 ⊢
            clear ga7 ga6 ef ed el pr s7 s6 ra ea eb
            walk_at "rdr"
            refine rd_ixT (SqT.of eT8) (v := .ref l) rfl ?_
            walk_at "rdr"
            refine ⟨⟨_, SqL.of el8⟩, ?_⟩
            have nd8 : (flat cs rs L ++ pts cs rs (((x : Nat) : Int), yy) n).Nodup := by have := pa7.nd; rwa [flat_snoc] at this
            have fw := few pa7.nd (pa7.in_ ev)
            rw [flat_snoc, List.length_append] at fw
            dsimp only at fw
            refine forW_list (K := K) (a := l) (xs := xs) (fun i σ' H' => ∃ (o6 : Option V) (kvs : List (List Key × V)), σ' = [some (.ref p), some (.ref lf), some (.ref ds), some (.int (x : Nat)), some (.int yy), some (.ref T), o6] ∧ Same H H' ∧ H' lf = some (.lst (ys ++ [V.ref T])) ∧ PwR H H' lf cs rs (ys ++ [V.ref T]) (L ++ [((((x : Nat) : Int), yy), n)]) ∧
                H' l = some (.lst xs) ∧ PwPt H' xs (pts cs rs (((x : Nat) : Int), yy) n) ∧ H' ds = some (.dT kvs) ∧ KeysAre kvs (flat cs rs L ++ (pts cs rs (((x : Nat) : Int), yy) n).take i))
              ⟨_, kvs, rfl, s8, ef8, pr8, el8, px8, ed8, by rw [List.take_zero, List.append_nil]; exact ke⟩ (fun i σ' H' _ ⟨_, _, _, _, _, _, z, _⟩ => SqL.of z) ?_ ?_
            · rintro i v σ' H9 hv ⟨o6, kvs, rfl, s9, ef9, pr9, el9, px9, ed9, ke9⟩
              have hi : i < xs.length := (List.getElem?_eq_some_iff.mp hv).1
              have hi' : i < (pts cs rs (((x : Nat) : Int), yy) n).length := by rw [← px9.1]; exact hi
              obtain ⟨q, hq⟩ : ∃ q, (pts cs rs (((x : Nat) : Int), yy) n)[i]? = some q := ⟨_, List.getElem?_eq_getElem hi'⟩
              obtain ⟨c, rfl, hc⟩ := px9.2 i v q hv hq
              have ht : (pts cs rs (((x : Nat) : Int), yy) n).take (i + 1) = (pts cs rs (((x : Nat) : Int), yy) n).take i ++ [q] := by rw [List.take_add_one, hq]; rfl
              have nq : q ∉ flat cs rs L ++ (pts cs rs (((x : Nat) : Int), yy) n).take i := by
                have h1 : (flat cs rs L ++ (pts cs rs (((x : Nat) : Int), yy) n).take (i + 1)).Nodup := by
                  rw [List.nodup_append] at nd8 ⊢
                  refine ⟨nd8.1, nd8.2.1.sublist (List.take_sublist _ _), fun a ha b hb => nd8.2.2 a ha b (List.mem_of_mem_take hb)⟩
                rw [ht, ← List.append_assoc, List.nodup_append] at h1
                exact fun z => h1.2.2 q z q (by simp) rfl
              walk_at "rdr"
              refine ⟨ds, _, rfl, DPut.t (k := ky q) ed9 hc ?_, ?_⟩
              · have := ke9.len
                rw [List.length_append, List.length_take] at this
                exact small1000' (by omega)
              have ke10 := ke9.put (v := .bl true) nq
              rw [List.append_assoc, ← ht] at ke10
              exact ⟨_, _, rfl, s9.later (o := .dT _) nds, (upd_ne (ne_of ef9 ed9 (by intro z; cases z))).trans ef9, pr9.dct ed9, (upd_ne (ne_of el9 ed9 (by intro z; cases z))).trans el9, px9.upd ed9 (by intro ys z; cases z), upd_same, ke10⟩
            · rintro σ' H9 ⟨o6, kvs, rfl, s9, ef9, pr9, el9, px9, ed9, ke9⟩
              rw [List.take_of_length_le (by rw [px9.1]; exact Nat.le_refl _)] at ke9
              exact ⟨L ++ [((((x : Nat) : Int), yy), n)], _, _, rfl, s9, ⟨⟨_, ef9, pr9⟩, ⟨kvs, ed9, by rw [flat_snoc]; exact ke9⟩⟩, pa7, gt4.add hm rn, hsub, hme⟩
        · rintro σ2 H5 ⟨L', o5, o6, rfl, s5, ga5, pa5, gt5, sub5, me5⟩
          exact ⟨L', _, _, _, rfl, s5, ga5, pa5, (by rw [hgp]; exact gt5), nxt L' sub5 me5⟩
      · have gatE : ∀ {L : List ((Int × Int) × Nat)}, Gath cs rs (evs rs.length x ++ ev1 x (x % 2 + cnt2 (((x : Nat) : Int) % 2) (rs.length : Int) * 2)) L → Gath cs rs (evs rs.length (x + 1)) L := fun {L} g => by
          rw [evs_succ]
          have ev2 := ev.2.2
          have e : ev1 x (x % 2 + cnt2 (((x : Nat) : Int) % 2) (rs.length : Int) * 2) = ev1 x rs.length := by
            unfold cnt2
            rcases Nat.mod_two_eq_zero_or_one x with z | z
            · rw [show x % 2 + _ * 2 = rs.length by omega]
            · rw [show x % 2 + _ * 2 = rs.length + 1 by omega]; exact ev1_odd (by omega)
          rw [← e]; exact g
        rintro σ' H4 ⟨L, o4, o5, o6, rfl, s4, ga4, pa4, gt4, cov4⟩
        refine ⟨L, _, _, _, _, rfl, s4, ga4, pa4, gatE gt4, fun q hq he h => cov4 q hq he ?_⟩
        have h2 := hq.2.2
        have e : ((x + 1 : Nat) : Int) = (x : Int) + 1 := by omega
        by_cases hh : q.1 < (x : Nat)
        · exact .inl hh
        · refine .inr ⟨by omega, ?_⟩
          unfold cnt2
          omega
    · rintro σ' H3 ⟨L, o3, o4, o5, o6, rfl, s3, ga3, pa3, gt3, cov3⟩
      obtain ⟨xs, ef, pr⟩ := ga3.lst
      walk_at "rdr"
      exact k lf L xs H3 s3 nf pa3 gt3 (odd_cov ev pa3 fun q hq he => cov3 q hq he hq.1.2) ef pr
end
theorem PwPt.nil {H : Hp} : PwPt H [] [] := ⟨rfl, fun i v q h => by simp at h⟩
theorem PwPt.inv {H : Hp} {xs : List V} {p : Int × Int} {ps : List (Int × Int)} (h : PwPt H xs (p :: ps)) : ∃ v r, xs = v :: r ∧ Pt H v p ∧ PwPt H r ps := by
 match xs, h with
 | [], h => have := h.1; simp at this
 | v :: r, h => exact ⟨v, r, rfl, h.2 0 v p rfl rfl, by have := h.1; simp only [List.length_cons] at this; omega, fun i v' q' e1 e2 => h.2 (i + 1) v' q' (by simpa using e1) (by simpa using e2)⟩
def ptOf (H : Hp) : V → Int × Int
 | .ref a => match H a with
  | some (.tup [.int x, .int y]) => (x, y)
  | _ => (0, 0)
 | _ => (0, 0)
theorem Pt.of {H : Hp} {v : V} {q : Int × Int} (h : Pt H v q) : ptOf H v = q := by
 obtain ⟨a, rfl, ha⟩ := h
 simp only [ptOf, ha]
theorem PwPt.map : ∀ {H : Hp} {xs : List V} {ps : List (Int × Int)}, PwPt H xs ps → xs.map (ptOf H) = ps
 | H, [], [], _ => rfl
 | H, [], _ :: _, h => by have := h.1; simp at this
 | H, _ :: _, [], h => by have := h.1; simp at this
 | H, v :: xs, p :: ps, h => by
  obtain ⟨v', r, e, h1, h2⟩ := h.inv
  cases e
  rw [List.map_cons, h1.of, h2.map]
theorem PwPt.mem {H : Hp} {xs : List V} {ps : List (Int × Int)} (h : PwPt H xs ps) : ∀ v ∈ xs, Pt H v (ptOf H v) := by
 intro v hv
 obtain ⟨i, hi⟩ := List.mem_iff_getElem?.mp hv
 have hl : i < ps.length := by rw [← h.1]; exact (List.getElem?_eq_some_iff.mp hi).1
 have := h.2 i v _ hi (List.getElem?_eq_getElem hl)
 rw [this.of]; exact this
def ptD (q : Int × Int) : PyData := .tuple [.int q.1, .int q.2]
theorem rep_pt {H : Hp} {v : V} {q : Int × Int} (h : Pt H v q) : Rep H (ptD q) v := by
 obtain ⟨a, rfl, ha⟩ := h
 unfold ptD
 simp only [Rep, RepL]
 exact ⟨a, _, rfl, ha, _, _, rfl, rfl, _, _, rfl, rfl, rfl⟩
theorem repL_pts {H : Hp} : ∀ {xs : List V} {ps : List (Int × Int)}, PwPt H xs ps → RepL H (ps.map ptD) xs
 | [], [], _ => by simp only [List.map_nil, RepL]
 | [], _ :: _, h => by have := h.1; simp at this
 | _ :: _, [], h => by have := h.1; simp at this
 | v :: xs, p :: ps, h => by
  obtain ⟨v', r, e, h1, h2⟩ := h.inv
  cases e
  simp only [List.map_cons, RepL]
  exact ⟨v, xs, rfl, rep_pt h1, repL_pts h2⟩
theorem rep_pts {H : Hp} {l : Addr} {xs : List V} {ps : List (Int × Int)} (e : H l = some (.lst xs)) (h : PwPt H xs ps) : Rep H (.list (ps.map ptD)) (.ref l) := by
 simp only [Rep]
 exact ⟨l, xs, rfl, e, repL_pts h⟩
theorem lay_pts : ∀ ps : List (Int × Int), PyData.canLayAll0 (ps.map ptD) = true
 | [] => rfl
 | _ :: r => by simp [PyData.canLayAll0, PyData.canLay0, ptD, lay_pts r]
theorem rd_eqNil' {H : Hp} {Q : VK} {l m : Addr} {xs : List V} {ps : List (Int × Int)} (e : H l = some (.lst xs)) (h : PwPt H xs ps) (e' : H m = some (.lst [])) (q : Q (.bl ps.isEmpty) H) : rEqD false (.ref l) (.ref m) H Q := by
 refine ⟨.list (ps.map ptD), .list [], rep_pts e h, by rw [Rep]; exact ⟨m, [], rfl, e', by rw [RepL]⟩, ?_, by decide, ?_⟩
 ·unfold SeqAt.shaped
  rw [Bool.and_eq_true]
  refine ⟨by simp only [PyData.canLay0]; exact lay_pts ps, decide_eq_true ?_⟩
  have dp : ∀ ps : List (Int × Int), PyData.depthAll (ps.map ptD) ≤ 1 := by
   intro ps
   induction ps with
   | nil => exact Nat.zero_le _
   | cons q r ih =>
    have e : PyData.depth (ptD q) ≤ 1 := by simp [ptD, PyData.depth, PyData.depthAll]
    simp only [List.map_cons, PyData.depthAll]
    omega
  have := dp ps
  simp only [PyData.depth]
  omega
 ·rw [if_neg (by decide)]
  cases ps with
  | nil => simp only [List.map_nil, PyData.eqv, PyData.eqvAll]; exact q
  | cons p r => simp only [List.map_cons, PyData.eqv, PyData.eqvAll]; exact q
theorem any_pts (ps : List (Int × Int)) (q : Int × Int) : ((ps.map ptD).any fun y => PyData.eqv y (ptD q)) = decide (q ∈ ps) := by
 rw [List.any_map]
 induction ps with
 | nil => rfl
 | cons g fs ih =>
  rw [List.any_cons, ih]
  have e : PyData.eqv (ptD g) (ptD q) = decide (q = g) := by
   obtain ⟨a, b⟩ := g
   obtain ⟨c, d⟩ := q
   simp only [ptD, PyData.eqv, PyData.eqvAll, Bool.and_true]
   rw [Bool.eq_iff_iff, Bool.and_eq_true, beq_iff_eq, beq_iff_eq, decide_eq_true_eq, Prod.mk.injEq]
   exact ⟨fun ⟨h1, h2⟩ => ⟨h1.symm, h2.symm⟩, fun ⟨h1, h2⟩ => ⟨h1.symm, h2.symm⟩⟩
  show (PyData.eqv (ptD g) (ptD q) || _) = _
  rw [e]
  by_cases h1 : q = g <;> by_cases h2 : q ∈ fs <;> simp [h1, h2]
theorem rd_inPts {H : Hp} {Q : VK} {l : Addr} {v : V} {xs : List V} {ps : List (Int × Int)} {q : Int × Int} (hl : H l = some (.lst xs)) (pf : PwPt H xs ps) (ha : Pt H v q) (k : Q (.bl (decide (q ∈ ps))) H) : rInD v (.ref l) H Q :=
 ⟨_, _, rep_pts hl pf, rep_pt ha, lay_pts ps, by simp [ptD, PyData.canLay0, PyData.canLayAll0], by simp [ptD, PyData.depth, PyData.depthAll], by rw [any_pts]; exact k⟩
theorem compW_ptsF {K : PySem.W.Frag} {σ : L2.St} {H : Hp} {Q : VK} {te : TE} {tt : TT} {cap : List (Option Nat)} {l a : Addr} {xs : List V} {ps : List (Int × Int)} (p : Int × Int → Bool) (hs : SqL K H a xs) (pw : PwPt H xs ps) (hz : xs.length ≤ 5000) (hl : H l = none)
  (test : ∀ q o1 o2 H' (Q' : Bool → Hp → Prop), q ∈ ps → Same H H' → (∀ H5, Same H' H5 → Q' (p q) H5) → tt (((((capS (none :: none :: cap) σ).set 0 o1).set 1 o2).set 0 (some (.int q.1))).set 1 (some (.int q.2))) H' Q')
  (step : ∀ q o1 o2 H' (Q' : VK), q ∈ ps → Same H H' → (∀ b H5, Same H' H5 → H' b = none → H5 b = some (.tup [.int q.1, .int q.2]) → Q' (.ref b) H5) → te (((((capS (none :: none :: cap) σ).set 0 o1).set 1 o2).set 0 (some (.int q.1))).set 1 (some (.int q.2))) H' Q')
  (fin : ∀ ys H', Same H H' → H' l = some (.lst ys) → PwPt H' ys (ps.filter p) → Q (.ref l) H') : CompW (Itl K a) (gTup K 2 (gCons (gName 0) (gCons (gName 1) gNil))) tt te (none :: none :: cap) l σ H Q := by
 refine ⟨xs.length, fun i zs σ' H' => (∃ o1 o2, σ' = ((capS (none :: none :: cap) σ).set 0 o1).set 1 o2) ∧ Same H H' ∧ H' l = some (.lst zs) ∧ PwPt H' zs ((ps.take i).filter p), ⟨⟨none, none, rfl⟩, Same.new hl, upd_same, by rw [List.take_zero]; exact PwPt.nil⟩, ?_, ?_⟩
 ·rintro i zs σ' H' hi ⟨⟨o1, o2, rfl⟩, s, e, pz⟩
  refine ⟨⟨xs, xs[i], s.seq hs, by simp [hi]⟩, fun x H2 y => ?_⟩
  obtain ⟨e2, y⟩ := y
  subst e2
  have hx := y xs (s.seq hs)
  have hip : i < ps.length := by rw [← pw.1]; exact hi
  have hpi := List.getElem?_eq_getElem hip
  obtain ⟨b, rfl, hb⟩ := pw.2 i x _ hx hpi
  have hm := List.getElem_mem hip
  have tk : (ps.take (i + 1)).filter p = (ps.take i).filter p ++ (if p ps[i] = true then [ps[i]] else []) := by
   rw [List.take_add_one, hpi, List.filter_append]
   congr 1
   cases hp : p ps[i] <;> simp [hp]
  generalize ps[i] = q at hb hm tk hpi
  refine rd_gtup (s _ _ hb) rfl ?_
  refine rd_gcons (rd_name (rd_gcons (rd_name (rd_gnil ?_))))
  refine test q o1 o2 H2 _ hm s fun H5 s5 => ?_
  by_cases hp : p q = true
  ·rw [if_pos hp]
   rw [if_pos hp] at tk
   refine step q o1 o2 H5 _ hm (s.trans s5) fun c H6 s6 nc hc => ⟨s6 _ _ (s5 _ _ e), ?_, ?_⟩
   ·have := pz.1
    have h2 : ((ps.take i).filter p).length ≤ ps.length := Nat.le_trans (List.length_filter_le _ _) (by rw [List.length_take]; omega)
    have h3 := pw.1
    exact Nat.lt_of_le_of_lt (show zs.length ≤ 5000 by omega) (by decide)
   ·have el := s6 _ _ (s5 _ _ e)
    exact ⟨⟨some (.int q.1), some (.int q.2), rfl⟩, ((s.trans s5).trans s6).later hl, upd_same, by rw [tk]; exact ((pz.mono (s5.trans s6)).upd el (by intro ys z; cases z)).snoc (Pt.upd ⟨c, rfl, hc⟩ el (by intro ys z; cases z))⟩
  ·rw [if_neg hp]
   rw [if_neg hp, List.append_nil] at tk
   exact ⟨⟨some (.int q.1), some (.int q.2), rfl⟩, s.trans s5, s5 _ _ e, by rw [tk]; exact pz.mono s5⟩
 ·rintro zs σ' H' ⟨_, s, e, pz⟩
  rw [List.take_of_length_le (by rw [← pw.1]; exact Nat.le_refl _)] at pz
  exact ⟨⟨xs, s.seq hs, Nat.le_refl _⟩, fin zs H' s e pz⟩
section
variable {P : Program} {w : World} {K : PySem.W.Frag} {mg : Str → Option Value} {base : Heap} {t : Ad}
theorem dR_two {rs : List Int} {q : Int × Int} : 2 * ((q.1 + rs.getD q.2.toNat 0) % 2) - 1 = dR rs q := by unfold dR; split <;> omega
theorem dC_two {cs : List Int} {q : Int × Int} : 2 * ((q.2 + cs.getD q.1.toNat 0) % 2) - 1 = dC cs q := by unfold dC; split <;> omega
def sp_Lonward : Sp := fun vs H Q _ => ∃ (lp a : Addr) (cs rs : List Int) (q : Int × Int), vs = [.ref lp, .ref a] ∧ LoopAt H lp cs rs ∧ H a = some (.tup [.int q.1, .int q.2]) ∧ InR cs rs q ∧
 ∀ T i1 i2 H', Same H H' → H' T = some (.tup [.int i1, .int i2]) → (((q.1 + q.2) % 2 = 0 ∧ i1 = dR rs q ∧ i2 = 0) ∨ (¬ (q.1 + q.2) % 2 = 0 ∧ i1 = 0 ∧ i2 = dC cs q)) → Q (.ref T) H'
theorem ok_Lonward (T : Txt K mg t) : FnOk P w K mg base CX0 1 t.f_Lonward t.d_Lonward ["_law_loop_here", "_law_point"] sp_Lonward := by
 refine T.F_Lonward.ok sc_Lonward (fun vs H Q E h => ?_) (fun cdv A outer s H vs Q E hr h => ?_)
 ·obtain ⟨lp, a, cs, rs, q, rfl, _⟩ := h; rfl
 ·obtain ⟨lp, a, cs, rs, ⟨x, y⟩, rfl, hl, ha, ⟨⟨x0, x1⟩, y0, y1⟩, k1⟩ := h
  obtain ⟨c, r, hp, hc, hr'⟩ := hl.ob
  dsimp only at ha x0 x1 y0 y1 k1
  refine cutC (ps_asg (pv 1) (pg_tupK (n := 2) K rfl rfl (pgs_cons (pg_name (i := 2) sc_Lonward.nd rfl (Or.inl rfl)) (pgs_cons (pg_name (i := 3) sc_Lonward.nd rfl (Or.inl rfl)) pgs_nil)))) fun _ _ => cutC (ps_if (pt_cmpR op_eq (pe_op op_mod (pe_op op_add (pv 2) (pv 3)) pe_int) pe_int (nomark _)) (pss_one (ps_ret (pe_tup (pa_cons (pe_op op_sub (pe_op op_mul pe_int (pe_op op_mod (pe_op op_add (pv 2) (pe_ix (ix_listK K rfl) (pe_ix (ix_tupK K rfl) (pv 0) pe_int (fun _ _ => rfl)) (pv 3) (fun _ _ => rfl))) pe_int)) pe_int) (pa_cons pe_int pa_nil))))) pss_nil) fun _ _ => cutE (ps_ret (pe_tup (pa_cons pe_int (pa_cons (pe_op op_sub (pe_op op_mul pe_int (pe_op op_mod (pe_op op_add (pv 3) (pe_ix (ix_listK K rfl) (pe_ix (ix_tupK K rfl) (pv 0) pe_int (fun _ _ => rfl)) (pv 2) (fun _ _ => rfl))) pe_int)) pe_int) pa_nil)))) fun _ _ => ?_
  walk_at "rdr"
  refine rd_gtup ha rfl ?_
  walk_at "rdr"
  refine rd_I (by decide) ?_
  walk_at "rdr"
  by_cases ev : (x + y) % 2 = 0
  ·rw [decide_eq_true ev]
   walk_at "rdr"
   refine rd_ixT (SqT.of hp) (v := .ref r) rfl ?_
   walk_at "rdr"
   refine rd_ixL (SqL.of hr') (atI_ints y0 y1) ?_
   walk_at "rdr"
   refine rd_I (by decide) ?_
   walk_at "rdr"
   refine rd_I (.inl ⟨by decide, by decide⟩) ?_
   walk_at "rdr"
   rw [show 2 * ((x + rs.getD y.toNat 0) % 2) - 1 = dR rs (x, y) from dR_two (q := (x, y))]
   refine ⟨by show 2 ≤ sizeLine; decide, fun b nb => ?_⟩
   have sb := Same.new (o := HO.tup [V.int (dR rs (x, y)), V.int 0]) nb
   have eb := upd_same (H := H) (a := b) (o := HO.tup [V.int (dR rs (x, y)), V.int 0])
   generalize upd H b (HO.tup [V.int (dR rs (x, y)), V.int 0]) = H1 at sb eb ⊢
   exact k1 b _ _ H1 sb eb (.inl ⟨ev, rfl, rfl⟩)
  ·rw [decide_eq_false ev]
   walk_at "rdr"
   refine rd_ixT (SqT.of hp) (v := .ref c) rfl ?_
   walk_at "rdr"
   refine rd_ixL (SqL.of hc) (atI_ints x0 x1) ?_
   walk_at "rdr"
   refine rd_I (by decide) ?_
   walk_at "rdr"
   refine rd_I (.inl ⟨by decide, by decide⟩) ?_
   walk_at "rdr"
   rw [show 2 * ((y + cs.getD x.toNat 0) % 2) - 1 = dC cs (x, y) from dC_two (q := (x, y))]
   refine ⟨by show 2 ≤ sizeLine; decide, fun b nb => ?_⟩
   have sb := Same.new (o := HO.tup [V.int 0, V.int (dC cs (x, y))]) nb
   have eb := upd_same (H := H) (a := b) (o := HO.tup [V.int 0, V.int (dC cs (x, y))])
   generalize upd H b (HO.tup [V.int 0, V.int (dC cs (x, y))]) = H1 at sb eb ⊢
   exact k1 b _ _ H1 sb eb (.inr ⟨ev, rfl, rfl⟩)
def oP (cs rs : List Int) (p : Int × Int) (j : Nat) : Int × Int := if j % 2 = 0 then itr cs rs (j / 2) p else gR cs rs (itr cs rs (j / 2) p)
def oL (cs rs : List Int) (p : Int × Int) (j : Nat) : List (Int × Int) := if j % 2 = 0 then pts cs rs p (j / 2) else pts cs rs p (j / 2) ++ [itr cs rs (j / 2) p]
theorem oL_succ (cs rs : List Int) (p : Int × Int) (j : Nat) : oL cs rs p (j + 1) = oL cs rs p j ++ [oP cs rs p j] := by
 unfold oL oP
 rcases Nat.mod_two_eq_zero_or_one j with h | h
 ·rw [if_neg (by omega), if_pos h, if_pos h, show (j + 1) / 2 = j / 2 by omega]
 ·rw [if_pos (by omega), if_neg (by omega), if_neg (by omega), show (j + 1) / 2 = j / 2 + 1 by omega, List.append_assoc]; rfl
theorem oL_len (cs rs : List Int) (p : Int × Int) : ∀ j, (oL cs rs p j).length = j
 | 0 => rfl
 | j + 1 => by rw [oL_succ, List.length_append, oL_len cs rs p j]; rfl
theorem oP_in {cs rs : List Int} {p : Int × Int} (e : EvS cs rs) (h : InR cs rs p) (j : Nat) : InR cs rs (oP cs rs p j) := by
 unfold oP
 split
 ·exact itr_in e h _
 ·exact gR_in e (itr_in e h _)
theorem oP_par {cs rs : List Int} {p : Int × Int} (e : EvS cs rs) (h : InR cs rs p) (hp : (p.1 + p.2) % 2 = 0) (j : Nat) : ((oP cs rs p j).1 + (oP cs rs p j).2) % 2 = 0 ↔ j % 2 = 0 := by
 unfold oP
 have h1 := itr_par e h (j / 2)
 have h2 := gR_par e (itr_in e h (j / 2))
 split <;> omega
theorem oP_even {cs rs : List Int} {p : Int × Int} {j : Nat} (h : j % 2 = 0) : oP cs rs p (j + 1) = gR cs rs (oP cs rs p j) := by
 unfold oP
 rw [if_neg (by omega), if_pos h, show (j + 1) / 2 = j / 2 by omega]
theorem oP_odd {cs rs : List Int} {p : Int × Int} {j : Nat} (h : ¬ j % 2 = 0) : oP cs rs p (j + 1) = gC cs rs (oP cs rs p j) := by
 unfold oP
 rw [if_pos (by omega), if_neg h, show (j + 1) / 2 = j / 2 + 1 by omega]
 rfl
theorem sR_even {cs rs : List Int} {p : Int × Int} {j : Nat} (h : j % 2 = 0) : sumR cs rs p ((j + 1 + 1) / 2) = sumR cs rs p ((j + 1) / 2) + dR rs (oP cs rs p j) ∧ sumC cs rs p ((j + 1) / 2) = sumC cs rs p (j / 2) := by
 rw [show (j + 1 + 1) / 2 = j / 2 + 1 by omega, show (j + 1) / 2 = j / 2 by omega]
 unfold oP
 rw [if_pos h]
 exact ⟨rfl, rfl⟩
theorem sR_odd {cs rs : List Int} {p : Int × Int} {j : Nat} (h : ¬ j % 2 = 0) : sumR cs rs p ((j + 1 + 1) / 2) = sumR cs rs p ((j + 1) / 2) ∧ sumC cs rs p ((j + 1) / 2) = sumC cs rs p (j / 2) + dC cs (oP cs rs p j) := by
 rw [show (j + 1 + 1) / 2 = (j + 1) / 2 by omega, show (j + 1) / 2 = j / 2 + 1 by omega]
 unfold oP
 rw [if_neg h]
 exact ⟨rfl, rfl⟩
def sp_Lgone : Sp := fun vs H Q _ => ∃ (lp a : Addr) (cs rs : List Int) (q : Int × Int), vs = [.ref lp, .ref a] ∧ LoopAt H lp cs rs ∧ H a = some (.tup [.int q.1, .int q.2]) ∧ InR cs rs q ∧ (q.1 + q.2) % 2 = 0 ∧
 ∀ n T l H', Same H H' → Rnd cs rs q n → H l = none → RndAt H' T l cs rs q n → Q (.ref T) H'
theorem ok_Lgone (T : Txt K mg t) : FnOk P w K mg base CX0 2 t.f_Lgone t.d_Lgone ["_law_loop_here", "_law_point"] sp_Lgone := by
  have G_Lonward := ok_Lonward (P := P) (w := w) (base := base) T
  refine T.F_Lgone.ok sc_Lgone (fun vs H Q E h => ?_) (fun cdv A outer s H vs Q E hr h => ?_)
  · obtain ⟨lp, a, cs, rs, q, rfl, _⟩ := h; rfl
  · obtain ⟨lp, a, cs, rs, q, rfl, hl, ha, hin, hev, k⟩ := h
    obtain ⟨c, r, hp, hc, hr'⟩ := hl.ob
    have ev := RBits.evs hl.bc hl.br
    have lc := hl.bc.1
    have lr := hl.br.1
    unfold rOk at lc lr
    have big : cs.length * rs.length ≤ 1600 := Nat.mul_le_mul lc.2.1 lr.2.1
    refine cutC (ps_set (i := 2) sc_Lgone.nd rfl (Or.inl rfl) (pe_callB (cI_lenK K rfl) rfl T.no_len (by rfl) (pa_cons (pe_ix (ix_tupK K rfl) (pv 0) pe_int (fun _ _ => rfl)) pa_nil))) fun _ _ => cutC (ps_set (i := 3) sc_Lgone.nd rfl (Or.inl rfl) (pe_callB (cI_lenK K rfl) rfl T.no_len (by rfl) (pa_cons (pe_ix (ix_tupK K rfl) (pv 0) pe_int (fun _ _ => rfl)) pa_nil))) fun _ _ => cutC (ps_set (i := 4) sc_Lgone.nd rfl (Or.inl rfl) (pe_lst pa_nil)) fun _ _ => cutC (ps_set (i := 5) sc_Lgone.nd rfl (Or.inl rfl) (pv 1)) fun _ _ => cutC (ps_set (i := 6) sc_Lgone.nd rfl (Or.inl rfl) pe_int) fun _ _ => cutC (ps_set (i := 7) sc_Lgone.nd rfl (Or.inl rfl) pe_int) fun _ _ => cutC (ps_while PassesOwn.never (PW.pt (pw_or (pt_cmpR (op_eqD hr.units) (pv 4) (pe_lst pa_nil) (nomark _)) (pw_or1 (pt_cmpR (op_neD hr.units) (pv 5) (pv 1) (nomark _))))) (pss_cons (ps_expr (pe_bm PySem.F.plainAttrs_list PySem.F.slot_list_append PySem.F.type_list_append mt_append (pv 4) (pa_cons (pv 5) pa_nil))) (pss_cons (ps_set (i := 8) sc_Lgone.nd rfl (Or.inl rfl) (pe_call G_Lonward (hr.mono (by first | decide | omega)) rfl T.mg_Lonward T.F_Lonward.kp T.b_Lonward .nil pass0 (pa_cons (pv 0) (pa_cons (pv 5) pa_nil)))) (pss_cons (ps_aug (i := 6) sc_Lgone.nd rfl (Or.inl rfl) (pe_ix (ix_tupK K rfl) (pv 8) pe_int (fun _ _ => rfl)) ip_add) (pss_cons (ps_aug (i := 7) sc_Lgone.nd rfl (Or.inl rfl) (pe_ix (ix_tupK K rfl) (pv 8) pe_int (fun _ _ => rfl)) ip_add) (pss_one (ps_set (i := 5) sc_Lgone.nd rfl (Or.inl rfl) (pe_tup (pa_cons (pe_op op_mod (pe_op op_add (pe_ix (ix_tupK K rfl) (pv 5) pe_int (fun _ _ => rfl)) (pe_ix (ix_tupK K rfl) (pv 8) pe_int (fun _ _ => rfl))) (pv 2)) (pa_cons (pe_op op_mod (pe_op op_add (pe_ix (ix_tupK K rfl) (pv 5) pe_int (fun _ _ => rfl)) (pe_ix (ix_tupK K rfl) (pv 8) pe_int (fun _ _ => rfl))) (pv 3)) pa_nil)))))))))) fun _ _ => cutE (ps_ret (pe_tup (pa_cons (pv 4) (pa_cons (pe_op op_fdiv (pv 6) (pv 2)) (pa_cons (pe_op op_fdiv (pv 7) (pv 3)) pa_nil))))) fun _ _ => ?_
    walk_at "rdr"
    refine rd_ixT (SqT.of hp) (v := .ref c) rfl ?_
    walk_at "rdr"
    refine rd_lenL hc ?_
    rw [List.length_map]
    walk_at "rdr"
    refine rd_ixT (SqT.of hp) (v := .ref r) rfl ?_
    walk_at "rdr"
    refine rd_lenL hr' ?_
    rw [List.length_map]
    walk_at "rdr"
    refine ⟨by show 0 ≤ sizeLine; decide, fun l nl => ?_⟩
    have sl := Same.new (o := HO.lst []) nl
    have el := upd_same (H := H) (a := l) (o := HO.lst [])
    generalize upd H l (HO.lst []) = H1 at sl el ⊢
    walk_at "rdr"
    refine ⟨fun m σ' H' => ∃ (j : Nat) (xs : List V) (b : Addr) (o8 : Option V), m = 2 * (cs.length * rs.length) + 3 - j ∧ σ' = [some (.ref lp), some (.ref a), some (.int (cs.length : Nat)), some (.int (rs.length : Nat)), some (.ref l), some (.ref b), some (.int (sumR cs rs q ((j + 1) / 2))), some (.int (sumC cs rs q (j / 2))), o8] ∧ Same H H' ∧ H' l = some (.lst xs) ∧
      PwPt H' xs (oL cs rs q j) ∧ Pt H' (.ref b) (oP cs rs q j) ∧ NoRet cs rs q ((j + 1) / 2), ⟨_, 0, [], a, none, rfl, rfl, sl, el, ⟨rfl, fun i v q h1 => by simp at h1⟩, ⟨a, rfl, sl _ _ ha⟩, fun j h0 h1 => (by omega)⟩, ?_⟩
    rintro m σ' H2 ⟨j, xs, b, o8, rfl, rfl, s2, e2, px, ⟨b', hb', hb⟩, nr⟩
    cases hb'
    have lx : xs.length = j := by rw [px.1, oL_len]
    have few := ret_few ev hin nr
    have hin2 := oP_in ev hin j
    have par := oP_par ev hin hev j
    refine rd_orS (decide (j = 0)) (!decide (oP cs rs q j = q)) (fun Q' q' => ?_) (fun hc' H3 Q' s3 q' => ?_) fun H3 s3 => ?_
    · walk_at "rdr"
      refine ⟨by show 0 ≤ sizeLine; decide, fun z nz => ?_⟩
      have sz := Same.new (o := HO.lst []) nz
      have ez := upd_same (H := H2) (a := z) (o := HO.lst [])
      generalize upd H2 z (HO.lst []) = H3 at sz ez ⊢
      walk_at "rdr"
      refine rd_eqNil' (sz _ _ e2) (px.mono sz) ez ?_
      have e : (oL cs rs q j).isEmpty = decide (j = 0) := by
        have := oL_len cs rs q j
        cases h : oL cs rs q j with
        | nil => rw [h] at this; rw [decide_eq_true (show j = 0 from this.symm)]; rfl
        | cons u v => rw [h] at this; rw [decide_eq_false (by rw [← this]; exact Nat.succ_ne_zero _)]; rfl
      rw [e]
      walk_at "rdr"
      exact q' H3 sz
    · walk_at "rdr"
      refine rd_neP (s3 _ _ hb) (s3 _ _ (s2 _ _ ha)) ?_
      walk_at "rdr"
      exact q' H3 (Same.refl _)
    · have s13 := s2.trans s3
      refine ite2 (fun tt => ?_) (fun tf => ?_)
      · refine ⟨fun σ' H' => ∃ (xs : List V) (b : Addr) (o8 : Option V), σ' = [some (.ref lp), some (.ref a), some (.int (cs.length : Nat)), some (.int (rs.length : Nat)), some (.ref l), some (.ref b), some (.int (sumR cs rs q ((j + 1 + 1) / 2))), some (.int (sumC cs rs q ((j + 1) / 2))), o8] ∧ Same H H' ∧ H' l = some (.lst xs) ∧
          PwPt H' xs (oL cs rs q (j + 1)) ∧ Pt H' (.ref b) (oP cs rs q (j + 1)), ?_, ?_⟩
        · rintro σ' H' ⟨xs, b, o8, rfl, s4, e4, px4, hb4⟩
          refine ⟨_, ?_, j + 1, xs, b, o8, rfl, rfl, s4, e4, px4, hb4, fun i h0 h1 => ?_⟩
          · omega
          · by_cases hj : i < (j + 1) / 2
            · exact nr i h0 hj
            · have e1 : j % 2 = 0 ∧ i = j / 2 := by omega
              obtain ⟨je, rfl⟩ := e1
              rw [decide_eq_false (by omega : ¬ j = 0), Bool.false_or] at tt
              intro z
              have : oP cs rs q j = q := by unfold oP; rw [if_pos je]; exact z
              rw [decide_eq_true this] at tt
              cases tt
        · rw [oL_succ]
          have el3 := s3 _ _ e2
          have hb3 := s3 _ _ hb
          have px3 := px.mono s3
          walk_at "rdr"
          refine rd_bmL el3 ?_
          walk_at "rdr"
          refine rd_append el3 (by rw [lx]; exact small1000' (by omega)) ?_
          have px4 := (px3.upd (o := .lst (xs ++ [V.ref b])) el3 (by intro ys z; cases z)).snoc (q := oP cs rs q j) ((Pt.upd (q := oP cs rs q j) (o := .lst (xs ++ [V.ref b])) ⟨b, rfl, hb3⟩ el3 (by intro ys z; cases z)))
          have s4 := s13.later (o := .lst (xs ++ [V.ref b])) nl
          have e4 := upd_same (H := H3) (a := l) (o := .lst (xs ++ [V.ref b]))
          have hb4 : upd H3 l (.lst (xs ++ [V.ref b])) b = _ := (upd_ne (ne_of hb3 el3 (by intro z; cases z))).trans hb3
          generalize upd H3 l (.lst (xs ++ [V.ref b])) = H4 at px4 s4 e4 hb4 ⊢
          walk_at "rdr"
          refine ⟨lp, b, cs, rs, oP cs rs q j, rfl, hl.mono s4, hb4, hin2, fun T1 i1 i2 H5 s5 e5 hi => ?_⟩
          have hR : sumR cs rs q ((j + 1 + 1) / 2) = sumR cs rs q ((j + 1) / 2) + i1 := by
            rcases hi with ⟨z, rfl, rfl⟩ | ⟨z, rfl, rfl⟩
            · exact (sR_even (par.mp z)).1
            · rw [(sR_odd fun y => z (par.mpr y)).1, Int.add_zero]
          have hC : sumC cs rs q ((j + 1) / 2) = sumC cs rs q (j / 2) + i2 := by
            rcases hi with ⟨z, rfl, rfl⟩ | ⟨z, rfl, rfl⟩
            · rw [(sR_even (par.mp z)).2, Int.add_zero]
            · exact (sR_odd fun y => z (par.mpr y)).2
          have hP : oP cs rs q (j + 1) = (((oP cs rs q j).1 + i1) % (cs.length : Int), ((oP cs rs q j).2 + i2) % (rs.length : Int)) := by
            rcases hi with ⟨z, rfl, rfl⟩ | ⟨z, rfl, rfl⟩
            · rw [oP_even (par.mp z)]
              refine Prod.ext rfl ?_
              show (oP cs rs q j).2 = ((oP cs rs q j).2 + 0) % (rs.length : Int)
              rw [Int.add_zero, Int.emod_eq_of_lt hin2.2.1 hin2.2.2]
            · rw [oP_odd fun y => z (par.mpr y)]
              refine Prod.ext ?_ rfl
              show (oP cs rs q j).1 = ((oP cs rs q j).1 + 0) % (cs.length : Int)
              rw [Int.add_zero, Int.emod_eq_of_lt hin2.1.1 hin2.1.2]
          rw [hR, hC, hP]
          have hb5 := s5 _ _ hb4
          walk_at "rdr"
          refine rd_ixT (SqT.of e5) (v := .int i1) rfl ?_
          walk_at "rdr"
          refine rd_ixT (SqT.of e5) (v := .int i2) rfl ?_
          walk_at "rdr"
          refine rd_ixT (SqT.of hb5) (v := .int (oP cs rs q j).1) rfl ?_
          walk_at "rdr"
          refine rd_ixT (SqT.of e5) (v := .int i1) rfl ?_
          walk_at "rdr"
          refine rd_I (by omega) ?_
          walk_at "rdr"
          refine rd_ixT (SqT.of hb5) (v := .int (oP cs rs q j).2) rfl ?_
          walk_at "rdr"
          refine rd_ixT (SqT.of e5) (v := .int i2) rfl ?_
          walk_at "rdr"
          refine rd_I (by omega) ?_
          walk_at "rdr"
          refine ⟨by show 2 ≤ sizeLine; decide, fun d nd => ?_⟩
          have sd := Same.new (o := HO.tup [V.int (((oP cs rs q j).1 + i1) % (cs.length : Int)), V.int (((oP cs rs q j).2 + i2) % (rs.length : Int))]) nd
          have ed := upd_same (H := H5) (a := d) (o := HO.tup [V.int (((oP cs rs q j).1 + i1) % (cs.length : Int)), V.int (((oP cs rs q j).2 + i2) % (rs.length : Int))])
          generalize upd H5 d (HO.tup [V.int (((oP cs rs q j).1 + i1) % (cs.length : Int)), V.int (((oP cs rs q j).2 + i2) % (rs.length : Int))]) = H6 at sd ed ⊢
          walk_at "rdr"
          have s6 := s5.trans sd
          exact ⟨_, d, _, rfl, s4.trans s6, s6 _ _ e4, px4.mono s6, ⟨d, rfl, ed⟩⟩
      · have tf : j ≠ 0 ∧ oP cs rs q j = q := by
          rw [Bool.not_eq_true, Bool.or_eq_false_iff] at tf
          refine ⟨of_decide_eq_false tf.1, ?_⟩
          have := tf.2
          by_cases z : oP cs rs q j = q
          · exact z
          · rw [decide_eq_false z] at this; cases this
        have je : j % 2 = 0 := par.mp (by rw [tf.2]; exact hev)
        obtain ⟨n, rfl⟩ : ∃ n, j = 2 * n := ⟨j / 2, by omega⟩
        have hbk := tf.2
        unfold oP at hbk
        unfold oL at px
        rw [if_pos je, show 2 * n / 2 = n by omega] at hbk px
        rw [show (2 * n + 1) / 2 = n by omega] at nr ⊢
        rw [show 2 * n / 2 = n by omega]
        walk_at "rdr"
        refine rd_I ⟨by omega, by omega⟩ ?_
        walk_at "rdr"
        refine rd_I ⟨by omega, by omega⟩ ?_
        walk_at "rdr"
        refine ⟨by show 3 ≤ sizeLine; decide, fun T1 nT1 => ?_⟩
        have sT1 := Same.new (o := HO.tup [V.ref l, V.int (sumR cs rs q n / cs.length), V.int (sumC cs rs q n / rs.length)]) nT1
        have eT1 := upd_same (H := H3) (a := T1) (o := HO.tup [V.ref l, V.int (sumR cs rs q n / cs.length), V.int (sumC cs rs q n / rs.length)])
        generalize upd H3 T1 (HO.tup [V.ref l, V.int (sumR cs rs q n / cs.length), V.int (sumC cs rs q n / rs.length)]) = H4 at sT1 eT1 ⊢
        exact k n T1 l H4 (s13.trans sT1) ⟨by omega, hbk, nr⟩ nl ⟨eT1, xs, sT1 _ _ (s3 _ _ e2), px.mono (s3.trans sT1)⟩
end
section
variable {P : Program} {w : World} {K : PySem.W.Frag} {mg : Str → Option Value} {base : Heap} {t : Ad}
def sp_Lgoneall : Sp := fun vs H Q _ => ∃ (lp : Addr) (cs rs : List Int), vs = [.ref lp] ∧ LoopAt H lp cs rs ∧
 ∀ lf L xs H', Same H H' → H lf = none → PartL cs rs L → Gath cs rs (evs rs.length cs.length) L → (∀ q, InR cs rs q → q ∈ flat cs rs L) → H' lf = some (.lst xs) → PwR H H' lf cs rs xs L → Q (.ref lf) H'
theorem ok_Lgoneall (T : Txt K mg t) : FnOk P w K mg base CX0 3 t.f_Lgoneall t.d_Lgoneall ["_law_loop_here"] sp_Lgoneall := by
  have G_Lgone := ok_Lgone (P := P) (w := w) (base := base) T
  refine T.F_Lgoneall.ok sc_Lgoneall (fun vs H Q E h => ?_) (fun cdv A outer s H vs Q E hr h => ?_)
  · obtain ⟨lp, cs, rs, rfl, _⟩ := h; rfl
  · obtain ⟨lp, cs, rs, rfl, hl, k⟩ := h
    obtain ⟨c, r, hp, hc, hr'⟩ := hl.ob
    have ev := RBits.evs hl.bc hl.br
    have lc := hl.bc.1
    have lr := hl.br.1
    unfold rOk at lc lr
    have big : cs.length * rs.length ≤ 1600 := Nat.mul_le_mul lc.2.1 lr.2.1
    refine cutC (ps_set (i := 1) sc_Lgoneall.nd rfl (Or.inl rfl) (pe_lst pa_nil)) fun _ _ => cutC (ps_set (i := 2) sc_Lgoneall.nd rfl (Or.inl rfl) pe_dnewT) fun _ _ => cutC (ps_for PassesOwn.never rfl (pi_range1 rfl T.no_range (pa_cons (pe_callB (cI_lenK K rfl) rfl T.no_len (by rfl) (pa_cons (pe_ix (ix_tupK K rfl) (pv 0) pe_int (fun _ _ => rfl)) pa_nil)) pa_nil)) (pg_name (i := 3) sc_Lgoneall.nd rfl (Or.inl rfl)) (pss_one (ps_for PassesOwn.never rfl (pi_range1 rfl T.no_range (pa_cons (pe_callB (cI_lenK K rfl) rfl T.no_len (by rfl) (pa_cons (pe_ix (ix_tupK K rfl) (pv 0) pe_int (fun _ _ => rfl)) pa_nil)) pa_nil)) (pg_name (i := 4) sc_Lgoneall.nd rfl (Or.inl rfl)) (pss_one (ps_join (ps_if (PW.pt (pw_and (pt_cmpR op_eq (pe_op op_mod (pe_op op_add (pv 3) (pv 4)) pe_int) pe_int (nomark _)) (pw_and1 (pt_cmp (pc_dnotin (hu_of hr) (pe_tup (pa_cons (pv 3) (pa_cons (pv 4) pa_nil))) (pv 2)))))) (pss_cons (ps_expr (pe_bm PySem.F.plainAttrs_list PySem.F.slot_list_append PySem.F.type_list_append mt_append (pv 1) (pa_cons (pe_call G_Lgone (hr.mono (by first | decide | omega)) rfl T.mg_Lgone T.F_Lgone.kp T.b_Lgone .nil pass0 (pa_cons (pv 0) (pa_cons (pe_tup (pa_cons (pv 3) (pa_cons (pv 4) pa_nil))) pa_nil))) pa_nil))) (pss_one (ps_for PassesOwn.never rfl (pi_list (pe_ix (ix_tupK K rfl) (pe_ix (ix_listK K rfl) (pv 1) (pe_un un_neg pe_int) (fun _ _ => rfl)) pe_int (fun _ _ => rfl))) (pg_name (i := 5) sc_Lgoneall.nd rfl (Or.inl rfl)) (pss_one (ps_dput (hu_of hr) (pv 2) (pv 5) pe_bl rfl))))) pss_nil)))))) fun _ _ => cutE (ps_ret (pv 1)) fun _ _ => ?_
    walk_at "rdr"
    refine ⟨by show 0 ≤ sizeLine; decide, fun lf nlf => ?_⟩
    have slf := Same.new (o := HO.lst []) nlf
    have elf := upd_same (H := H) (a := lf) (o := HO.lst [])
    generalize upd H lf (HO.lst []) = H1 at slf elf ⊢
    walk_at "rdr"
    intro ds nds
    have s2 := Same.new (o := HO.dT []) nds
    have e2 := upd_same (H := H1) (a := ds) (o := HO.dT [])
    have e1 := s2 _ _ elf
    have nds : H ds = none := slf.free nds
    have s2 := slf.trans s2
    generalize upd H1 ds (HO.dT []) = H2 at s2 e1 e2 ⊢
    have ga : GaAt H H2 lf ds cs rs [] (flat cs rs []) := ⟨⟨[], e1, rfl, fun i v r h1 => by simp at h1⟩, ⟨[], e2, rfl⟩⟩
    clear e1 e2
    walk_at "rdr"
    refine rd_ixT (SqT.of (s2 _ _ hp)) (v := .ref c) rfl ?_
    walk_at "rdr"
    refine rd_lenL (s2 _ _ hc) ?_
    rw [List.length_map]
    refine ⟨_, rfl, by omega, by omega, ?_⟩
    rw [Int.toNat_natCast]
    refine forW_range (fun x σ' H' => ∃ (L : List ((Int × Int) × Nat)) (o3 o4 o5 : Option V), σ' = [some (.ref lp), some (.ref lf), some (.ref ds), o3, o4, o5] ∧ Same H H' ∧ GaAt H H' lf ds cs rs L (flat cs rs L) ∧ PartL cs rs L ∧ Gath cs rs (evs rs.length x) L)
      ⟨[], none, none, none, rfl, s2, ga, .nil, .nil⟩ ?_ ?_
    · rintro x σ' H3 hx ⟨L, o3, o4, o5, rfl, s3, ga3, pa3, gt3⟩
      rw [Int.zero_add]
      walk_at "rdr"
      refine rd_ixT (SqT.of (s3 _ _ hp)) (v := .ref r) rfl ?_
      walk_at "rdr"
      refine rd_lenL (s3 _ _ hr') ?_
      rw [List.length_map]
      refine ⟨_, rfl, by omega, by omega, ?_⟩
      rw [Int.toNat_natCast]
      refine forW_range (fun j σ' H' => ∃ (L : List ((Int × Int) × Nat)) (o4 o5 : Option V), σ' = [some (.ref lp), some (.ref lf), some (.ref ds), some (.int (x : Nat)), o4, o5] ∧ Same H H' ∧ GaAt H H' lf ds cs rs L (flat cs rs L) ∧ PartL cs rs L ∧ Gath cs rs (evs rs.length x ++ ev1 x j) L)
        ⟨L, o4, o5, rfl, s3, ga3, pa3, by rw [ev1_zero, List.append_nil]; exact gt3⟩ ?_ ?_
      · rintro j σ' H4 hj ⟨L, o4, o5, rfl, s4, ga4, pa4, gt4⟩
        have hin : InR cs rs (((x : Nat) : Int), ((j : Nat) : Int)) := ⟨⟨by show (0 : Int) ≤ (x : Nat); omega, by show ((x : Nat) : Int) < _; omega⟩, by show (0 : Int) ≤ (j : Nat); omega, by show ((j : Nat) : Int) < _; omega⟩
        rw [Int.zero_add]
        walk_at "rdr"
        refine rd_join (fun σ' H' => ∃ (L : List ((Int × Int) × Nat)) (o5 : Option V), σ' = [some (.ref lp), some (.ref lf), some (.ref ds), some (.int (x : Nat)), some (.int (j : Nat)), o5] ∧ Same H H' ∧ GaAt H H' lf ds cs rs L (flat cs rs L) ∧ PartL cs rs L ∧ Gath cs rs (evs rs.length x ++ ev1 x (j + 1)) L) ?_ ?_
        · walk_at "rdr"
          refine rd_I (by decide) ?_
          walk_at "rdr"
          by_cases hev : (x + j) % 2 = 0
          · have hev' : (((x : Nat) : Int) + ((j : Nat) : Int)) % 2 = 0 := by omega
            rw [decide_eq_true hev', ev1_even hev, ← List.append_assoc]
            generalize evs rs.length x ++ ev1 x j = gps at gt4 ⊢
            walk_at "rdr"
            refine ⟨by show 2 ≤ sizeLine; decide, fun a na => ?_⟩
            have sa := Same.new (o := HO.tup [V.int (x : Nat), V.int (j : Nat)]) na
            have ea := upd_same (H := H4) (a := a) (o := HO.tup [V.int (x : Nat), V.int (j : Nat)])
            generalize upd H4 a (HO.tup [V.int (x : Nat), V.int (j : Nat)]) = H5 at sa ea ⊢
            have ga5 := ga4.mono sa
            have s5 := s4.trans sa
            obtain ⟨kvs, ed, ke⟩ := ga5.dct
            walk_at "rdr"
            refine ⟨ds, _, rfl, DGet.t (k := ky (((x : Nat) : Int), ((j : Nat) : Int))) ed ea, ?_⟩
            rw [ke.val]
            by_cases hm : (((x : Nat) : Int), ((j : Nat) : Int)) ∈ flat cs rs L
            · rw [decide_eq_true hm]
              walk_at "rdr"
              exact ⟨L, _, rfl, s5, ga5, pa4, gt4.skip hm⟩
            · rw [decide_eq_false hm]
              walk_at "rdr"
              obtain ⟨ys, ef, pr⟩ := ga5.lst
              refine rd_bmL ef ?_
              clear ef pr ys
              walk_at "rdr"
              refine ⟨by show 2 ≤ sizeLine; decide, fun b nb => ?_⟩
              have sb := Same.new (o := HO.tup [V.int (x : Nat), V.int (j : Nat)]) nb
              have eb := upd_same (H := H5) (a := b) (o := HO.tup [V.int (x : Nat), V.int (j : Nat)])
              generalize upd H5 b (HO.tup [V.int (x : Nat), V.int (j : Nat)]) = H6 at sb eb ⊢
              have ga6 := ga5.mono sb
              have s6 := s5.trans sb
              clear ed ke kvs ga5 ga4
              walk_at "rdr"
              refine ⟨lp, b, cs, rs, _, rfl, hl.mono s6, eb, hin, hev', fun n T l H7 s7 rn nl ra => ?_⟩
              obtain ⟨xs, el, px⟩ := ra.li
              have ga7 := ga6.mono s7
              obtain ⟨ys, ef, pr⟩ := ga7.lst
              have nlf' : l ≠ lf := by
                intro z
                obtain ⟨ys', ef', _⟩ := ga6.lst
                rw [z, ef'] at nl; cases nl
              have nl0 := s6.free nl
              have s7 := s6.trans s7
              have pa7 := pa4.add ev hin hev' rn hm
              walk_at "rdr"
              have ly : ys.length ≤ 1600 := by
                have h1 := few pa4.nd (pa4.in_ ev)
                have h2 : ∀ (M : List ((Int × Int) × Nat)), (∀ r ∈ M, 1 ≤ r.2) → M.length ≤ (flat cs rs M).length := by
                  intro M
                  induction M with
                  | nil => intro _; exact Nat.zero_le _
                  | cons r M ih =>
                    intro hM
                    have := ih fun r' hr' => hM r' (List.mem_cons_of_mem _ hr')
                    have hr := hM r List.mem_cons_self
                    unfold flat at this ⊢
                    rw [List.flatMap_cons, List.length_append, pts_len, List.length_cons]
                    omega
                have h3 := h2 L fun r hr => (pa4.rnd r hr).2.2.pos
                rw [pr.1]
                omega
              refine rd_append ef (small1000' (by omega)) ?_
              have pr8 := (pr.lst (o := .lst (ys ++ [V.ref T])) ef).snoc (r := ((((x : Nat) : Int), ((j : Nat) : Int)), n)) (RndV.lst (o := .lst (ys ++ [V.ref T])) ⟨T, l, rfl, ⟨nlf', nl0⟩, ra⟩ ef)
              have ef8 := upd_same (H := H7) (a := lf) (o := .lst (ys ++ [V.ref T]))
              obtain ⟨kvs, ed, ke⟩ := ga7.dct
              have ed8 : upd H7 lf (.lst (ys ++ [V.ref T])) ds = some (.dT kvs) := (upd_ne (ne_of ed ef (by intro z; cases z))).trans ed
              have s8 := s7.later (o := .lst (ys ++ [V.ref T])) nlf
              have el8 : upd H7 lf (.lst (ys ++ [V.ref T])) l = some (.lst xs) := (upd_ne nlf').trans el
              have px8 := px.upd (o := .lst (ys ++ [V.ref T])) ef (by intro ys z; cases z)
              have eT8 : upd H7 lf (.lst (ys ++ [V.ref T])) T = _ := (upd_ne (ne_of ra.ob ef (by intro z; cases z))).trans ra.ob
              generalize upd H7 lf (.lst (ys ++ [V.ref T])) = H8 at pr8 ef8 ed8 s8 el8 px8 eT8 ⊢
              clear ga7 ga6 ef ed el pr s7 s6 ra ea eb
              walk_at "rdr"
              refine rd_ixL (SqL.of ef8) (v := .ref T) (atI_last _ _) ?_
              walk_at "rdr"
              refine rd_ixT (SqT.of eT8) (v := .ref l) rfl ?_
              walk_at "rdr"
              refine ⟨⟨_, SqL.of el8⟩, ?_⟩
              have nd8 : (flat cs rs L ++ pts cs rs (((x : Nat) : Int), ((j : Nat) : Int)) n).Nodup := by have := pa7.nd; rwa [flat_snoc] at this
              have fw := few pa7.nd (pa7.in_ ev)
              rw [flat_snoc, List.length_append] at fw
              dsimp only at fw
              have gt8 := gt4.add hm rn
              generalize hpp : pts cs rs (((x : Nat) : Int), ((j : Nat) : Int)) n = pp at px8 nd8 fw
              refine forW_list (K := K) (a := l) (xs := xs) (fun i σ' H' => ∃ (o5 : Option V) (kvs : List (List Key × V)), σ' = [some (.ref lp), some (.ref lf), some (.ref ds), some (.int (x : Nat)), some (.int (j : Nat)), o5] ∧ Same H H' ∧ H' lf = some (.lst (ys ++ [V.ref T])) ∧ PwR H H' lf cs rs (ys ++ [V.ref T]) (L ++ [((((x : Nat) : Int), ((j : Nat) : Int)), n)]) ∧
                  H' l = some (.lst xs) ∧ PwPt H' xs pp ∧ H' ds = some (.dT kvs) ∧ KeysAre kvs (flat cs rs L ++ pp.take i))
                ⟨_, kvs, rfl, s8, ef8, pr8, el8, px8, ed8, by rw [List.take_zero, List.append_nil]; exact ke⟩ (fun i σ' H' _ ⟨_, _, _, _, _, _, z, _⟩ => SqL.of z) ?_ ?_
              · rintro i v σ' H9 hv ⟨o6, kvs, rfl, s9, ef9, pr9, el9, px9, ed9, ke9⟩
                have hi : i < xs.length := (List.getElem?_eq_some_iff.mp hv).1
                have hi' : i < pp.length := by rw [← px9.1]; exact hi
                obtain ⟨q, hq⟩ : ∃ q, pp[i]? = some q := ⟨_, List.getElem?_eq_getElem hi'⟩
                obtain ⟨c, rfl, hc⟩ := px9.2 i v q hv hq
                have ht : pp.take (i + 1) = pp.take i ++ [q] := by rw [List.take_add_one, hq]; rfl
                have nq : q ∉ flat cs rs L ++ pp.take i := by
                  have h1 : (flat cs rs L ++ pp.take (i + 1)).Nodup := by
                    rw [List.nodup_append] at nd8 ⊢
                    refine ⟨nd8.1, nd8.2.1.sublist (List.take_sublist _ _), fun a ha b hb => nd8.2.2 a ha b (List.mem_of_mem_take hb)⟩
                  rw [ht, ← List.append_assoc, List.nodup_append] at h1
                  exact fun z => h1.2.2 q z q (by simp) rfl
                walk_at "rdr"
                refine ⟨ds, _, rfl, DPut.t (k := ky q) ed9 hc ?_, ?_⟩
                · have := ke9.len
                  rw [List.length_append, List.length_take] at this
                  exact small1000' (by omega)
                have ke10 := ke9.put (v := .bl true) nq
                rw [List.append_assoc, ← ht] at ke10
                exact ⟨_, _, rfl, s9.later (o := .dT _) nds, (upd_ne (ne_of ef9 ed9 (by intro z; cases z))).trans ef9, pr9.dct ed9, (upd_ne (ne_of el9 ed9 (by intro z; cases z))).trans el9, px9.upd ed9 (by intro ys z; cases z), upd_same, ke10⟩
              · rintro σ' H9 ⟨o6, kvs, rfl, s9, ef9, pr9, el9, px9, ed9, ke9⟩
                rw [List.take_of_length_le (by rw [px9.1]; exact Nat.le_refl _)] at ke9
                exact ⟨L ++ [((((x : Nat) : Int), ((j : Nat) : Int)), n)], _, rfl, s9, ⟨⟨_, ef9, pr9⟩, ⟨kvs, ed9, by rw [flat_snoc, hpp]; exact ke9⟩⟩, pa7, gt8⟩
          · rw [decide_eq_false (show ¬ (((x : Nat) : Int) + ((j : Nat) : Int)) % 2 = 0 by omega), ev1_odd hev]
            walk_at "rdr"
            exact ⟨L, _, rfl, s4, ga4, pa4, gt4⟩
        · rintro σ2 H5 ⟨L', o5, rfl, s5, ga5, pa5, gt5⟩
          exact ⟨L', _, _, rfl, s5, ga5, pa5, gt5⟩
      · rintro σ' H4 ⟨L, o4, o5, rfl, s4, ga4, pa4, gt4⟩
        exact ⟨L, _, _, _, rfl, s4, ga4, pa4, by rw [evs_succ]; exact gt4⟩
    · rintro σ' H3 ⟨L, o3, o4, o5, rfl, s3, ga3, pa3, gt3⟩
      obtain ⟨xs, ef, pr⟩ := ga3.lst
      walk_at "rdr"
      exact k lf L xs H3 s3 nlf pa3 gt3 (odd_cov ev pa3 fun q hq he => gt3.cov q (mem_evs.mpr ⟨hq.1.1, hq.1.2, hq.2.1, hq.2.2, he⟩)) ef pr
end
section
variable {P : Program} {w : World} {K : PySem.W.Frag} {mg : Str → Option Value} {base : Heap} {t : Ad}
def evB (q : Int × Int) : Bool := decide ((q.1 + q.2) % 2 = 0)
def sp_roundat (C : Addr) : Sp := fun vs H Q _ => ∃ (p a : Addr) (cs rs : List Int) (q : Int × Int), vs = [.ref p, .ref a] ∧ RingAt C H p cs rs ∧ RBits cs ∧ RBits rs ∧ H a = some (.tup [.int q.1, .int q.2]) ∧ InR cs rs q ∧
 ∀ n z m T l H', Same H H' → Rnd cs rs q n → z ∈ pts cs rs q n → (z.1 + z.2) % 2 = 0 → (∀ u ∈ pts cs rs q n, (u.1 + u.2) % 2 = 0 → Ts.ple z u) → Rnd cs rs z m → H l = none → RndAt H' T l cs rs z m → Q (.ref T) H'
theorem ok_roundat (T : Txt K mg t) : FnOk P w K mg base CX0 6 t.f_roundat t.d_roundat ["ring", "point"] (sp_roundat t.a_Ring) := by
  have G_isbelow := ok_isbelow (P := P) (w := w) (base := base) T
  have G_Ringwide := ok_Ringwide (P := P) (w := w) (base := base) T
  have G_Ringtall := ok_Ringtall (P := P) (w := w) (base := base) T
  have G_walk := ok_walk (P := P) (w := w) (base := base) T
  refine T.F_roundat.ok sc_roundat (fun vs H Q E h => ?_) (fun cdv A outer s H vs Q E hr h => ?_)
  · obtain ⟨p, a, cs, rs, q, rfl, _⟩ := h; rfl
  · obtain ⟨p, a, cs, rs, ⟨x, y⟩, rfl, hC, bc, br, ha, hin, k⟩ := h
    have ev := RBits.evs bc br
    have lc := bc.1
    have lr := br.1
    unfold rOk at lc lr
    have big : cs.length * rs.length ≤ 1600 := Nat.mul_le_mul lc.2.1 lr.2.1
    obtain ⟨dx, a1, b1, g1, g2, g3⟩ := hC.ob
    dsimp only at ha
    refine cutC (ps_if (PW.pt (pw_or (pt_not (pt_val (pe_call G_isbelow (hr.mono (by first | decide | omega)) rfl T.mg_isbelow T.F_isbelow.kp T.b_isbelow .nil pass0 (pa_cons (pe_ix (ix_tupK K rfl) (pv 1) pe_int (fun _ _ => rfl)) (pa_cons (pe_meth0 (pv 0) T.cl_Ring T.m_Ringwide G_Ringwide (hr.mono (by first | decide | omega)) T.b_Ringwide .nil pass0) pa_nil))))) (pw_or1 (pt_not (pt_val (pe_call G_isbelow (hr.mono (by first | decide | omega)) rfl T.mg_isbelow T.F_isbelow.kp T.b_isbelow .nil pass0 (pa_cons (pe_ix (ix_tupK K rfl) (pv 1) pe_int (fun _ _ => rfl)) (pa_cons (pe_meth0 (pv 0) T.cl_Ring T.m_Ringtall G_Ringtall (hr.mono (by first | decide | omega)) T.b_Ringtall .nil pass0) pa_nil)))))))) (pss_one ps_never) pss_nil) fun _ _ => cutC (ps_set (i := 2) sc_roundat.nd rfl (Or.inl rfl) (pe_ix (ix_tupK K rfl) (pe_call G_walk (hr.mono (by first | decide | omega)) rfl T.mg_walk T.F_walk.kp T.b_walk .nil pass0 (pa_cons (pv 0) (pa_cons (pv 1) pa_nil))) pe_int (fun _ _ => rfl))) fun _ _ => cutE (ps_ret (pe_call G_walk (hr.mono (by first | decide | omega)) rfl T.mg_walk T.F_walk.kp T.b_walk .nil pass0 (pa_cons (pv 0) (pa_cons (pe_callB (cI_minPK K rfl rfl hr.units) rfl T.no_min (by rfl) (pa_cons (pe_comp (N := ["x", "y"]) (cap := [none, none]) rfl ⟨rfl, rfl, rfl, rfl, rfl, rfl⟩ (pi_list (pv 2)) (fun _ _ _ => (pg_tupK (n := 2) K rfl rfl (pgs_cons (pg_name (i := 0) (show (["x", "y"] : List Str).Nodup by decide +kernel) rfl (Or.inl rfl)) (pgs_cons (pg_name (i := 1) (show (["x", "y"] : List Str).Nodup by decide +kernel) rfl (Or.inl rfl)) pgs_nil)))) (fun _ _ _ => (pts_one (pt_cmpR op_eq (pe_op op_mod (pe_op op_add (pv 0) (pv 1)) pe_int) pe_int (nomark _)))) (fun _ _ _ => (pe_tup (pa_cons (pv 0) (pa_cons (pv 1) pa_nil))))) pa_nil)) pa_nil)))) fun _ _ => ?_
    walk_at "rdr"
    refine rd_ixT (SqT.of ha) (v := .int x) rfl ?_
    walk_at "rdr"
    refine rd_methv g1 (bfl_no _ _ (by decide +kernel)) ?_
    walk_at "rdr"
    refine ⟨p, cs, rs, rfl, hC, ?_⟩
    walk_at "rdr"
    refine ⟨x, _, rfl, ?_⟩
    rw [below_t hin.1]
    walk_at "rdr"
    refine rd_ixT (SqT.of ha) (v := .int y) rfl ?_
    walk_at "rdr"
    refine rd_methv g1 (bfl_no _ _ (by decide +kernel)) ?_
    walk_at "rdr"
    refine ⟨p, cs, rs, rfl, hC, ?_⟩
    walk_at "rdr"
    refine ⟨y, _, rfl, ?_⟩
    rw [below_t hin.2]
    walk_at "rdr"
    refine ⟨p, a, cs, rs, x, y, rfl, hC, bc, br, ha, hin, fun n T1 l1 H1 s1 rn _ ra => ?_⟩
    obtain ⟨xs, el, px⟩ := ra.li
    have fw := ret_few ev hin rn.nr
    have lx : xs.length = 2 * n := by rw [px.1, pts_len]
    walk_at "rdr"
    refine rd_ixT (SqT.of ra.ob) (v := .ref l1) rfl ?_
    walk_at "rdr"
    refine ⟨⟨_, SqL.of el⟩, fun l2 n2 => ?_⟩
    refine compW_ptsF evB (SqL.of el) px (by omega) n2 (fun q o1 o2 H' Q' _ _ k' => ?_) (fun q o1 o2 H' Q' _ _ k' => ?_) fun ys H2 s2 e2 py => ?_
    · walk_at "rdr"
      refine rd_I (by decide) ?_
      walk_at "rdr"
      exact k' H' (Same.refl _)
    · walk_at "rdr"
      refine ⟨by show 2 ≤ sizeLine; decide, fun b nb => ?_⟩
      have sb := Same.new (o := HO.tup [V.int q.1, V.int q.2]) nb
      have eb := upd_same (H := H') (a := b) (o := HO.tup [V.int q.1, V.int q.2])
      generalize upd H' b (HO.tup [V.int q.1, V.int q.2]) = H5 at sb eb ⊢
      exact k' b H5 sb nb eb
    · have ne : ys ≠ [] := by
        intro z
        have h0 : ((pts cs rs (x, y) n).filter evB).length = 0 := by rw [← py.1, z]; rfl
        have hx : ∃ u ∈ pts cs rs (x, y) n, (u.1 + u.2) % 2 = 0 := by
          by_cases he : (x + y) % 2 = 0
          · exact ⟨(x, y), mem_start rn, he⟩
          · refine ⟨gR cs rs (x, y), mem_pts.mpr ⟨0, rn.pos, .inr rfl⟩, ?_⟩
            have := gR_par ev hin
            dsimp only at this
            omega
        obtain ⟨u, hu, he⟩ := hx
        have hm : u ∈ (pts cs rs (x, y) n).filter evB := List.mem_filter.mpr ⟨hu, decide_eq_true he⟩
        rw [List.length_eq_zero_iff.mp h0] at hm
        cases hm
      walk_at "rdr"
      refine rd_minP (ptOf H2) e2 ne (fun v hv => py.mem v hv) fun v hv hmin => ?_
      obtain ⟨b, rfl, hb⟩ := py.mem v hv
      have hz : ptOf H2 (.ref b) ∈ (pts cs rs (x, y) n).filter evB := by rw [← py.map]; exact List.mem_map.mpr ⟨_, hv, rfl⟩
      have hmn : ∀ u ∈ (pts cs rs (x, y) n).filter evB, Ts.ple (ptOf H2 (.ref b)) u := by
        intro u hu
        rw [← py.map] at hu
        obtain ⟨v', hv', rfl⟩ := List.mem_map.mp hu
        exact hmin v' hv'
      generalize ptOf H2 (.ref b) = z at hb hz hmn
      obtain ⟨hz1, hz2⟩ := List.mem_filter.mp hz
      have s12 := s1.trans s2
      walk_at "rdr"
      obtain ⟨zx, zy⟩ := z
      refine ⟨p, b, cs, rs, zx, zy, rfl, hC.mono s12, bc, br, hb, pts_in ev hin _ hz1, fun m T2 l3 H3 s3 rm nl3 ra3 => ?_⟩
      exact k n (zx, zy) m T2 l3 H3 (s12.trans s3) rn hz1 (of_decide_eq_true hz2) (fun u hu he => hmn u (List.mem_filter.mpr ⟨hu, decide_eq_true he⟩)) rm (s12.free nl3) ra3
def spx_roundat (C NP : Addr) : Sp := fun vs H Q E => ∃ (p a : Addr) (cs rs : List Int) (q : Int × Int), vs = [.ref p, .ref a] ∧ RingAt C H p cs rs ∧ H a = some (.tup [.int q.1, .int q.2]) ∧ ¬ InR cs rs q ∧ E (.ref NP) none H
theorem okx_roundat (T : Txt K mg t) : FnOk P w K mg base (CX1 P w) 6 t.f_roundat t.d_roundat ["ring", "point"] (spx_roundat t.a_Ring t.a_NoPoint) := by
 have G_isbelow := ok_isbelow (P := P) (w := w) (base := base) T
 have G_Ringwide := ok_Ringwide (P := P) (w := w) (base := base) T
 have G_Ringtall := ok_Ringtall (P := P) (w := w) (base := base) T
 refine T.F_roundat.ok1 sc_roundat (fun vs H Q E h => ?_) (fun cdv A outer s H vs Q E hr h => ?_)
 ·obtain ⟨p, a, cs, rs, q, rfl, _⟩ := h; rfl
 ·obtain ⟨p, a, cs, rs, ⟨x, y⟩, rfl, hC, ha, hin, k⟩ := h
  obtain ⟨dx, a1, b1, g1, g2, g3⟩ := hC.ob
  dsimp only at ha
  refine ⟨_, (pss_cons (ps_if (PW.pt (pw_or (pt_not (pt_val (pe_call G_isbelow.up (hr.mono (by first | decide | omega)) rfl T.mg_isbelow T.F_isbelow.kp T.b_isbelow .nil pass1 (pa_cons (pe_ix (ix_tupK K rfl) (pv 1) pe_int (fun _ _ => rfl)) (pa_cons (pe_meth0 (pv 0) T.cl_Ring T.m_Ringwide G_Ringwide.up (hr.mono (by first | decide | omega)) T.b_Ringwide .nil pass1) pa_nil))))) (pw_or1 (pt_not (pt_val (pe_call G_isbelow.up (hr.mono (by first | decide | omega)) rfl T.mg_isbelow T.F_isbelow.kp T.b_isbelow .nil pass1 (pa_cons (pe_ix (ix_tupK K rfl) (pv 1) pe_int (fun _ _ => rfl)) (pa_cons (pe_meth0 (pv 0) T.cl_Ring T.m_Ringtall G_Ringtall.up (hr.mono (by first | decide | omega)) T.b_Ringtall .nil pass1) pa_nil)))))))) (pss_one (ps_raiseK T.mg_NoPoint T.x_NoPoint PySem.F.excBase_ValueError rfl rfl (fun _ _ _ _ _ _ _ _ I m q => xe_new I m q) (pa_cons pe_str pa_nil))) pss_nil) pss_never), ?_⟩
  walk_at "rdr"
  refine rd_ixT (SqT.of ha) (v := .int x) rfl ?_
  walk_at "rdr"
  refine rd_methv g1 (bfl_no _ _ (by decide +kernel)) ?_
  walk_at "rdr"
  refine ⟨p, cs, rs, rfl, hC, ?_⟩
  walk_at "rdr"
  refine ⟨x, _, rfl, ?_⟩
  by_cases hx : 0 ≤ x ∧ x < (cs.length : Int)
  ·rw [below_t hx]
   walk_at "rdr"
   refine rd_ixT (SqT.of ha) (v := .int y) rfl ?_
   walk_at "rdr"
   refine rd_methv g1 (bfl_no _ _ (by decide +kernel)) ?_
   walk_at "rdr"
   refine ⟨p, cs, rs, rfl, hC, ?_⟩
   walk_at "rdr"
   refine ⟨y, _, rfl, ?_⟩
   rw [below_f (fun hy => hin ⟨hx, hy⟩)]
   walk_at "rdr"
   exact ⟨by show 1 ≤ sizeLine; decide, k⟩
  ·rw [below_f hx]
   walk_at "rdr"
   exact ⟨by show 1 ≤ sizeLine; decide, k⟩
end
section
variable {P : Program} {w : World} {K : PySem.W.Frag} {mg : Str → Option Value} {base : Heap} {t : Ad}
def Scal (d : PyData) : Prop := (∃ i, d = .int i) ∨ (∃ b, d = .bool b) ∨ d = .none
def OkS (S : PyData → Prop) (d : PyData) : Prop := Scal d ∨ (∃ ds, d = .list ds ∧ ds.length ≤ 5000 ∧ ∀ e ∈ ds, S e) ∨ ∃ ds, d = .tuple ds ∧ ds.length ≤ 5000 ∧ ∀ e ∈ ds, S e
def sp_same (S : PyData → Prop) : Sp := fun vs H Q _ => ∃ (x y : V) (d : PyData), vs = [x, y] ∧ S d ∧ Rep H d x ∧ Rep H d y ∧ ∀ H', Same H H' → Q (.bl true) H'
theorem same_step {S : PyData → Prop} {n : Nat} (T : Txt K mg t) (G_Lsame : FnOk P w K mg base CX0 n t.f_Lsame t.d_Lsame ["_law_told", "_law_due_here"] (sp_same S)) : FnOk P w K mg base CX0 (n + 1) t.f_Lsame t.d_Lsame ["_law_told", "_law_due_here"] (sp_same (OkS S)) := by
 refine T.F_Lsame.ok sc_Lsame (fun vs H Q E h => ?_) (fun cdv A outer s H vs Q E hr h => ?_)
 ·obtain ⟨x, y, d, rfl, _⟩ := h; rfl
 ·obtain ⟨x, y, d, rfl, ok, rx, ry, k⟩ := h
  refine cutC (ps_if (PW.pt (pw_or (pt_cmpR op_ne (pe_callB (cI_isinstK K rfl) rfl T.no_isinstance (by rfl) (pa_cons (pv 0) (pa_cons (pe_bltn (v := .ty "bool") rfl T.no_bool (by rfl : bootBuiltins "bool" = some (.type "bool")) rfl) pa_nil))) (pe_callB (cI_isinstK K rfl) rfl T.no_isinstance (by rfl) (pa_cons (pv 1) (pa_cons (pe_bltn (v := .ty "bool") rfl T.no_bool (by rfl : bootBuiltins "bool" = some (.type "bool")) rfl) pa_nil))) (nomark _)) (pw_or1 (pt_cmpR op_ne (pe_callB (cI_isinstK K rfl) rfl T.no_isinstance (by rfl) (pa_cons (pv 0) (pa_cons (pe_bltn (v := .ty "int") rfl T.no_int (by rfl : bootBuiltins "int" = some (.type "int")) rfl) pa_nil))) (pe_callB (cI_isinstK K rfl) rfl T.no_isinstance (by rfl) (pa_cons (pv 1) (pa_cons (pe_bltn (v := .ty "int") rfl T.no_int (by rfl : bootBuiltins "int" = some (.type "int")) rfl) pa_nil))) (nomark _))))) (pss_one (ps_ret pe_bl)) pss_nil) fun _ _ => cutC (ps_if (PW.pt (pw_or (pt_cmpR op_ne (pe_callB (cI_isinstK K rfl) rfl T.no_isinstance (by rfl) (pa_cons (pv 0) (pa_cons (pe_bltn (v := .ty "list") rfl T.no_list (by rfl : bootBuiltins "list" = some (.type "list")) rfl) pa_nil))) (pe_callB (cI_isinstK K rfl) rfl T.no_isinstance (by rfl) (pa_cons (pv 1) (pa_cons (pe_bltn (v := .ty "list") rfl T.no_list (by rfl : bootBuiltins "list" = some (.type "list")) rfl) pa_nil))) (nomark _)) (pw_or1 (pt_cmpR op_ne (pe_callB (cI_isinstK K rfl) rfl T.no_isinstance (by rfl) (pa_cons (pv 0) (pa_cons (pe_bltn (v := .ty "tuple") rfl T.no_tuple (by rfl : bootBuiltins "tuple" = some (.type "tuple")) rfl) pa_nil))) (pe_callB (cI_isinstK K rfl) rfl T.no_isinstance (by rfl) (pa_cons (pv 1) (pa_cons (pe_bltn (v := .ty "tuple") rfl T.no_tuple (by rfl : bootBuiltins "tuple" = some (.type "tuple")) rfl) pa_nil))) (nomark _))))) (pss_one (ps_ret pe_bl)) pss_nil) fun _ _ => cutC (ps_if (PW.pt (pw_and (pt_not (pt_val (pe_callB (cI_isinstK K rfl) rfl T.no_isinstance (by rfl) (pa_cons (pv 1) (pa_cons (pe_bltn (v := .ty "list") rfl T.no_list (by rfl : bootBuiltins "list" = some (.type "list")) rfl) pa_nil))))) (pw_and1 (pt_not (pt_val (pe_callB (cI_isinstK K rfl) rfl T.no_isinstance (by rfl) (pa_cons (pv 1) (pa_cons (pe_bltn (v := .ty "tuple") rfl T.no_tuple (by rfl : bootBuiltins "tuple" = some (.type "tuple")) rfl) pa_nil)))))))) (pss_one (ps_ret (pe_and (pe_cmpR op_eq (pe_callB (cI_isinstK K rfl) rfl T.no_isinstance (by rfl) (pa_cons (pv 0) (pa_cons (pe_bltn (v := .ty "str") rfl T.no_str (by rfl : bootBuiltins "str" = some (.type "str")) rfl) pa_nil))) (pe_callB (cI_isinstK K rfl) rfl T.no_isinstance (by rfl) (pa_cons (pv 1) (pa_cons (pe_bltn (v := .ty "str") rfl T.no_str (by rfl : bootBuiltins "str" = some (.type "str")) rfl) pa_nil))) (nomark _)) (pe_one (pe_cmpR (op_eqD hr.units) (pv 0) (pv 1) (nomark _)))))) pss_nil) fun _ _ => cutE (ps_ret (pe_and (pe_cmpR op_eq (pe_callB (cI_lenK K rfl) rfl T.no_len (by rfl) (pa_cons (pv 0) pa_nil)) (pe_callB (cI_lenK K rfl) rfl T.no_len (by rfl) (pa_cons (pv 1) pa_nil)) (nomark _)) (pe_one (pe_callB (cI_allK K rfl rfl) rfl T.no_all (by rfl) (pa_cons (pe_comp (N := ["_law_one", "_law_other"]) (cap := [none, none]) rfl ⟨rfl, rfl, rfl, rfl, rfl, rfl⟩ (pi_zipS rfl T.no_zip (pa_cons (pv 0) (pa_cons (pv 1) pa_nil))) (fun _ _ _ => (pg_tupK (n := 2) K rfl rfl (pgs_cons (pg_name (i := 0) (show (["_law_one", "_law_other"] : List Str).Nodup by decide +kernel) rfl (Or.inl rfl)) (pgs_cons (pg_name (i := 1) (show (["_law_one", "_law_other"] : List Str).Nodup by decide +kernel) rfl (Or.inl rfl)) pgs_nil)))) (fun _ _ _ => pts_nil) (fun _ _ _ => (pe_call G_Lsame (hr.mono (by first | decide | omega)) rfl T.mg_Lsame T.F_Lsame.kp T.b_Lsame .nil pass0 (pa_cons (pv 0) (pa_cons (pv 1) pa_nil))))) pa_nil))))) fun _ _ => ?_
  walk_at "rd"
  refine rd_isi rx.ty (kit_bool d) ?_
  walk_at "rd"
  refine rd_isi ry.ty (kit_bool d) ?_
  walk_at "rd"
  rw [decide_eq_true rfl]
  walk_at "rd"
  refine rd_isi rx.ty (kit_int d) ?_
  walk_at "rd"
  refine rd_isi ry.ty (kit_int d) ?_
  walk_at "rd"
  rw [decide_eq_true rfl]
  walk_at "rd"
  refine rd_isi rx.ty (kit_list d) ?_
  walk_at "rd"
  refine rd_isi ry.ty (kit_list d) ?_
  walk_at "rd"
  rw [decide_eq_true rfl]
  walk_at "rd"
  refine rd_isi rx.ty (kit_tuple d) ?_
  walk_at "rd"
  refine rd_isi ry.ty (kit_tuple d) ?_
  walk_at "rd"
  rw [decide_eq_true rfl]
  walk_at "rd"
  refine rd_isi ry.ty (kit_list d) ?_
  walk_at "rd"
  rcases ok with sc | ⟨ds, rfl, hl, hS⟩ | ⟨ds, rfl, hl, hS⟩
  ·have e1 : isD "list" d = false := by rcases sc with ⟨i, rfl⟩ | ⟨b, rfl⟩ | rfl <;> simp [isD]
   have e2 : isD "tuple" d = false := by rcases sc with ⟨i, rfl⟩ | ⟨b, rfl⟩ | rfl <;> simp [isD]
   rw [e1]
   walk_at "rd"
   refine rd_isi ry.ty (kit_tuple d) ?_
   rw [e2]
   walk_at "rd"
   refine rd_isi rx.ty (kit_str d) ?_
   walk_at "rd"
   refine rd_isi ry.ty (kit_str d) ?_
   walk_at "rd"
   rw [decide_eq_true rfl]
   walk_at "rd"
   have sd : SeqAt.shaped d = true := by rcases sc with ⟨i, rfl⟩ | ⟨b, rfl⟩ | rfl <;> rfl
   refine ⟨d, d, rx, ry, sd, sd, ?_⟩
   have e3 : PyData.eqv d d = true := by rcases sc with ⟨i, rfl⟩ | ⟨b, rfl⟩ | rfl <;> simp [PyData.eqv]
   rw [e3]
   exact k _ (Same.refl _)
  ·have e1 : isD "list" (.list ds) = true := by simp [isD]
   rw [e1]
   simp only [Rep] at rx ry
   obtain ⟨a, xs, rfl, ha, ra⟩ := rx
   obtain ⟨b, ys, rfl, hb, rb⟩ := ry
   obtain ⟨l1, g1⟩ := repL_get ra
   obtain ⟨l2, g2⟩ := repL_get rb
   walk_at "rd"
   refine rd_lenL ha ?_
   walk_at "rd"
   refine rd_lenL hb ?_
   walk_at "rd"
   rw [decide_eq_true (by omega : (xs.length : Int) = ys.length)]
   walk_at "rd"
   refine ⟨a, b, rfl, .inl ⟨⟨_, SqL.of ha⟩, ⟨_, SqL.of hb⟩, fun l hn => ?_⟩⟩
   refine compW_zip5 (fun _ => .bl true) ha hb (by omega) (by omega) hn (fun i x y H' Q' ex ey s1 q => ?_) (fun H' s1 e => ?_)
   ·walk_at "rd"
    obtain ⟨d, hd, rd⟩ := g1 i x ex
    obtain ⟨d', hd', rd'⟩ := g2 i y ey
    rw [hd] at hd'
    cases hd'
    exact ⟨x, y, d, rfl, hS d (List.mem_of_getElem? hd), rd.mono s1, rd'.mono s1, q⟩
   ·walk_at "rd"
    have e' : H' l = some (.lst (((List.range xs.length).map fun _ => true).map V.bl)) := by rw [e, List.map_map]; rfl
    refine rd_all e' ?_
    have e4 : ((List.range xs.length).map fun _ => true).all id = true := by simp
    rw [e4]
    exact k H' s1
  ·have e1 : isD "list" (.tuple ds) = false := by simp [isD]
   have e2 : isD "tuple" (.tuple ds) = true := by simp [isD]
   rw [e1]
   walk_at "rd"
   refine rd_isi ry.ty (kit_tuple _) ?_
   rw [e2]
   simp only [Rep] at rx ry
   obtain ⟨a, xs, rfl, ha, ra⟩ := rx
   obtain ⟨b, ys, rfl, hb, rb⟩ := ry
   obtain ⟨l1, g1⟩ := repL_get ra
   obtain ⟨l2, g2⟩ := repL_get rb
   walk_at "rd"
   refine rd_lenT ha ?_
   walk_at "rd"
   refine rd_lenT hb ?_
   walk_at "rd"
   rw [decide_eq_true (by omega : (xs.length : Int) = ys.length)]
   walk_at "rd"
   refine ⟨a, b, rfl, .inr ⟨⟨_, SqT.of ha⟩, ⟨_, SqT.of hb⟩, fun l hn => ?_⟩⟩
   refine compW_zipT5 (fun _ => .bl true) ha hb (by omega) (by omega) hn (fun i x y H' Q' ex ey s1 q => ?_) (fun H' s1 e => ?_)
   ·walk_at "rd"
    obtain ⟨d, hd, rd⟩ := g1 i x ex
    obtain ⟨d', hd', rd'⟩ := g2 i y ey
    rw [hd] at hd'
    cases hd'
    exact ⟨x, y, d, rfl, hS d (List.mem_of_getElem? hd), rd.mono s1, rd'.mono s1, q⟩
   ·walk_at "rd"
    have e' : H' l = some (.lst (((List.range xs.length).map fun _ => true).map V.bl)) := by rw [e, List.map_map]; rfl
    refine rd_all e' ?_
    have e4 : ((List.range xs.length).map fun _ => true).all id = true := by simp
    rw [e4]
    exact k H' s1
def Ok5 : PyData → Prop := OkS (OkS (OkS (OkS (OkS fun _ => False))))
theorem ok_Lsame (T : Txt K mg t) : FnOk P w K mg base CX0 5 t.f_Lsame t.d_Lsame ["_law_told", "_law_due_here"] (sp_same Ok5) :=
 same_step T (same_step T (same_step T (same_step T (same_step T ⟨fun vs H Q E h => (by obtain ⟨_, _, _, _, h, _⟩ := h; exact h.elim), fun A outer s H args us vs Q E _ _ _ _ h => (by obtain ⟨_, _, _, _, h, _⟩ := h; exact h.elim)⟩))))
theorem okS_int {S : PyData → Prop} (i : Int) : OkS S (.int i) := .inl (.inl ⟨i, rfl⟩)
end
section
variable {P : Program} {w : World} {K : PySem.W.Frag} {mg : Str → Option Value} {base : Heap} {t : Ad}
def dueW : List Str := ["BadSize", "BadBit", "NoCell", "NoLine", "NoStep", "NoPoint"]
def dueL (nm : Str) : List Bool := dueW.map (fun x => decide (x = nm)) ++ [true]
structure Cls6 (K : PySem.W.Frag) (t : Ad) (C : Addr) (nm : Str) : Prop where
 xi : ExcIn K C
 ct : PySem.W.exmOne K (.ref C) (.ref t.a_SewError) = some true
 k1 : PySem.W.kitOne K (.ref C) (.ref t.a_BadSize) = some (decide (("BadSize" : Str) = nm))
 k2 : PySem.W.kitOne K (.ref C) (.ref t.a_BadBit) = some (decide (("BadBit" : Str) = nm))
 k3 : PySem.W.kitOne K (.ref C) (.ref t.a_NoCell) = some (decide (("NoCell" : Str) = nm))
 k4 : PySem.W.kitOne K (.ref C) (.ref t.a_NoLine) = some (decide (("NoLine" : Str) = nm))
 k5 : PySem.W.kitOne K (.ref C) (.ref t.a_NoStep) = some (decide (("NoStep" : Str) = nm))
 k6 : PySem.W.kitOne K (.ref C) (.ref t.a_NoPoint) = some (decide (("NoPoint" : Str) = nm))
 kv : PySem.W.kitOne K (.ref C) (.type "ValueError") = some true
def sp_Lmarks (K : PySem.W.Frag) (t : Ad) : Sp := fun vs H Q _ => ∃ (e C : Addr) (nm : Str), vs = [.ref e] ∧ H e = some (ExcO e C) ∧ Cls6 K t C nm ∧ ∀ l, H l = none → Q (.ref l) (upd H l (.lst ((dueL nm).map V.bl)))
theorem okq_Lmarks (T : Txt K mg t) : FnOkQ P w K mg base 1 t.f_Lmarks t.d_Lmarks ["_law_e"] (sp_Lmarks K t) := by
 refine T.F_Lmarks.okQ sc_Lmarks (fun vs H Q E h => ?_) (fun cdv A outer s H vs Q E hr h => ?_)
 ·obtain ⟨e, C, nm, rfl, _⟩ := h; rfl
 ·obtain ⟨e, C, nm, rfl, he, c, k⟩ := h
  refine ⟨_, (pss_one (ps_ret (pe_lst (pa_cons (pe_callB (cI_isinstXK K rfl) rfl T.no_isinstance (by rfl) (pa_cons (pv 0) (pa_cons (pe_glob (v := .ref _) rfl T.mg_BadSize rfl) pa_nil))) (pa_cons (pe_callB (cI_isinstXK K rfl) rfl T.no_isinstance (by rfl) (pa_cons (pv 0) (pa_cons (pe_glob (v := .ref _) rfl T.mg_BadBit rfl) pa_nil))) (pa_cons (pe_callB (cI_isinstXK K rfl) rfl T.no_isinstance (by rfl) (pa_cons (pv 0) (pa_cons (pe_glob (v := .ref _) rfl T.mg_NoCell rfl) pa_nil))) (pa_cons (pe_callB (cI_isinstXK K rfl) rfl T.no_isinstance (by rfl) (pa_cons (pv 0) (pa_cons (pe_glob (v := .ref _) rfl T.mg_NoLine rfl) pa_nil))) (pa_cons (pe_callB (cI_isinstXK K rfl) rfl T.no_isinstance (by rfl) (pa_cons (pv 0) (pa_cons (pe_glob (v := .ref _) rfl T.mg_NoStep rfl) pa_nil))) (pa_cons (pe_callB (cI_isinstXK K rfl) rfl T.no_isinstance (by rfl) (pa_cons (pv 0) (pa_cons (pe_glob (v := .ref _) rfl T.mg_NoPoint rfl) pa_nil))) (pa_cons (pe_callB (cI_isinstXK K rfl) rfl T.no_isinstance (by rfl) (pa_cons (pv 0) (pa_cons (pe_bltn (v := .ty "ValueError") rfl T.no_ValueError (by rfl : bootBuiltins "ValueError" = some (.type "ValueError")) rfl) pa_nil))) pa_nil)))))))))), ?_⟩
  walk_at "rd"
  refine rd_isiX he c.xi c.k1 ?_
  walk_at "rd"
  refine rd_isiX he c.xi c.k2 ?_
  walk_at "rd"
  refine rd_isiX he c.xi c.k3 ?_
  walk_at "rd"
  refine rd_isiX he c.xi c.k4 ?_
  walk_at "rd"
  refine rd_isiX he c.xi c.k5 ?_
  walk_at "rd"
  refine rd_isiX he c.xi c.k6 ?_
  walk_at "rd"
  refine rd_isiXT he c.xi c.kv ?_
  walk_at "rd"
  exact ⟨by show 7 ≤ sizeLine; decide, k⟩
def sp_Ldue : Sp := fun vs H Q _ => ∃ (nm : Str), vs = [.str nm] ∧ ∀ l H', Same H H' → H' l = some (.lst ((dueL nm).map V.bl)) → Q (.ref l) H'
theorem ok_Ldue (T : Txt K mg t) : FnOk P w K mg base CX0 1 t.f_Ldue t.d_Ldue ["_law_word"] sp_Ldue := by
 refine T.F_Ldue.ok sc_Ldue (fun vs H Q E h => ?_) (fun cdv A outer s H vs Q E hr h => ?_)
 ·obtain ⟨nm, rfl, _⟩ := h; rfl
 ·obtain ⟨nm, rfl, k⟩ := h
  refine ⟨_, (pss_cons (ps_set (i := 1) sc_Ldue.nd rfl (Or.inl rfl) (pe_lst (pa_cons pe_str (pa_cons pe_str (pa_cons pe_str (pa_cons pe_str (pa_cons pe_str (pa_cons pe_str pa_nil)))))))) (pss_one (ps_ret (pe_op op_cat (pe_comp (N := ["_law_one", "_law_word"]) (cap := [none, some 0]) rfl ⟨rfl, rfl, rfl, rfl, rfl, rfl⟩ (pi_list (pv 1)) (fun _ _ _ => (pg_name (i := 0) (show (["_law_one", "_law_word"] : List Str).Nodup by decide +kernel) rfl (Or.inl rfl))) (fun _ _ _ => pts_nil) (fun _ _ _ => (pe_cmpR op_eq (pv 0) (pv 1) (nomark _)))) (pe_lst (pa_cons pe_bl pa_nil)))))), ?_⟩
  walk_at "rd"
  refine ⟨by show 6 ≤ sizeLine; decide, fun l1 n1 => ?_⟩
  have e0 : [V.str "BadSize", V.str "BadBit", V.str "NoCell", V.str "NoLine", V.str "NoStep", V.str "NoPoint"] = dueW.map V.str := rfl
  rw [e0]
  have s1 := Same.new (o := HO.lst (dueW.map V.str)) n1
  walk_at "rd"
  refine ⟨⟨_, SqL.of upd_same⟩, fun l2 n2 => ?_⟩
  refine compW_list (fun v => match v with | .str x => .bl (decide (x = nm)) | _ => .non) (SqL.of upd_same) (by rw [List.length_map]; decide) n2 (fun x o H' Q' hx s2 q => ?_) (fun H' s2 e2 => ?_)
  ·obtain ⟨i, _, rfl⟩ := List.mem_map.mp hx
   walk_at "rd"
   exact q H' (Same.refl _)
  ·walk_at "rd"
   refine ⟨by show 1 ≤ sizeLine; decide, fun l3 n3 => ?_⟩
   have s3 := Same.new (o := HO.lst [V.bl true]) n3
   rw [List.map_map] at e2
   refine rd_cat (s3 _ _ e2) upd_same (by rw [List.length_map]; show 6 + 1 ≤ sizeLine; decide) fun l4 n4 => ?_
   have s4 := Same.new (o := HO.lst ((dueL nm).map V.bl)) n4
   have e4 : dueW.map ((fun v => match v with | .str x => V.bl (decide (x = nm)) | _ => V.non) ∘ V.str) ++ [V.bl true] = (dueL nm).map V.bl := by
    unfold dueL
    rw [List.map_append, List.map_map]; rfl
   rw [e4]
   exact k l4 _ (s1.trans (s2.trans (s3.trans s4))) upd_same
end
section
variable {P : Program} {w : World} {K : PySem.W.Frag} {mg : Str → Option Value} {base : Heap} {t : Ad}
theorem Txt.c_NoPoint (T : Txt K mg t) : Cls6 K t t.a_NoPoint "NoPoint" := ⟨T.xi_NoPoint, T.cat_NoPoint, T.kt_NoPoint_BadSize, T.kt_NoPoint_BadBit, T.kt_NoPoint_NoCell, T.kt_NoPoint_NoLine, T.kt_NoPoint_NoStep, T.kt_NoPoint_NoPoint, T.kv_NoPoint⟩
def sp_Ltried (C : Addr) : Sp := fun vs H Q _ => ∃ (p a : Addr) (cs rs : List Int) (q : Int × Int), vs = [.ref p, .ref a] ∧ RingAt C H p cs rs ∧ H a = some (.tup [.int q.1, .int q.2]) ∧ ¬ InR cs rs q ∧
 ∀ l H', Same H H' → H' l = some (.lst ((dueL "NoPoint").map V.bl)) → Q (.ref l) H'
theorem ok_Ltried (T : Txt K mg t) : FnOk P w K mg base CX0 8 t.f_Ltried t.d_Ltried ["_law_ring_here", "_law_point"] (sp_Ltried t.a_Ring) := by
 have GX_roundat := okx_roundat (P := P) (w := w) (base := base) T
 have GQ_Lmarks := okq_Lmarks (P := P) (w := w) (base := base) T
 refine T.F_Ltried.ok sc_Ltried (fun vs H Q E h => ?_) (fun cdv A outer s H vs Q E hr h => ?_)
 ·obtain ⟨p, a, cs, rs, q, rfl, _⟩ := h; rfl
 ·obtain ⟨p, a, cs, rs, q, rfl, hC, ha, hin, z⟩ := h
  refine cutC (ps_set (i := 2) sc_Ltried.nd rfl (Or.inl rfl) (pe_lst pa_nil)) fun _ _ => cutC (ps_try (i := 3) sc_Ltried.nd rfl rfl rfl T.mg_SewError (fun _ _ => (pss_one (ps_expr (pe_callS GX_roundat (hr.mono (by first | decide | omega)) rfl T.mg_roundat T.F_roundat.kp T.b_roundat .nil passT (pa_cons (pv 0) (pa_cons (pv 1) pa_nil)))))) (fun _ => (pss_one (ps_set (i := 2) sc_Ltried.nd rfl (Or.inl rfl) (pe_callQ GQ_Lmarks (RoomQ.mark (RoomQ.mono hr.q (by first | decide | omega))) rfl T.mg_Lmarks T.F_Lmarks.kp T.b_Lmarks .nil (pa_cons (pv 3) pa_nil)))))) fun _ _ => cutE (ps_ret (pv 2)) fun _ _ => ?_
  walk_at "rd"
  refine ⟨by show 0 ≤ sizeLine; decide, fun l1 nl1 => ?_⟩
  have sl1 := Same.new (o := HO.lst []) nl1
  have el1 := upd_same (H := H) (a := l1) (o := HO.lst [])
  generalize upd H l1 (HO.lst []) = H1 at sl1 el1 ⊢
  walk_at "rd"
  refine ⟨p, a, cs, rs, q, rfl, hC.mono sl1, sl1 _ _ ha, hin, t.a_NoPoint, rfl, T.cat_NoPoint, fun e he => ?_⟩
  walk_at "rd"
  refine ⟨e, t.a_NoPoint, _, rfl, upd_same, T.c_NoPoint, fun l hl => ?_⟩
  dsimp only [Dh]
  walk_at "rd"
  exact z l _ (sl1.trans ((Same.new he).trans (Same.new hl))) upd_same
end
section
variable {cs rs : List Int} {p q : Int × Int}
theorem ple_anti {p q : Int × Int} (h1 : Ts.ple p q) (h2 : Ts.ple q p) : p = q := by
 unfold Ts.ple at h1 h2
 exact Prod.ext (by omega) (by omega)
theorem Rnd.shut (e : EvS cs rs) (h : InR cs rs p) {n : Nat} (r : Rnd cs rs p n) {u : Int × Int} (hu : u ∈ pts cs rs p n) : gR cs rs u ∈ pts cs rs p n ∧ gC cs rs u ∈ pts cs rs p n := by
 obtain ⟨i, hi, rfl | rfl⟩ := mem_pts.mp hu
 ·refine ⟨mem_pts.mpr ⟨i, hi, .inr rfl⟩, ?_⟩
  cases i with
  | zero =>
   refine mem_pts.mpr ⟨n - 1, by omega, .inr ?_⟩
   have hb := r.back
   obtain ⟨m, rfl⟩ : ∃ m, n = m + 1 := ⟨n - 1, by omega⟩
   have : gC cs rs (gR cs rs (itr cs rs m p)) = p := hb
   show gC cs rs p = _
   rw [Nat.add_sub_cancel]
   conv => lhs; rw [← this]
   exact gC_inv e (gR_in e (itr_in e h m))
  | succ i =>
   refine mem_pts.mpr ⟨i, by omega, .inr ?_⟩
   exact gC_inv e (gR_in e (itr_in e h i))
 ·refine ⟨mem_pts.mpr ⟨i, hi, .inl (gR_inv e (itr_in e h i))⟩, ?_⟩
  obtain ⟨j, hj, z⟩ := r.mod (i + 1)
  exact mem_pts.mpr ⟨j, hj, .inl z⟩
theorem Rnd.itr_mem (e : EvS cs rs) (h : InR cs rs p) {n : Nat} (r : Rnd cs rs p n) {u : Int × Int} (hu : u ∈ pts cs rs p n) : ∀ k, itr cs rs k u ∈ pts cs rs p n
 | 0 => hu
 | k + 1 => (r.shut e h (r.shut e h (r.itr_mem e h hu k)).1).2
theorem Rnd.sub (e : EvS cs rs) (h : InR cs rs p) {n m : Nat} (r : Rnd cs rs p n) (hq : q ∈ pts cs rs p n) : ∀ u ∈ pts cs rs q m, u ∈ pts cs rs p n := fun u hu => by
 obtain ⟨i, _, rfl | rfl⟩ := mem_pts.mp hu
 ·exact r.itr_mem e h hq i
 ·exact (r.shut e h (r.itr_mem e h hq i)).1
theorem Rnd.told (e : EvS cs rs) (h : InR cs rs p) (hp : (p.1 + p.2) % 2 = 0) {n m : Nat} (r : Rnd cs rs p n) (hq : q ∈ pts cs rs p n) (hi : InR cs rs q) (rq : Rnd cs rs q m) (lst : ∀ u ∈ pts cs rs p n, (u.1 + u.2) % 2 = 0 → Ts.ple p u)
    {z : Int × Int} (hz : z ∈ pts cs rs q m) (hze : (z.1 + z.2) % 2 = 0) (hzl : ∀ u ∈ pts cs rs q m, (u.1 + u.2) % 2 = 0 → Ts.ple z u) : z = p := by
  have hzp := r.sub e h hq z hz
  refine ple_anti (hzl p ?_ hp) (lst z hzp hze)
  obtain ⟨k, hk, hz' | hz'⟩ := mem_pts.mp hzp
  · have : itr cs rs (n - k) z = p := by
      have : ∀ j i, itr cs rs j (itr cs rs i p) = itr cs rs (i + j) p := by
        intro j i
        induction j with
        | zero => rfl
        | succ j ih => show gC cs rs (gR cs rs (itr cs rs j (itr cs rs i p))) = gC cs rs (gR cs rs (itr cs rs (i + j) p)); rw [ih]
      rw [hz', this, show k + (n - k) = n by omega, r.back]
    rw [← this]
    exact rq.itr_mem e hi hz _
  · have h1 := itr_par e h k
    have h2 := gR_par e (itr_in e h k)
    rw [← hz'] at h2
    omega
theorem one_of {L : List ((Int × Int) × Nat)} (nd : (flat cs rs L).Nodup) (h : q ∈ flat cs rs L) : ∃ r, r ∈ L ∧ q ∈ pts cs rs r.1 r.2 ∧ L.filter (fun r => decide (q ∈ pts cs rs r.1 r.2)) = [r] := by
 induction L with
 | nil => cases h
 | cons r L ih =>
  have e : flat cs rs (r :: L) = pts cs rs r.1 r.2 ++ flat cs rs L := by unfold flat; rw [List.flatMap_cons]
  rw [e] at nd h
  rw [List.nodup_append] at nd
  by_cases hm : q ∈ pts cs rs r.1 r.2
  ·refine ⟨r, List.mem_cons_self, hm, ?_⟩
   rw [List.filter_cons, if_pos (decide_eq_true hm)]
   have : L.filter (fun r => decide (q ∈ pts cs rs r.1 r.2)) = [] := by
    rw [List.filter_eq_nil_iff]
    intro r' hr' z
    exact nd.2.2 q hm q (mem_flat.mpr ⟨r', hr', of_decide_eq_true z⟩) rfl
   rw [this]
  ·obtain ⟨r', h1, h2, h3⟩ := ih nd.2.1 ((List.mem_append.mp h).resolve_left hm)
   refine ⟨r', List.mem_cons_of_mem _ h1, h2, ?_⟩
   rw [List.filter_cons, if_neg (by rw [decide_eq_false hm]; decide), h3]
end
section
variable {P : Program} {w : World} {K : PySem.W.Frag} {mg : Str → Option Value} {base : Heap} {t : Ad}
def rndD (cs rs : List Int) (r : (Int × Int) × Nat) : PyData := .tuple [.list ((pts cs rs r.1 r.2).map ptD), .int (sumR cs rs r.1 r.2 / cs.length), .int (sumC cs rs r.1 r.2 / rs.length)]
theorem rep_rnd {H : Hp} {T l : Addr} {cs rs : List Int} {q : Int × Int} {n : Nat} (h : RndAt H T l cs rs q n) : Rep H (rndD cs rs (q, n)) (.ref T) := by
 obtain ⟨ob, xs, e, px⟩ := h
 have := rep_pts e px
 unfold rndD
 simp only [Rep, RepL] at this ⊢
 exact ⟨T, _, rfl, ob, _, _, rfl, this, _, _, rfl, rfl, _, _, rfl, rfl, rfl⟩
theorem repL_rnds {H0 H : Hp} {lf : Addr} {cs rs : List Int} : ∀ {xs : List V} {L : List ((Int × Int) × Nat)}, PwR H0 H lf cs rs xs L → RepL H (L.map (rndD cs rs)) xs
 | [], [], _ => by simp only [List.map_nil, RepL]
 | [], _ :: _, h => by have := h.1; simp at this
 | _ :: _, [], h => by have := h.1; simp at this
 | v :: xs, r :: L, h => by
  simp only [List.map_cons, RepL]
  obtain ⟨T, l, rfl, _, ra⟩ := h.2 0 v r rfl rfl
  refine ⟨_, _, rfl, rep_rnd ra, repL_rnds ⟨?_, fun i v r h1 h2 => h.2 (i + 1) v r (by simpa using h1) (by simpa using h2)⟩⟩
  have := h.1
  simpa using this
theorem rep_rnds {H0 H : Hp} {lf : Addr} {cs rs : List Int} {xs : List V} {L : List ((Int × Int) × Nat)} (e : H lf = some (.lst xs)) (h : PwR H0 H lf cs rs xs L) : Rep H (.list (L.map (rndD cs rs))) (.ref lf) := by
 simp only [Rep]
 exact ⟨lf, xs, rfl, e, repL_rnds h⟩
theorem ok_pts {S : PyData → Prop} {ps : List (Int × Int)} (h : ps.length ≤ 5000) : OkS (OkS (OkS S)) (.list (ps.map ptD)) := by
 refine .inr (.inl ⟨_, rfl, by rw [List.length_map]; exact h, fun d hd => ?_⟩)
 obtain ⟨q, _, rfl⟩ := List.mem_map.mp hd
 refine .inr (.inr ⟨_, rfl, by show 2 ≤ 5000; decide, fun d hd => ?_⟩)
 simp only [List.mem_cons, List.not_mem_nil, or_false] at hd
 rcases hd with rfl | rfl <;> exact okS_int _
theorem ok_rnd {cs rs : List Int} {r : (Int × Int) × Nat} (h : r.2 ≤ 800) : OkS (OkS (OkS (OkS (OkS fun _ => False)))) (rndD cs rs r) ∧ OkS (OkS (OkS (OkS fun _ => False))) (rndD cs rs r) := by
 constructor <;> refine .inr (.inr ⟨_, rfl, by show 3 ≤ 5000; decide, fun d hd => ?_⟩) <;> simp only [List.mem_cons, List.not_mem_nil, or_false] at hd <;> rcases hd with rfl | rfl | rfl
 ·exact ok_pts (by rw [pts_len]; omega)
 ·exact okS_int _
 ·exact okS_int _
 ·exact ok_pts (by rw [pts_len]; omega)
 ·exact okS_int _
 ·exact okS_int _
theorem rnd_few {cs rs : List Int} (e : EvS cs rs) (big : cs.length * rs.length ≤ 1600) {L : List ((Int × Int) × Nat)} (pa : PartL cs rs L) : ∀ r ∈ L, r.2 ≤ 800 := fun r hr => by
 obtain ⟨h1, h2, h3⟩ := pa.rnd r hr
 have := ret_few e h1 h3.nr
 omega
theorem len_few {cs rs : List Int} (e : EvS cs rs) (big : cs.length * rs.length ≤ 1600) {L : List ((Int × Int) × Nat)} (pa : PartL cs rs L) : L.length ≤ 1600 := by
 have h1 := few pa.nd (pa.in_ e)
 have h2 : ∀ (M : List ((Int × Int) × Nat)), (∀ r ∈ M, 1 ≤ r.2) → M.length ≤ (flat cs rs M).length := by
  intro M
  induction M with
  | nil => intro _; exact Nat.zero_le _
  | cons r M ih =>
   intro hM
   have := ih fun r' hr' => hM r' (List.mem_cons_of_mem _ hr')
   have hr := hM r List.mem_cons_self
   unfold flat at this ⊢
   rw [List.flatMap_cons, List.length_append, pts_len, List.length_cons]
   omega
 have h3 := h2 L fun r hr => (pa.rnd r hr).2.2.pos
 omega
theorem ok_rnds {cs rs : List Int} (e : EvS cs rs) (big : cs.length * rs.length ≤ 1600) {L : List ((Int × Int) × Nat)} (pa : PartL cs rs L) : Ok5 (.list (L.map (rndD cs rs))) := by
 refine .inr (.inl ⟨_, rfl, by rw [List.length_map]; have := len_few e big pa; omega, fun d hd => ?_⟩)
 obtain ⟨r, hr, rfl⟩ := List.mem_map.mp hd
 exact (ok_rnd (rnd_few e big pa r hr)).2
def inB (H : Hp) (q : Int × Int) : V → Bool
 | .ref T => match H T with
  | some (.tup [.ref l, _, _]) => match H l with
   | some (.lst ys) => decide (q ∈ ys.map (ptOf H))
   | _ => false
  | _ => false
 | _ => false
theorem inB_eq {H : Hp} {T l : Addr} {cs rs : List Int} {q z : Int × Int} {n : Nat} (h : RndAt H T l cs rs z n) : inB H q (.ref T) = decide (q ∈ pts cs rs z n) := by
 obtain ⟨ob, xs, e, px⟩ := h
 simp only [inB, ob, e, px.map]
theorem filt_one {H0 H : Hp} {lf : Addr} {cs rs : List Int} {q : Int × Int} : ∀ {xs : List V} {L : List ((Int × Int) × Nat)} {r0 : (Int × Int) × Nat}, PwR H0 H lf cs rs xs L → L.filter (fun r => decide (q ∈ pts cs rs r.1 r.2)) = [r0] → ∃ v, xs.filter (inB H q) = [v] ∧ RndV H0 H lf cs rs v r0
 | [], [], r0, _, h => by cases h
 | [], _ :: _, _, h, _ => by have := h.1; simp at this
 | _ :: _, [], _, h, _ => by have := h.1; simp at this
 | v :: xs, r :: L, r0, h, hf => by
  have hv := h.2 0 v r rfl rfl
  have ht : PwR H0 H lf cs rs xs L := ⟨by have := h.1; simpa using this, fun i v r h1 h2 => h.2 (i + 1) v r (by simpa using h1) (by simpa using h2)⟩
  obtain ⟨T, l, rfl, hl, ra⟩ := id hv
  have e := inB_eq (q := q) ra
  rw [List.filter_cons] at hf ⊢
  rw [e]
  by_cases hm : q ∈ pts cs rs r.1 r.2
  ·rw [if_pos (decide_eq_true hm)] at hf ⊢
   injection hf with h1 h2
   subst h1
   refine ⟨_, ?_, hv⟩
   have : xs.filter (inB H q) = [] := by
    rw [List.filter_eq_nil_iff]
    intro u hu z
    obtain ⟨i, hi⟩ := List.mem_iff_getElem?.mp hu
    have hiL : i < L.length := by rw [← ht.1]; exact (List.getElem?_eq_some_iff.mp hi).1
    obtain ⟨T', l', rfl, _, ra'⟩ := ht.2 i u _ hi (List.getElem?_eq_getElem hiL)
    rw [inB_eq ra'] at z
    have : L[i] ∈ L.filter (fun r => decide (q ∈ pts cs rs r.1 r.2)) := List.mem_filter.mpr ⟨List.getElem_mem hiL, z⟩
    rw [h2] at this
    cases this
   rw [this]
  ·rw [if_neg (by rw [decide_eq_false hm]; decide)] at hf ⊢
   exact filt_one ht hf
theorem PwR.mem {H0 H : Hp} {lf : Addr} {cs rs : List Int} {xs : List V} {L : List ((Int × Int) × Nat)} (h : PwR H0 H lf cs rs xs L) {v : V} (hv : v ∈ xs) : ∃ r ∈ L, RndV H0 H lf cs rs v r := by
 obtain ⟨i, hi⟩ := List.mem_iff_getElem?.mp hv
 have hiL : i < L.length := by rw [← h.1]; exact (List.getElem?_eq_some_iff.mp hi).1
 exact ⟨_, List.getElem_mem hiL, h.2 i v _ hi (List.getElem?_eq_getElem hiL)⟩
def ClrV (H0 H : Hp) (lf : Addr) (v : V) : Prop := ∃ T l a b ys, v = .ref T ∧ H T = some (.tup [.ref l, a, b]) ∧ H0 l = none ∧ l ≠ lf ∧ H l = some (.lst ys)
theorem ClrV.clr {H0 H : Hp} {lf l : Addr} {v : V} {zs : List V} (h : ClrV H0 H lf v) (e : H l = some (.lst zs)) : ClrV H0 (upd H l (.lst [])) lf v := by
 obtain ⟨T, l', a, b, ys, rfl, h1, h2, h3, h4⟩ := h
 refine ⟨T, l', a, b, ?_⟩
 by_cases z : l' = l
 ·subst z
  exact ⟨[], rfl, by rw [upd_ne (ne_of h1 e (by intro z; cases z))]; exact h1, h2, h3, upd_same⟩
 ·exact ⟨ys, rfl, by rw [upd_ne (ne_of h1 e (by intro z; cases z))]; exact h1, h2, h3, by rw [upd_ne z]; exact h4⟩
theorem rbits_twin {rs : List Int} (br : RBits rs) : RBits ((1 - rs.getD 0 0) :: rs.drop 1) := by
 have l := br.1
 unfold rOk at l
 refine ⟨?_, fun z hz => ?_⟩
 ·unfold rOk
  rw [List.length_cons, List.length_drop]
  omega
 ·rcases List.mem_cons.mp hz with rfl | hz
  ·have := br.2 _ (L2.getD_mem (zs := rs) (k := 0) (d := 0) (by omega))
   omega
  ·exact br.2 z (List.mem_of_mem_drop hz)
def sp_law (K : PySem.W.Frag) : Sp := fun vs H Q _ => ∃ (a : Addr) (ns : List Int), vs = [.ref a] ∧ SqL K H a (ns.map V.int) ∧ ns.length ≤ 63 ∧ ∀ H', Q (.bl true) H'
theorem ok_law (T : Txt K mg t) : FnOk P w K mg base CX0 12 t.f_law t.d_law ["_law_script"] (sp_law K) := by
 have G_Ldraws := ok_Ldraws (P := P) (w := w) (base := base) T
 have G_Lloop := ok_Lloop (P := P) (w := w) (base := base) T
 have G_Lring := ok_Lring (P := P) (w := w) (base := base) T
 have G_Lgoneall := ok_Lgoneall (P := P) (w := w) (base := base) T
 have G_ringrounds := ok_ringrounds (P := P) (w := w) (base := base) T
 have G_roundat := ok_roundat (P := P) (w := w) (base := base) T
 have G_Lsame := ok_Lsame (P := P) (w := w) (base := base) T
 have G_Ltried := ok_Ltried (P := P) (w := w) (base := base) T
 have G_Ldue := ok_Ldue (P := P) (w := w) (base := base) T
 refine T.F_law.ok sc_law (fun vs H Q E h => ?_) (fun cdv A outer s H vs Q E hr h => ?_)
 ·obtain ⟨a, ns, rfl, _⟩ := h; rfl
 ·obtain ⟨a, ns, rfl, hS, hl, z⟩ := h
  refine cutC (ps_set (i := 1) sc_law.nd rfl (Or.inl rfl) (pe_call G_Ldraws (hr.mono (by first | decide | omega)) rfl T.mg_Ldraws T.F_Ldraws.kp T.b_Ldraws .nil pass0 (pa_cons (pv 0) (pa_cons pe_int pa_nil)))) fun _ _ => cutC (ps_set (i := 2) sc_law.nd rfl (Or.inl rfl) (pe_call G_Lloop (hr.mono (by first | decide | omega)) rfl T.mg_Lloop T.F_Lloop.kp T.b_Lloop .nil pass0 (pa_cons (pv 1) pa_nil))) fun _ _ => cutC (ps_set (i := 3) sc_law.nd rfl (Or.inl rfl) (pe_call G_Lring (hr.mono (by first | decide | omega)) rfl T.mg_Lring T.F_Lring.kp T.b_Lring .nil pass0 (pa_cons (pv 2) pa_nil))) fun _ _ => cutC (ps_set (i := 4) sc_law.nd rfl (Or.inl rfl) (pe_call G_Lgoneall (hr.mono (by first | decide | omega)) rfl T.mg_Lgoneall T.F_Lgoneall.kp T.b_Lgoneall .nil pass0 (pa_cons (pv 2) pa_nil))) fun _ _ => cutC (ps_set (i := 5) sc_law.nd rfl (Or.inl rfl) (pe_call G_ringrounds (hr.mono (by first | decide | omega)) rfl T.mg_ringrounds T.F_ringrounds.kp T.b_ringrounds .nil pass0 (pa_cons (pv 3) pa_nil))) fun _ _ => cutC (ps_if (pt_not (pt_val (pe_call G_Lsame (hr.mono (by first | decide | omega)) rfl T.mg_Lsame T.F_Lsame.kp T.b_Lsame .nil pass0 (pa_cons (pv 5) (pa_cons (pv 4) pa_nil))))) (pss_one (ps_ret pe_bl)) pss_nil) fun _ _ => cutC (ps_for PassesOwn.never rfl (pi_list (pv 5)) (pg_name (i := 6) sc_law.nd rfl (Or.inl rfl)) (pss_one (ps_expr (pe_bm0 PySem.F.plainAttrs_list PySem.F.slot_list_clear PySem.F.type_list_clear mt_clear (pe_ix (ix_tupK K rfl) (pv 6) pe_int (fun _ _ => rfl)))))) fun _ _ => cutC (ps_expr (pe_bm0 PySem.F.plainAttrs_list PySem.F.slot_list_clear PySem.F.type_list_clear mt_clear (pv 5))) fun _ _ => cutC (ps_set (i := 7) sc_law.nd rfl (Or.inl rfl) (pe_tup (pa_cons (pe_ix (ix_tupK K rfl) (pv 2) pe_int (fun _ _ => rfl)) (pa_cons (pe_op op_cat (pe_lst (pa_cons (pe_op op_sub pe_int (pe_ix (ix_listK K rfl) (pe_ix (ix_tupK K rfl) (pv 2) pe_int (fun _ _ => rfl)) pe_int (fun _ _ => rfl))) pa_nil)) (pe_slice (sl_listK K rfl) (pe_ix (ix_tupK K rfl) (pv 2) pe_int (fun _ _ => rfl)) (po_some pe_int) po_none)) pa_nil)))) fun _ _ => cutC (ps_if (pt_not (pt_val (pe_call G_Lsame (hr.mono (by first | decide | omega)) rfl T.mg_Lsame T.F_Lsame.kp T.b_Lsame .nil pass0 (pa_cons (pe_call G_ringrounds (hr.mono (by first | decide | omega)) rfl T.mg_ringrounds T.F_ringrounds.kp T.b_ringrounds .nil pass0 (pa_cons (pe_call G_Lring (hr.mono (by first | decide | omega)) rfl T.mg_Lring T.F_Lring.kp T.b_Lring .nil pass0 (pa_cons (pv 7) pa_nil)) pa_nil)) (pa_cons (pe_call G_Lgoneall (hr.mono (by first | decide | omega)) rfl T.mg_Lgoneall T.F_Lgoneall.kp T.b_Lgoneall .nil pass0 (pa_cons (pv 7) pa_nil)) pa_nil))))) (pss_one (ps_ret pe_bl)) pss_nil) fun _ _ => cutC (ps_if (pt_not (pt_val (pe_call G_Lsame (hr.mono (by first | decide | omega)) rfl T.mg_Lsame T.F_Lsame.kp T.b_Lsame .nil pass0 (pa_cons (pe_call G_ringrounds (hr.mono (by first | decide | omega)) rfl T.mg_ringrounds T.F_ringrounds.kp T.b_ringrounds .nil pass0 (pa_cons (pv 3) pa_nil)) (pa_cons (pv 4) pa_nil))))) (pss_one (ps_ret pe_bl)) pss_nil) fun _ _ => cutC (ps_set (i := 8) sc_law.nd rfl (Or.inl rfl) (pe_callB (cI_lenK K rfl) rfl T.no_len (by rfl) (pa_cons (pe_ix (ix_tupK K rfl) (pv 2) pe_int (fun _ _ => rfl)) pa_nil))) fun _ _ => cutC (ps_set (i := 9) sc_law.nd rfl (Or.inl rfl) (pe_callB (cI_lenK K rfl) rfl T.no_len (by rfl) (pa_cons (pe_ix (ix_tupK K rfl) (pv 2) pe_int (fun _ _ => rfl)) pa_nil))) fun _ _ => cutC (ps_for PassesOwn.never rfl (pi_range1 rfl T.no_range (pa_cons pe_int pa_nil)) (pg_name (i := 10) sc_law.nd rfl (Or.inl rfl)) (pss_cons (ps_set (i := 11) sc_law.nd rfl (Or.inr rfl) (pe_tup (pa_cons (pe_op op_mod (pe_ix (ix_listK K rfl) (pv 1) (pe_op op_add pe_int (pe_op op_mul pe_int (pv 10))) (fun _ _ => rfl)) (pv 8)) (pa_cons (pe_op op_mod (pe_ix (ix_listK K rfl) (pv 1) (pe_op op_add pe_int (pe_op op_mul pe_int (pv 10))) (fun _ _ => rfl)) (pv 9)) pa_nil)))) (pss_cons (ps_setC (i := 12) sc_law.nd rfl (Or.inl rfl) (N := ["_law_one", "_law_point"]) (cap := [none, some 11]) rfl ⟨rfl, rfl, rfl, rfl, rfl, rfl⟩ (pi_list (pv 4)) (fun _ _ _ => (pg_name (i := 0) (show (["_law_one", "_law_point"] : List Str).Nodup by decide +kernel) rfl (Or.inl rfl))) (fun _ _ _ => (pts_one (pt_cmpR (op_inD hr.units) (pv 1) (pe_ix (ix_tupK K rfl) (pv 0) pe_int (fun _ _ => rfl)) rfl))) (fun _ _ _ => (pv 0)) (by rfl)) (pss_one (ps_for PassesOwn.never rfl (pi_range1 rfl T.no_range (pa_cons pe_int pa_nil)) (pg_name (i := 13) sc_law.nd rfl (Or.inl rfl)) (pss_cons (ps_set (i := 14) sc_law.nd rfl (Or.inl rfl) (pe_call G_roundat (hr.mono (by first | decide | omega)) rfl T.mg_roundat T.F_roundat.kp T.b_roundat .nil pass0 (pa_cons (pv 3) (pa_cons (pv 11) pa_nil)))) (pss_cons (ps_if (PW.pt (pw_or (pt_cmpR op_ne (pe_callB (cI_lenK K rfl) rfl T.no_len (by rfl) (pa_cons (pv 12) pa_nil)) pe_int (nomark _)) (pw_or1 (pt_not (pt_val (pe_call G_Lsame (hr.mono (by first | decide | omega)) rfl T.mg_Lsame T.F_Lsame.kp T.b_Lsame .nil pass0 (pa_cons (pv 14) (pa_cons (pe_ix (ix_listK K rfl) (pv 12) pe_int (fun _ _ => rfl)) pa_nil)))))))) (pss_one (ps_ret pe_bl)) pss_nil) (pss_one (ps_expr (pe_bm0 PySem.F.plainAttrs_list PySem.F.slot_list_clear PySem.F.type_list_clear mt_clear (pe_ix (ix_tupK K rfl) (pv 14) pe_int (fun _ _ => rfl)))))))))))) fun _ _ => cutC (ps_set (i := 15) sc_law.nd rfl (Or.inl rfl) (pe_op op_mul (pe_callB cI_abs rfl T.no_abs (by rfl) (pa_cons (pe_ix (ix_listK K rfl) (pv 1) pe_int (fun _ _ => rfl)) pa_nil)) (pe_op op_pow pe_int pe_int))) fun _ _ => cutC (ps_for PassesOwn.never rfl (pi_list (pe_lst (pa_cons (pe_tup (pa_cons (pe_un un_neg pe_int) (pa_cons pe_int pa_nil))) (pa_cons (pe_tup (pa_cons pe_int (pa_cons (pe_un un_neg pe_int) pa_nil))) (pa_cons (pe_tup (pa_cons (pv 8) (pa_cons pe_int pa_nil))) (pa_cons (pe_tup (pa_cons pe_int (pa_cons (pv 9) pa_nil))) (pa_cons (pe_tup (pa_cons (pe_op op_add (pv 8) (pv 15)) (pa_cons (pe_op op_sub (pe_un un_neg pe_int) (pv 15)) pa_nil))) pa_nil))))))) (pg_name (i := 11) sc_law.nd rfl (Or.inr rfl)) (pss_one (ps_if (pt_cmpR (op_neD hr.units) (pe_call G_Ltried (hr.mono (by first | decide | omega)) rfl T.mg_Ltried T.F_Ltried.kp T.b_Ltried .nil pass0 (pa_cons (pv 3) (pa_cons (pv 11) pa_nil))) (pe_call G_Ldue (hr.mono (by first | decide | omega)) rfl T.mg_Ldue T.F_Ldue.kp T.b_Ldue .nil pass0 (pa_cons pe_str pa_nil)) (nomark _)) (pss_one (ps_ret pe_bl)) pss_nil))) fun _ _ => cutE (ps_ret pe_bl) fun _ _ => ?_
  walk_at "rdr"
  refine ⟨a, 32, ns, rfl, hS, hl, by decide, fun ls zs H1 s1 es lz _ sm => ?_⟩
  walk_at "rdr"
  refine ⟨ls, zs, rfl, es, by omega, fun lp cs rs H2 s2 hlp => ?_⟩
  have es := s2 _ _ es
  have ev := RBits.evs hlp.bc hlp.br
  have lc := hlp.bc.1
  have lr := hlp.br.1
  unfold rOk at lc lr
  have big : cs.length * rs.length ≤ 1600 := Nat.mul_le_mul lc.2.1 lr.2.1
  walk_at "rdr"
  refine ⟨lp, cs, rs, rfl, hlp, fun p H3 s3 hC => ?_⟩
  have es := s3 _ _ es
  have hlp := hlp.mono s3
  walk_at "rdr"
  refine ⟨lp, cs, rs, rfl, hlp, fun ld L xd H4 s4 nld pa gt cov eld pwd => ?_⟩
  have es := s4 _ _ es
  have hlp := hlp.mono s4
  have hC := hC.mono s4
  walk_at "rdr"
  refine ⟨p, cs, rs, rfl, hC, hlp.bc, hlp.br, fun lf L' xf H5 s5 nlf pa' gt' cov' elf pwf => ?_⟩
  have eL := gt'.uniq gt
  subst eL
  walk_at "rdr"
  refine ⟨.ref lf, .ref ld, _, rfl, ok_rnds ev big pa, rep_rnds elf pwf, rep_rnds (s5 _ _ eld) (pwd.mono s5), fun H6 s6 => ?_⟩
  walk_at "rdr"
  have elf6 := s6 _ _ elf
  refine ⟨⟨_, SqL.of elf6⟩, ?_⟩
  have s46 := s5.trans s6
  have clr6 : ∀ v ∈ xf, ClrV H4 H6 lf v := fun v hv => by
   obtain ⟨r, _, T1, l, rfl, ⟨h1, h2⟩, ra⟩ := (pwf.mono s6).mem hv
   obtain ⟨ys, e, _⟩ := ra.li
   exact ⟨T1, l, _, _, ys, rfl, ra.ob, h2, h1, e⟩
  refine forW_list (K := K) (a := lf) (xs := xf) (fun i σ' H' => ∃ (o6 : Option V), σ' = [some (.ref a), some (.ref ls), some (.ref lp), some (.ref p), some (.ref ld), some (.ref lf), o6, none, none, none, none, none, none, none, none, none] ∧ Same H4 H' ∧ H' lf = some (.lst xf) ∧ ∀ v ∈ xf, ClrV H4 H' lf v)
   ⟨none, rfl, s46, elf6, clr6⟩ (fun i σ' H' _ ⟨_, _, _, z, _⟩ => SqL.of z) ?_ ?_
  ·rintro i v σ' H7 hv ⟨o6, rfl, s7, e7, cl7⟩
   obtain ⟨T1, l, u1, u2, ys, rfl, eT, nl, nlf', el⟩ := cl7 v (List.mem_of_getElem? hv)
   walk_at "rdr"
   refine rd_ixT (SqT.of eT) (v := .ref l) rfl ?_
   refine rd_bmL el ?_
   refine rd_clear el ?_
   exact ⟨_, rfl, s7.later nl, by rw [upd_ne (Ne.symm nlf')]; exact e7, fun v hv => (cl7 v hv).clr el⟩
  ·rintro σ' H7 ⟨o6, rfl, s7, e7, _⟩
   walk_at "rdr"
   refine rd_bmL e7 ?_
   refine rd_clear e7 ?_
   have s8 : Same H4 (upd H7 lf (.lst [])) := s7.later nlf
   generalize upd H7 lf (.lst []) = H8 at s8 ⊢
   have es := s8 _ _ es
   have hlp := hlp.mono s8
   have hC := hC.mono s8
   have eld := s8 _ _ eld
   have pwd := pwd.mono s8
   clear s7 e7 s46 s5 s6 elf elf6 pwf clr6
   obtain ⟨c, r, hp, hc, hr'⟩ := hlp.ob
   walk_at "rdr"
   refine rd_ixT (SqT.of hp) (v := .ref c) rfl ?_
   walk_at "rdr"
   refine rd_ixT (SqT.of hp) (v := .ref r) rfl ?_
   walk_at "rdr"
   refine rd_ixL (SqL.of hr') (atI_ints (i := 0) (by decide) (by omega)) ?_
   walk_at "rdr"
   refine ⟨by show 1 ≤ sizeLine; decide, fun l9 nl9 => ?_⟩
   have sl9 := Same.new (o := HO.lst [V.int (1 - rs.getD (0 : Int).toNat 0)]) nl9
   have el9 := upd_same (H := H8) (a := l9) (o := HO.lst [V.int (1 - rs.getD (0 : Int).toNat 0)])
   generalize upd H8 l9 (HO.lst [V.int (1 - rs.getD (0 : Int).toNat 0)]) = H9 at sl9 el9 ⊢
   walk_at "rdr"
   refine rd_ixT (SqT.of (sl9 _ _ hp)) (v := .ref r) rfl ?_
   walk_at "rdr"
   refine rd_slS (sl9 _ _ hr') fun l10 H10 s10 _ e10 => ?_
   have e10 : H10 l10 = some (.lst ((rs.drop 1).map V.int)) := by rw [e10]; exact congrArg (fun x => some (HO.lst x)) (cutV_drop (k := 1))
   walk_at "rdr"
   refine rd_catS (s10 _ _ el9) e10 (by rw [List.length_map, List.length_drop]; exact small_line (by show 1 + _ ≤ 1000; omega)) fun l11 H11 s11 _ e11 => ?_
   have e11 : H11 l11 = some (.lst (((1 - rs.getD 0 0) :: rs.drop 1).map V.int)) := e11
   have s811 := (sl9.trans s10).trans s11
   walk_at "rdr"
   refine ⟨by show 2 ≤ sizeLine; decide, fun tw ntw => ?_⟩
   have stw := Same.new (o := HO.tup [V.ref c, V.ref l11]) ntw
   have etw := upd_same (H := H11) (a := tw) (o := HO.tup [V.ref c, V.ref l11])
   generalize upd H11 tw (HO.tup [V.ref c, V.ref l11]) = H12 at stw etw ⊢
   have s812 := s811.trans stw
   have htw : LoopAt H12 tw cs ((1 - rs.getD 0 0) :: rs.drop 1) := ⟨⟨c, l11, etw, s812 _ _ hc, stw _ _ e11⟩, hlp.bc, rbits_twin hlp.br⟩
   have lr2 := (rbits_twin hlp.br).1
   unfold rOk at lr2
   have big2 : cs.length * ((1 - rs.getD 0 0) :: rs.drop 1).length ≤ 1600 := Nat.mul_le_mul lc.2.1 lr2.2.1
   have ev2 := RBits.evs htw.bc htw.br
   generalize (1 - rs.getD 0 0) :: rs.drop 1 = rs2 at htw big2 ev2 e11 lr2
   walk_at "rdr"
   refine ⟨tw, cs, rs2, rfl, htw, fun p2 H13 s13 hC2 => ?_⟩
   walk_at "rdr"
   refine ⟨p2, cs, rs2, rfl, hC2, htw.bc, htw.br, fun lf2 LL2 xf2 H14 s14 nlf2 pa2 gt2 cov2 elf2 pwf2 => ?_⟩
   walk_at "rdr"
   refine ⟨tw, cs, rs2, rfl, htw.mono (s13.trans s14), fun ld2 L3 xd2 H15 s15 nld2 pa3 gt3 cov3 eld2 pwd2 => ?_⟩
   have eL2 := gt2.uniq gt3
   subst eL2
   walk_at "rdr"
   refine ⟨.ref lf2, .ref ld2, _, rfl, ok_rnds ev2 big2 pa2, rep_rnds (s15 _ _ elf2) (pwf2.mono s15), rep_rnds eld2 pwd2, fun H16 s16 => ?_⟩
   have s816 := (((s812.trans s13).trans s14).trans s15).trans s16
   have es := s816 _ _ es
   have hlp := hlp.mono s816
   have hC := hC.mono s816
   have eld := s816 _ _ eld
   have pwd := pwd.mono s816
   have hp := s816 _ _ hp
   have hc := s816 _ _ hc
   have hr' := s816 _ _ hr'
   clear s816 s812 s13 s14 s15 s16 etw stw hC2 htw elf2 pwf2 eld2 pwd2 s811 e11 e10 s10 s11 sl9 el9
   walk_at "rdr"
   refine ⟨p, cs, rs, rfl, hC, hlp.bc, hlp.br, fun lf3 L3 xf3 H17 s17 nlf3 pa4 gt4 cov4 elf3 pwf3 => ?_⟩
   have eL3 := gt4.uniq gt
   subst eL3
   walk_at "rdr"
   refine ⟨.ref lf3, .ref ld, _, rfl, ok_rnds ev big pa, rep_rnds elf3 pwf3, rep_rnds (s17 _ _ eld) (pwd.mono s17), fun H18 s18 => ?_⟩
   have s1618 := s17.trans s18
   have es := s1618 _ _ es
   have hlp := hlp.mono s1618
   have hC := hC.mono s1618
   have eld := s1618 _ _ eld
   have pwd := pwd.mono s1618
   have hp := s1618 _ _ hp
   have hc := s1618 _ _ hc
   have hr' := s1618 _ _ hr'
   clear s1618 s17 s18 elf3 pwf3
   walk_at "rdr"
   refine rd_ixT (SqT.of hp) (v := .ref c) rfl ?_
   walk_at "rdr"
   refine rd_lenL hc ?_
   rw [List.length_map]
   walk_at "rdr"
   refine rd_ixT (SqT.of hp) (v := .ref r) rfl ?_
   walk_at "rdr"
   refine rd_lenL hr' ?_
   rw [List.length_map]
   walk_at "rdr"
   refine ⟨8, rfl, by omega, by omega, ?_⟩
   refine forW_range (fun i σ' H' => ∃ (o10 o11 o12 o13 o14 : Option V), σ' = [some (.ref a), some (.ref ls), some (.ref lp), some (.ref p), some (.ref ld), some (.ref lf), o6, some (.ref tw), some (.int (cs.length : Nat)), some (.int (rs.length : Nat)), o10, o11, o12, o13, o14, none] ∧ Same H18 H')
    ⟨none, none, none, none, none, rfl, Same.refl _⟩ ?_ ?_
   ·rintro i σ' H19 hi ⟨o10, o11, o12, o13, o14, rfl, s19⟩
    rw [Int.zero_add]
    have es9 := s19 _ _ es
    walk_at "rdr"
    refine rd_I (.inl ⟨by omega, by omega⟩) ?_
    walk_at "rdr"
    refine rd_ixL (SqL.of es9) (atI_ints (i := 11 + 2 * ((i : Nat) : Int)) (by omega) (by omega)) ?_
    walk_at "rdr"
    refine rd_I (show (0 : Int) < (cs.length : Nat) by omega) ?_
    walk_at "rdr"
    refine rd_I (.inl ⟨by omega, by omega⟩) ?_
    walk_at "rdr"
    refine rd_ixL (SqL.of es9) (atI_ints (i := 12 + 2 * ((i : Nat) : Int)) (by omega) (by omega)) ?_
    walk_at "rdr"
    refine rd_I (show (0 : Int) < (rs.length : Nat) by omega) ?_
    walk_at "rdr"
    generalize zs.getD (11 + 2 * ((i : Nat) : Int)).toNat 0 = za
    generalize zs.getD (12 + 2 * ((i : Nat) : Int)).toNat 0 = zb
    have k0 := Int.emod_nonneg za (show ((cs.length : Nat) : Int) ≠ 0 by omega)
    have k1 := Int.emod_lt_of_pos za (show (0 : Int) < (cs.length : Nat) by omega)
    have t0 := Int.emod_nonneg zb (show ((rs.length : Nat) : Int) ≠ 0 by omega)
    have t1 := Int.emod_lt_of_pos zb (show (0 : Int) < (rs.length : Nat) by omega)
    generalize za % ((cs.length : Nat) : Int) = px at k0 k1 ⊢
    generalize zb % ((rs.length : Nat) : Int) = py at t0 t1 ⊢
    have hin : InR cs rs (px, py) := ⟨⟨k0, k1⟩, t0, t1⟩
    refine ⟨by show 2 ≤ sizeLine; decide, fun pt npt => ?_⟩
    have spt := Same.new (o := HO.tup [V.int px, V.int py]) npt
    have ept := upd_same (H := H19) (a := pt) (o := HO.tup [V.int px, V.int py])
    generalize upd H19 pt (HO.tup [V.int px, V.int py]) = H20 at spt ept ⊢
    have s20 := s19.trans spt
    have pw20 := pwd.mono s20
    walk_at "rdr"
    refine ⟨⟨_, SqL.of (s20 _ _ eld)⟩, fun lo no => ?_⟩
    have fw := len_few ev big pa
    refine compW_filt id (inB H20 (px, py)) (SqL.of (s20 _ _ eld)) (by rw [pw20.1]; omega) no (fun v o H' Q' hv s21 q => ?_) (fun v o H' Q' hv _ s21 q => ?_) (fun H21 s21 e21 => ?_)
    ·obtain ⟨r1, _, T1, l, rfl, _, ra⟩ := pw20.mem hv
     rw [inB_eq ra] at q
     obtain ⟨ys, el, py'⟩ := (ra.mono s21).li
     walk_at "rdr"
     refine rd_ixT (SqT.of (ra.mono s21).ob) (v := .ref l) rfl ?_
     walk_at "rdr"
     refine rd_inPts (q := (px, py)) el py' ⟨pt, rfl, s21 _ _ ept⟩ ?_
     walk_at "rdr"
     exact q H' (Same.refl _)
    ·walk_at "rdr"
     exact q H' (Same.refl _)
    ·rw [List.map_id] at e21
     obtain ⟨r0, hr0, hq0, hf0⟩ := one_of pa.nd (cov (px, py) hin)
     obtain ⟨v0, ev0, T0, l0, rfl, _, ra0⟩ := filt_one pw20 hf0
     rw [ev0] at e21
     obtain ⟨i0, ev0', rn0⟩ := pa.rnd r0 hr0
     have lst0 : ∀ u ∈ pts cs rs r0.1 r0.2, (u.1 + u.2) % 2 = 0 → Ts.ple r0.1 u := fun u hu he => by
      have hu' := pts_in ev i0 u hu
      exact gt.least pa (evs_sorted _ _) r0 hr0 u hu (mem_evs.mpr ⟨hu'.1.1, hu'.1.2, hu'.2.1, hu'.2.2, he⟩)
     have s1821 := s20.trans s21
     walk_at "rdr"
     refine ⟨2, rfl, by omega, by omega, ?_⟩
     refine forW_range (fun j σ' H' => ∃ (o13 o14 : Option V), σ' = [some (.ref a), some (.ref ls), some (.ref lp), some (.ref p), some (.ref ld), some (.ref lf), o6, some (.ref tw), some (.int (cs.length : Nat)), some (.int (rs.length : Nat)), some (.int (i : Nat)), some (.ref pt), some (.ref lo), o13, o14, none] ∧ Same H21 H')
      ⟨o13, o14, rfl, Same.refl _⟩ ?_ ?_
     ·rintro j σ' H22 hj ⟨o13, o14, rfl, s22⟩
      have s1822 := s1821.trans s22
      walk_at "rdr"
      refine ⟨p, pt, cs, rs, (px, py), rfl, hC.mono s1822, hlp.bc, hlp.br, s22 _ _ (s21 _ _ ept), hin, fun n zz m T2 l2 H23 s23 rn hz hze hzl rm nl2 ra2 => ?_⟩
      have ez := rn0.told ev i0 ev0' hq0 hin rn lst0 hz hze hzl
      subst ez
      have em := rm.uniq rn0
      subst em
      have e23 := s23 _ _ (s22 _ _ e21)
      walk_at "rdr"
      refine rd_lenL e23 ?_
      walk_at "rdr"
      rw [decide_eq_true (show (([V.ref T0].length : Nat) : Int) = 1 from rfl)]
      walk_at "rdr"
      refine rd_ixL (SqL.of e23) (v := .ref T0) rfl ?_
      walk_at "rdr"
      refine ⟨.ref T2, .ref T0, rndD cs rs (r0.1, r0.2), rfl, (ok_rnd (rnd_few ev big pa r0 hr0)).1, rep_rnd ra2, rep_rnd (ra0.mono ((s21.trans s22).trans s23)), fun H24 s24 => ?_⟩
      obtain ⟨ys, el, _⟩ := (ra2.mono s24).li
      walk_at "rdr"
      refine rd_ixT (SqT.of (ra2.mono s24).ob) (v := .ref l2) rfl ?_
      refine rd_bmL el ?_
      refine rd_clear el ?_
      exact ⟨_, _, rfl, ((s22.trans s23).trans s24).later (s22.free nl2)⟩
     ·rintro σ' H22 ⟨o13, o14, rfl, s22⟩
      exact ⟨_, _, _, _, _, rfl, s1821.trans s22⟩
   ·rintro σ' H19 ⟨o10, o11, o12, o13, o14, rfl, s19⟩
    have I30 : atI (zs.map V.int) 30 = _ := atI_ints (by decide) (by omega)
    have sm30 : Sm (zs.getD (30 : Int).toNat 0) := sm _ (L2.getD_mem (by omega))
    generalize zs.getD (30 : Int).toNat 0 = z12 at I30 sm30
    walk_at "rdr"
    refine rd_ixL (SqL.of (s19 _ _ es)) I30 ?_
    walk_at "rdr"
    refine rd_I ⟨by decide, by decide, by decide⟩ ?_
    walk_at "rdr"
    have b12 : 0 ≤ (if z12 < 0 then -z12 else z12) ∧ (if z12 < 0 then -z12 else z12) < 1000000000000000000 := by
     unfold Sm at sm30
     by_cases h0 : z12 < 0
     ·rw [if_pos h0]; omega
     ·rw [if_neg h0]; omega
    refine rd_I (.inl ⟨by omega, by omega⟩) ?_
    have f0 := Int.mul_nonneg b12.1 (by decide : (0 : Int) ≤ (10 : Int) ^ (20 : Int).toNat)
    generalize (if z12 < 0 then -z12 else z12) * (10 : Int) ^ (20 : Int).toNat = far at f0
    walk_at "rdr"
    refine ⟨by show 2 ≤ sizeLine; decide, fun t1 nt1 => ?_⟩
    have st1 := Same.new (o := HO.tup [V.int (-1), V.int 0]) nt1
    have et1 := upd_same (H := H19) (a := t1) (o := HO.tup [V.int (-1), V.int 0])
    generalize upd H19 t1 (HO.tup [V.int (-1), V.int 0]) = A1 at st1 et1 ⊢
    walk_at "rdr"
    refine ⟨by show 2 ≤ sizeLine; decide, fun t2 nt2 => ?_⟩
    have st2 := Same.new (o := HO.tup [V.int 0, V.int (-1)]) nt2
    have et2 := upd_same (H := A1) (a := t2) (o := HO.tup [V.int 0, V.int (-1)])
    generalize upd A1 t2 (HO.tup [V.int 0, V.int (-1)]) = A2 at st2 et2 ⊢
    walk_at "rdr"
    refine ⟨by show 2 ≤ sizeLine; decide, fun t3 nt3 => ?_⟩
    have st3 := Same.new (o := HO.tup [V.int (cs.length : Nat), V.int 0]) nt3
    have et3 := upd_same (H := A2) (a := t3) (o := HO.tup [V.int (cs.length : Nat), V.int 0])
    generalize upd A2 t3 (HO.tup [V.int (cs.length : Nat), V.int 0]) = A3 at st3 et3 ⊢
    walk_at "rdr"
    refine ⟨by show 2 ≤ sizeLine; decide, fun t4 nt4 => ?_⟩
    have st4 := Same.new (o := HO.tup [V.int 0, V.int (rs.length : Nat)]) nt4
    have et4 := upd_same (H := A3) (a := t4) (o := HO.tup [V.int 0, V.int (rs.length : Nat)])
    generalize upd A3 t4 (HO.tup [V.int 0, V.int (rs.length : Nat)]) = A4 at st4 et4 ⊢
    walk_at "rdr"
    refine ⟨by show 2 ≤ sizeLine; decide, fun t5 nt5 => ?_⟩
    have st5 := Same.new (o := HO.tup [V.int ((cs.length : Nat) + far), V.int (-2 - far)]) nt5
    have et5 := upd_same (H := A4) (a := t5) (o := HO.tup [V.int ((cs.length : Nat) + far), V.int (-2 - far)])
    generalize upd A4 t5 (HO.tup [V.int ((cs.length : Nat) + far), V.int (-2 - far)]) = A5 at st5 et5 ⊢
    walk_at "rdr"
    refine ⟨by show 5 ≤ sizeLine; decide, fun lb nlb => ?_⟩
    have slb := Same.new (o := HO.lst [V.ref t1, V.ref t2, V.ref t3, V.ref t4, V.ref t5]) nlb
    have elb := upd_same (H := A5) (a := lb) (o := HO.lst [V.ref t1, V.ref t2, V.ref t3, V.ref t4, V.ref t5])
    generalize upd A5 lb (HO.lst [V.ref t1, V.ref t2, V.ref t3, V.ref t4, V.ref t5]) = A6 at slb elb ⊢
    have sA := ((((st1.trans st2).trans st3).trans st4).trans st5).trans slb
    have bad : ∀ v ∈ [V.ref t1, V.ref t2, V.ref t3, V.ref t4, V.ref t5], ∃ b q, v = .ref b ∧ A6 b = some (.tup [.int q.1, .int q.2]) ∧ ¬ InR cs rs q := by
     intro v hv
     simp only [List.mem_cons, List.not_mem_nil, or_false] at hv
     unfold InR
     rcases hv with rfl | rfl | rfl | rfl | rfl
     ·exact ⟨t1, (-1, 0), rfl, slb _ _ (st5 _ _ (st4 _ _ (st3 _ _ (st2 _ _ et1)))), by dsimp only; omega⟩
     ·exact ⟨t2, (0, -1), rfl, slb _ _ (st5 _ _ (st4 _ _ (st3 _ _ et2))), by dsimp only; omega⟩
     ·exact ⟨t3, ((cs.length : Nat), 0), rfl, slb _ _ (st5 _ _ (st4 _ _ et3)), by dsimp only; omega⟩
     ·exact ⟨t4, (0, (rs.length : Nat)), rfl, slb _ _ (st5 _ _ et4), by dsimp only; omega⟩
     ·exact ⟨t5, ((cs.length : Nat) + far, -2 - far), rfl, slb _ _ et5, by dsimp only; omega⟩
    walk_at "rdr"
    refine ⟨⟨_, SqL.of elb⟩, ?_⟩
    refine forW_list (K := K) (a := lb) (xs := [.ref t1, .ref t2, .ref t3, .ref t4, .ref t5]) (fun i σ' H' => ∃ (o10 o11 o12 o13 o14 o15 : Option V), σ' = [some (.ref a), some (.ref ls), some (.ref lp), some (.ref p), some (.ref ld), some (.ref lf), o6, some (.ref tw), some (.int (cs.length : Nat)), some (.int (rs.length : Nat)), o10, o11, o12, o13, o14, o15] ∧ Same A6 H')
     ⟨o10, o11, o12, o13, o14, _, rfl, Same.refl _⟩ (fun i σ' H' _ ⟨_, _, _, _, _, _, _, z⟩ => SqL.of (z _ _ elb)) ?_ ?_
    ·rintro i v σ' A7 hv ⟨o10, o11, o12, o13, o14, o15, rfl, sA7⟩
     obtain ⟨b, q, rfl, hb, hq⟩ := bad v (List.mem_of_getElem? hv)
     walk_at "rdr"
     refine ⟨p, b, cs, rs, q, rfl, hC.mono (s19.trans (sA.trans sA7)), sA7 _ _ hb, hq, fun l1 A8 s8 q1 => ?_⟩
     walk_at "rdr"
     refine ⟨"NoPoint", rfl, fun l2 A9 s9 q2 => ?_⟩
     walk_at "rdr"
     refine rd_neBools (s9 _ _ q1) q2 ?_
     rw [decide_eq_true rfl]
     walk_at "rdr"
     exact ⟨_, _, _, _, _, _, rfl, sA7.trans (s8.trans s9)⟩
    ·rintro σ' A7 ⟨o10, o11, o12, o13, o14, o15, rfl, sA7⟩
     walk_at "rdr"
     exact z _
end
end My
set_option Elab.async false
set_option linter.all false
set_option maxRecDepth 100000
namespace PySem.W.Fast
theorem tw14146703044327791076:True:=⟨⟩
theorem tw17666199482113022603:True:=⟨⟩
theorem tw623177803045826713:True:=⟨⟩
theorem tw3511923673807712953:True:=⟨⟩
theorem tw100474829942261072:True:=⟨⟩
theorem tw12086560073932942752:True:=⟨⟩
theorem tw1691009328505661486:True:=⟨⟩
theorem tw7783355467428698078:True:=⟨⟩
theorem tw12297759342118699892:True:=⟨⟩
theorem tw5306043172329706495:True:=⟨⟩
theorem tw13333840469758583584:True:=⟨⟩
theorem tw8465357965199545907:True:=⟨⟩
theorem tw3636319382907211081:True:=⟨⟩
theorem tw11604619917648516040:True:=⟨⟩
theorem tw7412002428323583794:True:=⟨⟩
theorem tw9488580806899578328:True:=⟨⟩
theorem tw16608480328689217535:True:=⟨⟩
theorem tw17051395226472677479:True:=⟨⟩
theorem tw11347321003321094753:True:=⟨⟩
theorem tw5032893336976333622:True:=⟨⟩
theorem tw3128199377634274131:True:=⟨⟩
theorem tw14402378183868941713:True:=⟨⟩
theorem tw975749695611829267:True:=⟨⟩
theorem tw11880189365335353372:True:=⟨⟩
theorem tw12108824776411718172:True:=⟨⟩
theorem tw13714755887760377561:True:=⟨⟩
theorem tw15045132711118866993:True:=⟨⟩
theorem tw15808506507901058072:True:=⟨⟩
theorem tw12862165109932880077:True:=⟨⟩
theorem tw11980449185119858094:True:=⟨⟩
theorem tw6347157754453284707:True:=⟨⟩
theorem tw7224798647580606736:True:=⟨⟩
theorem tw12405031019138465472:True:=⟨⟩
theorem tw7222308919873789295:True:=⟨⟩
theorem tw6555275946913909686:True:=⟨⟩
theorem tw15286350576005696492:True:=⟨⟩
theorem tw13436375844464292018:True:=⟨⟩
theorem tw5680545067279254580:True:=⟨⟩
theorem tw1068731361149714855:True:=⟨⟩
theorem tw9836401895445914176:True:=⟨⟩
theorem tw8250458725017696610:True:=⟨⟩
theorem tw9506304226674594983:True:=⟨⟩
theorem tw17888594909686953130:True:=⟨⟩
theorem tw14638801298579517333:True:=⟨⟩
theorem tw8398777965054208092:True:=⟨⟩
theorem tw1224669064639755725:True:=⟨⟩
theorem tw13114175195567741931:True:=⟨⟩
theorem tw1344045918771299377:True:=⟨⟩
theorem tw12184608816487816784:True:=⟨⟩
theorem tw4712242765235618972:True:=⟨⟩
theorem tw1147146904240616405:True:=⟨⟩
theorem tw12930796504958862396:True:=⟨⟩
theorem tw8028386329017129409:True:=⟨⟩
theorem tw13123416536009743285:True:=⟨⟩
theorem tw16829640789457596008:True:=⟨⟩
theorem tw15097695083121511505:True:=⟨⟩
theorem tw2900998163208261744:True:=⟨⟩
theorem tw11644940455341768828:True:=⟨⟩
theorem tw5072245191244918238:True:=⟨⟩
theorem tw5060778784867611491:True:=⟨⟩
theorem tw9645142179581975754:True:=⟨⟩
theorem tw3148839400938383646:True:=⟨⟩
theorem tw15079257526769230335:True:=⟨⟩
theorem tw13286305689875614182:True:=⟨⟩
theorem tw4629349405571647165:True:=⟨⟩
theorem tw12438129525746432851:True:=⟨⟩
theorem tw10977006842796215959:True:=⟨⟩
theorem tw9105130964142278106:True:=⟨⟩
theorem tw12913369769380465516:True:=⟨⟩
theorem tw8260274287462211714:True:=⟨⟩
theorem tw12982730333386106822:True:=⟨⟩
theorem tw1591023849113075959:True:=⟨⟩
theorem tw6811135309075488726:True:=⟨⟩
theorem tw12378597162664206812:True:=⟨⟩
theorem tw223437707158263838:True:=⟨⟩
theorem tw6182738608089125915:True:=⟨⟩
theorem tw6906518037594817214:True:=⟨⟩
theorem tw14109800645641445752:True:=⟨⟩
theorem tw5295894596056072462:True:=⟨⟩
theorem tw542380654710975016:True:=⟨⟩
theorem tw6260065166112891703:True:=⟨⟩
theorem tw9427273060797429173:True:=⟨⟩
theorem tw18313775937698814151:True:=⟨⟩
theorem tw8506823743704061171:True:=⟨⟩
theorem tw10260680739203306772:True:=⟨⟩
theorem tw14072306711372276900:True:=⟨⟩
theorem tw17263563176852084009:True:=⟨⟩
theorem tw18054487582272372541:True:=⟨⟩
theorem tw17593624758577474428:True:=⟨⟩
theorem tw5894504935851007516:True:=⟨⟩
theorem tw12279216800733232706:True:=⟨⟩
theorem tw10029648346917406305:True:=⟨⟩
theorem tw692926179672499879:True:=⟨⟩
theorem tw14226281762474776347:True:=⟨⟩
theorem tw1680864401437724498:True:=⟨⟩
theorem tw11476094680203604580:True:=⟨⟩
theorem tw5579256335266681478:True:=⟨⟩
theorem tw18393262541045445598:True:=⟨⟩
theorem tw2292639999858774270:True:=⟨⟩
theorem tw9070128538140143266:True:=⟨⟩
theorem tw6545667602380673449:True:=⟨⟩
theorem tw14603111232496635209:True:=⟨⟩
theorem tw8427502100067373375:True:=⟨⟩
theorem tw6346702509065472186:True:=⟨⟩
theorem tw307986133478988144:True:=⟨⟩
theorem tw6821950041303605327:True:=⟨⟩
theorem tw11000909371125980123:True:=⟨⟩
theorem tw17165014667804530875:True:=⟨⟩
theorem tw11980043376947236620:True:=⟨⟩
theorem tw16365120579580979043:True:=⟨⟩
theorem tw13657411617700975837:True:=⟨⟩
theorem tw15002191657775226202:True:=⟨⟩
theorem tw9039278888741166330:True:=⟨⟩
theorem tw1971401013283825368:True:=⟨⟩
theorem tw10037842825912975821:True:=⟨⟩
theorem tw14332825020180684274:True:=⟨⟩
theorem tw15910449718804095845:True:=⟨⟩
theorem tw13440811444195727144:True:=⟨⟩
theorem tw11421297673311172397:True:=⟨⟩
theorem tw13981902920944798615:True:=⟨⟩
theorem tw7009053631569566946:True:=⟨⟩
theorem tw15123688765526925337:True:=⟨⟩
theorem tw6845343104026604162:True:=⟨⟩
theorem tw1238286494688188185:True:=⟨⟩
theorem tw17660750992874901794:True:=⟨⟩
theorem tw17175240804559317107:True:=⟨⟩
theorem tw5353100440056756852:True:=⟨⟩
theorem tw11897815639835662971:True:=⟨⟩
theorem tw4080894190244735509:True:=⟨⟩
theorem tw13287954860695364339:True:=⟨⟩
theorem tw15345451036584357345:True:=⟨⟩
theorem tw11266824561537186342:True:=⟨⟩
theorem tw4353047206768498313:True:=⟨⟩
theorem tw15153464315556117514:True:=⟨⟩
theorem tw15816465758295226889:True:=⟨⟩
theorem tw17011816528467264329:True:=⟨⟩
theorem tw3150888546180235713:True:=⟨⟩
theorem tw3470901344354970856:True:=⟨⟩
theorem tw11642827412432074989:True:=⟨⟩
theorem tw11378963034265663143:True:=⟨⟩
theorem tw6120480468489739399:True:=⟨⟩
theorem tw15665461498567337936:True:=⟨⟩
theorem tw7466229598235455201:True:=⟨⟩
theorem tw8194640940587045571:True:=⟨⟩
theorem tw8385550305537610308:True:=⟨⟩
theorem tw2315330445824437888:True:=⟨⟩
theorem tw18214159302290140010:True:=⟨⟩
theorem tw8555335907388635976:True:=⟨⟩
theorem tw13653244413050956349:True:=⟨⟩
theorem tw15419348359369697785:True:=⟨⟩
theorem tw2980353047229690436:True:=⟨⟩
theorem tw11802313036115682296:True:=⟨⟩
theorem tw7588644573406143774:True:=⟨⟩
theorem tw12810384237074598937:True:=⟨⟩
theorem tw11799452484321835732:True:=⟨⟩
theorem tw15533528162291921599:True:=⟨⟩
theorem tw8859326527601477608:True:=⟨⟩
theorem tw15690142615412834577:True:=⟨⟩
theorem tw17948926236121224908:True:=⟨⟩
theorem tw8345623380183553877:True:=⟨⟩
theorem tw2006015243811786510:True:=⟨⟩
theorem tw7547775704526140107:True:=⟨⟩
theorem tw2939400922477380906:True:=⟨⟩
theorem tw12183862019454376480:True:=⟨⟩
theorem tw11766242580262138575:True:=⟨⟩
theorem tw6673806098449648076:True:=⟨⟩
theorem tw13380253481882227610:True:=⟨⟩
theorem tw4422291701626367014:True:=⟨⟩
theorem tw11104957371880422695:True:=⟨⟩
theorem tw13086300333991442243:True:=⟨⟩
theorem tw16373454338729654215:True:=⟨⟩
theorem tw1136063320259983816:True:=⟨⟩
theorem tw591029602462377431:True:=⟨⟩
theorem tw7831009208232106805:True:=⟨⟩
theorem tw17466169543370440295:True:=⟨⟩
theorem tw12449673656449577201:True:=⟨⟩
theorem tw11690862608018426561:True:=⟨⟩
theorem tw3891780119649385595:True:=⟨⟩
theorem tw16020244288872516256:True:=⟨⟩
theorem tw17139531991037272103:True:=⟨⟩
theorem tw8528693720666486913:True:=⟨⟩
theorem tw8306011282781078977:True:=⟨⟩
theorem tw11025797970472500831:True:=⟨⟩
theorem tw5492110537163922578:True:=⟨⟩
theorem tw10109785513853369910:True:=⟨⟩
theorem tw1434348085308370977:True:=⟨⟩
theorem tw15129167148299944461:True:=⟨⟩
theorem tw16037979013490590328:True:=⟨⟩
theorem tw18007114636246518662:True:=⟨⟩
theorem tw5563850025041667170:True:=⟨⟩
theorem tw7091358975109576464:True:=⟨⟩
theorem tw176125179499560314:True:=⟨⟩
theorem tw8624737504571521762:True:=⟨⟩
theorem tw12752330088754491480:True:=⟨⟩
theorem tw2165246296900074687:True:=⟨⟩
theorem tw13257476062732104023:True:=⟨⟩
theorem tw17313506838618282547:True:=⟨⟩
theorem tw8759986035342923421:True:=⟨⟩
theorem tw18339073058433401176:True:=⟨⟩
theorem tw14019263294729656452:True:=⟨⟩
theorem tw6406161513579414066:True:=⟨⟩
theorem tw5548340754945537338:True:=⟨⟩
theorem tw4275752659623391228:True:=⟨⟩
theorem tw15441493709510769734:True:=⟨⟩
theorem tw18426993538868649261:True:=⟨⟩
theorem tw13708159919906176288:True:=⟨⟩
theorem tw10548463085696717011:True:=⟨⟩
theorem tw15972414501024407055:True:=⟨⟩
theorem tw2408771498827310559:True:=⟨⟩
theorem tw17194290086378852548:True:=⟨⟩
theorem tw3488978413276395596:True:=⟨⟩
theorem tw15586426365955591885:True:=⟨⟩
theorem tw1445717696343625492:True:=⟨⟩
theorem tw5189263808116239937:True:=⟨⟩
theorem tw15656873556427528706:True:=⟨⟩
theorem tw1037041730480734911:True:=⟨⟩
theorem tw15149778351725275771:True:=⟨⟩
theorem tw14988139842875793591:True:=⟨⟩
theorem tw16245126973191979010:True:=⟨⟩
theorem tw12747320027707776208:True:=⟨⟩
theorem tw7287492768714591594:True:=⟨⟩
theorem tw14931031767535407329:True:=⟨⟩
theorem tw9091804927678194433:True:=⟨⟩
theorem tw6745058391142756097:True:=⟨⟩
theorem tw15209548163278956921:True:=⟨⟩
theorem tw12615582218927095436:True:=⟨⟩
theorem tw1833895640317302676:True:=⟨⟩
theorem tw6909973187670687520:True:=⟨⟩
theorem tw1100223748790202075:True:=⟨⟩
theorem tw5665917462304175593:True:=⟨⟩
theorem tw9066407679960496512:True:=⟨⟩
theorem tw17449569195207714648:True:=⟨⟩
theorem tw15875190957653075118:True:=⟨⟩
theorem tw8118161911207736518:True:=⟨⟩
theorem tw11357200044322537529:True:=⟨⟩
theorem tw14947339479532295117:True:=⟨⟩
theorem tw3352923264619134869:True:=⟨⟩
theorem tw9434718556220376675:True:=⟨⟩
theorem tw311275583662030537:True:=⟨⟩
theorem tw11591031118875795533:True:=⟨⟩
theorem tw5818738994013326880:True:=⟨⟩
theorem tw10552666863677862989:True:=⟨⟩
theorem tw15012231302614054145:True:=⟨⟩
theorem tw16873351704819871744:True:=⟨⟩
theorem tw17379174798674539000:True:=⟨⟩
theorem tw1899573946433901342:True:=⟨⟩
theorem tw11560830068661454815:True:=⟨⟩
theorem tw14790824524673133683:True:=⟨⟩
theorem tw8329747002351678888:True:=⟨⟩
theorem tw2876363785195262605:True:=⟨⟩
theorem tw17884889901666989555:True:=⟨⟩
theorem tw179852206280811746:True:=⟨⟩
theorem tw1724338538203121252:True:=⟨⟩
theorem tw6305074037112570429:True:=⟨⟩
theorem tw6004370424561632211:True:=⟨⟩
theorem tw1989957562568581447:True:=⟨⟩
theorem tw9607352012569486829:True:=⟨⟩
theorem tw49243678254636709:True:=⟨⟩
theorem tw669933739532035352:True:=⟨⟩
theorem tw8708857677272364048:True:=⟨⟩
theorem tw3714543301407803025:True:=⟨⟩
theorem tw5355110123708753403:True:=⟨⟩
theorem tw473894298269730620:True:=⟨⟩
theorem tw11059055650130318238:True:=⟨⟩
theorem tw16002845671735503333:True:=⟨⟩
theorem tw4962335808333046958:True:=⟨⟩
theorem tw6828865802587989799:True:=⟨⟩
theorem tw1965494252008968171:True:=⟨⟩
theorem tw12770585711242534719:True:=⟨⟩
theorem tw8448682268104743417:True:=⟨⟩
theorem tw13698415167691792617:True:=⟨⟩
theorem tw9169612031469063238:True:=⟨⟩
theorem tw12037301361649938278:True:=⟨⟩
theorem tw9932941678409177655:True:=⟨⟩
theorem tw15847781491037156744:True:=⟨⟩
theorem tw17485910634188984807:True:=⟨⟩
theorem tw11692131288330648331:True:=⟨⟩
theorem tw8669395138191180937:True:=⟨⟩
theorem tw12339902760789082695:True:=⟨⟩
theorem tw8122430598257844307:True:=⟨⟩
theorem tw3870539127401840313:True:=⟨⟩
theorem tw1112490305950082252:True:=⟨⟩
theorem tw4700161200908677332:True:=⟨⟩
theorem tw7003372550786712898:True:=⟨⟩
theorem tw8707505437720854531:True:=⟨⟩
theorem tw8897179697916942575:True:=⟨⟩
theorem tw3565551416768985880:True:=⟨⟩
theorem tw325949050098388600:True:=⟨⟩
theorem tw17578774143071520332:True:=⟨⟩
theorem tw15827860648754686880:True:=⟨⟩
theorem tw15488366870129647798:True:=⟨⟩
theorem tw12086293987399562723:True:=⟨⟩
theorem tw823678226116403366:True:=⟨⟩
theorem tw10950434127349487745:True:=⟨⟩
theorem tw615834139464423256:True:=⟨⟩
theorem tw10557764321844243249:True:=⟨⟩
theorem tw12594676161892131010:True:=⟨⟩
theorem tw7485810583001843490:True:=⟨⟩
theorem tw4811890186161581706:True:=⟨⟩
theorem tw10722147267689891104:True:=⟨⟩
theorem tw4922453532396548695:True:=⟨⟩
theorem tw11938998643813964525:True:=⟨⟩
theorem tw8335196144714075676:True:=⟨⟩
theorem tw17718467241037047015:True:=⟨⟩
theorem tw8007090121054349937:True:=⟨⟩
theorem tw14312908234184540058:True:=⟨⟩
theorem tw18126614951249932839:True:=⟨⟩
theorem tw10023959139038578475:True:=⟨⟩
theorem tw4904081698112358034:True:=⟨⟩
theorem tw2908270105640720250:True:=⟨⟩
end PySem.W.Fast
open PySem PySem.W PyProof.Rows
set_option maxRecDepth 100000 in
set_option maxHeartbeats 0 in
theorem PySem.Challenge.cw_sashiko_k33_rounds_of_a_ring_holds : PySem.Challenge.rw_sashiko_k33_rounds_of_a_ring.Holds := by
 w_on; o_law; k_head; (case hw => w_witness2)
 k_fill
 refine L2.walk_ofK (l := PySem.Challenge.rw_sashiko_k33_rounds_of_a_ring) (n := 63) (k := 12) (x := "_law_script") (CX := L2.CX0) (sp := My.sp_law) rfl (by decide) rfl ⟨rfl, by decide, by decide⟩ (fun w h Y => PySem.W.kIn_of Y) ?F ?S ?C
 case F =>
  intro w mg fa h KX G hmg
  have T : ∃ t : My.Ad, My.Txt (L2.KOf KX) mg t := by
   dsimp only [L2.KOf]
   refine' My.txt_mk KX G ?aC_Board ?ga_Board ?rd_Board ?aC_Ring ?pg_Ring ?hd_Ring ?po_Ring ?sa_Ring ?mk_Ring ?kc_Ring ?naR_columns_count ?naR_rows_count ?naR_col_bits ?naR_row_bits ?a_isnumber ?F_isnumber ?a_isbelow ?F_isbelow ?a_isbit ?F_isbit ?a_allbits ?F_allbits ?a_isside ?F_isside ?a_isringside ?F_isringside ?fc_BoardInit ?F_BoardInit ?a_RingInit ?i_RingInit ?F_RingInit ?a_Ringwide ?i_Ringwide ?F_Ringwide ?a_Ringtall ?i_Ringtall ?F_Ringtall ?a_Ringbitsalong ?i_Ringbitsalong ?F_Ringbitsalong ?a_Ringbit ?i_Ringbit ?F_Ringbit ?a_Ringstitched ?i_Ringstitched ?F_Ringstitched ?a_walk ?F_walk ?a_roundat ?F_roundat ?a_ringrounds ?F_ringrounds ?a_Lmarks ?F_Lmarks ?a_Ldraws ?F_Ldraws ?a_Lbits ?F_Lbits ?a_Lrow ?F_Lrow ?a_Lloop ?F_Lloop ?a_Lring ?F_Lring ?a_Lonward ?F_Lonward ?a_Lgone ?F_Lgone ?a_Lgoneall ?F_Lgoneall ?a_Lsame ?F_Lsame ?a_Ldue ?F_Ldue ?a_Ltried ?F_Ltried ?a_law ?F_law ?aX_SewError ?aX_BadSize ?aX_BadBit ?aX_NoCell ?aX_NoLine ?aX_NoStep ?aX_NoPoint ?bb ?bm ?bt ?ogs ?otk ?x_BadSize ?ga_BadSize ?gt_BadSize ?gc_BadSize ?go_BadSize ?gb_BadSize ?sb_BadSize ?x_BadBit ?ga_BadBit ?gt_BadBit ?gc_BadBit ?go_BadBit ?gb_BadBit ?sb_BadBit ?x_NoLine ?ga_NoLine ?gt_NoLine ?gc_NoLine ?go_NoLine ?gb_NoLine ?sb_NoLine ?x_NoStep ?ga_NoStep ?gt_NoStep ?gc_NoStep ?go_NoStep ?gb_NoStep ?sb_NoStep ?x_NoPoint ?ga_NoPoint ?gt_NoPoint ?gc_NoPoint ?go_NoPoint ?gb_NoPoint ?sb_NoPoint ?kt_NoPoint_BadSize ?kt_NoPoint_BadBit ?kt_NoPoint_NoCell ?kt_NoPoint_NoLine ?kt_NoPoint_NoStep ?kt_NoPoint_NoPoint ?kv_NoPoint ?v_LONGEST_SIDE ?z_isinstance ?z_int ?z_bool ?z_all ?z_len ?z_tuple ?z_list ?z_range ?z_abs ?z_str ?z_zip ?z_min ?z_ValueError
   (case aC_Board | ga_Board | rd_Board | aC_Ring | pg_Ring | hd_Ring | po_Ring | sa_Ring | mk_Ring | kc_Ring | naR_columns_count | naR_rows_count | naR_col_bits | naR_row_bits | a_isnumber | a_isbelow | a_isbit | a_allbits | a_isside | a_isringside | fc_BoardInit | a_RingInit | i_RingInit | a_Ringwide | i_Ringwide | a_Ringtall | i_Ringtall | a_Ringbitsalong | i_Ringbitsalong | a_Ringbit | i_Ringbit | a_Ringstitched | i_Ringstitched | a_walk | a_roundat | a_ringrounds | a_Lmarks | a_Ldraws | a_Lbits | a_Lrow | a_Lloop | a_Lring | a_Lonward | a_Lgone | a_Lgoneall | a_Lsame | a_Ldue | a_Ltried | a_law | aX_SewError | aX_BadSize | aX_BadBit | aX_NoCell | aX_NoLine | aX_NoStep | aX_NoPoint | bb | bm | bt | ogs | otk | ga_BadSize | gt_BadSize | gc_BadSize | go_BadSize | gb_BadSize | sb_BadSize | ga_BadBit | gt_BadBit | gc_BadBit | go_BadBit | gb_BadBit | sb_BadBit | ga_NoLine | gt_NoLine | gc_NoLine | go_NoLine | gb_NoLine | sb_NoLine | ga_NoStep | gt_NoStep | gc_NoStep | go_NoStep | gb_NoStep | sb_NoStep | ga_NoPoint | gt_NoPoint | gc_NoPoint | go_NoPoint | gb_NoPoint | sb_NoPoint | v_LONGEST_SIDE | z_isinstance | z_int | z_bool | z_all | z_len | z_tuple | z_list | z_range | z_abs | z_str | z_zip | z_min | z_ValueError => k_is)
   (case F_isnumber | F_isbelow | F_isbit | F_allbits | F_isside | F_isringside | F_BoardInit | F_RingInit | F_Ringwide | F_Ringtall | F_Ringbitsalong | F_Ringbit | F_Ringstitched | F_walk | F_roundat | F_ringrounds | F_Lmarks | F_Ldraws | F_Lbits | F_Lrow | F_Lloop | F_Lring | F_Lonward | F_Lgone | F_Lgoneall | F_Lsame | F_Ldue | F_Ltried | F_law => exact L2.fun_mk (by k_is) (by k_is) (by k_is))
   (case x_BadSize | x_BadBit | x_NoLine | x_NoStep | x_NoPoint => k_exc)
   (case kt_NoPoint_BadSize | kt_NoPoint_BadBit | kt_NoPoint_NoCell | kt_NoPoint_NoLine | kt_NoPoint_NoStep | kt_NoPoint_NoPoint | kv_NoPoint => kit_is)
  obtain ⟨t, T⟩ := T
  have e0 := hmg.symm.trans T.mg_law
  cases e0
  exact ⟨t.d_law, T.F_law.bl fun _ _ _ _ _ _ _ => rfl, fun base _ _ => My.ok_law T⟩
 case S => exact fun K H a ns hl _ hS => ⟨a, ns, rfl, hS, hl, fun _ => rfl⟩
 case C => exact fun _ _ _ _ z => z
