import PyProof.Rows.All
import Wide.All
import OpenK.AllK
import Wide.FinOn
import Lean
import PyProof.EqAt
import PyProof.EqKinds
import PyProof.TupleCall
import KE.KSortTup
import KE.KItemsList
import KE.KPairComp
import KE.KDictOf
import PyProof.AttrMissHeap
import PySem.Challenge.RW_sashiko_k18_paths_in_a_region
import KE.KDictSum
set_option Elab.async false
set_option linter.all false
set_option maxRecDepth 100000
namespace L2
open PySem PySem.Spec PyProof.Rows
abbrev Key := Sum Int Str
def keyIs : Key → Value → Bool
 | .inl k, v => Value.isInt k v
 | .inr x, v => Value.isStrOf x v
def keyH (w : World) : Key → Int
 | .inl k => hashInt k
 | .inr x => hashStr w x
theorem keyIs_shape : ∀ {k : Key} {v : Value}, keyIs k v = true → (∃ i t, k = Sum.inl i ∧ v = Value.int i t) ∨ (∃ x t, k = Sum.inr x ∧ v = Value.str x t)
 | .inl i, v, h => by
  obtain ⟨t, e⟩ := Value.isInt_shape (k := i) (v := v) h
  exact .inl ⟨i, t, rfl, e⟩
 | .inr x, v, h => by
  obtain ⟨t, e⟩ := Value.isStrOf_shape (x := x) (v := v) h
  exact .inr ⟨x, t, rfl, e⟩
theorem keyIs_int (i : Int) (t : Tok) : keyIs (.inl i) (.int i t) = true := by simp [keyIs, Value.isInt]
theorem keyIs_str (x : Str) (t : Tok) : keyIs (.inr x) (.str x t) = true := by simp [keyIs, Value.isStrOf]
theorem key_ll (a b : Int) : decide ((Sum.inl a : Key) = Sum.inl b) = (a == b) := by
 by_cases e : a = b
 ·subst e; simp
 ·have h : ¬ (Sum.inl a : Key) = Sum.inl b := fun q => e (Sum.inl.inj q)
  rw [decide_eq_false h]
  exact (beq_eq_false_iff_ne.mpr e).symm
theorem key_rr (a b : Str) : decide ((Sum.inr a : Key) = Sum.inr b) = decide (a = b) := by
 by_cases e : a = b
 ·subst e; simp
 ·have h : ¬ (Sum.inr a : Key) = Sum.inr b := fun q => e (Sum.inr.inj q)
  rw [decide_eq_false h, decide_eq_false e]
theorem key_lr (a : Int) (b : Str) : decide ((Sum.inl a : Key) = Sum.inr b) = false := decide_eq_false (fun q => nomatch q)
theorem key_rl (a : Str) (b : Int) : decide ((Sum.inr a : Key) = Sum.inl b) = false := decide_eq_false (fun q => nomatch q)
def mixKind (prog : Program) (w : World) : PySem.KeyKind prog w Key where
 is := keyIs
 hash := keyH w
 inj := fun v a b ha hb => by
  rcases keyIs_shape ha with ⟨i, t, rfl, rfl⟩ | ⟨x, t, rfl, rfl⟩
  ·rcases keyIs_shape hb with ⟨j, u, rfl, e⟩ | ⟨y, u, rfl, e⟩
   ·injection e with e1 _; rw [e1]
   ·exact nomatch e
  ·rcases keyIs_shape hb with ⟨j, u, rfl, e⟩ | ⟨y, u, rfl, e⟩
   ·exact nomatch e
   ·injection e with e1 _; rw [e1]
 byValue := fun k v h => by
  rcases keyIs_shape h with ⟨i, t, rfl, rfl⟩ | ⟨x, t, rfl, rfl⟩ <;> rfl
 pyHash := fun hv h => by
  rcases keyIs_shape hv with ⟨i, t, rfl, rfl⟩ | ⟨x, t, rfl, rfl⟩
  ·exact wpAny_pyHash_int h
  ·exact wpAny_pyHash_str h
 eqBool := fun hu hv h => by
  rcases keyIs_shape hu with ⟨i, t, rfl, rfl⟩ | ⟨x, t, rfl, rfl⟩
  ·rcases keyIs_shape hv with ⟨j, u, rfl, rfl⟩ | ⟨y, u, rfl, rfl⟩
   ·rw [key_ll] at h; exact wpAny_eqBool_int h
   ·rw [key_lr] at h; exact SeqAt.EqAt.int_str i t y u _ _ _ _ h
  ·rcases keyIs_shape hv with ⟨j, u, rfl, rfl⟩ | ⟨y, u, rfl, rfl⟩
   ·rw [key_rl] at h; exact SeqAt.EqAt.str_int x t j u _ _ _ _ h
   ·rw [key_rr] at h; exact wpAny_eqBool_str h
 «strs» := fun k x t v h => by
  rcases keyIs_shape h with ⟨i, u, rfl, e⟩ | ⟨y, u, rfl, e⟩
  ·exact nomatch e
  ·injection e with e1 _
   subst e1
   cases v <;> rfl
theorem mixKind_int (prog : Program) (w : World) (i : Int) (t : Tok) : (mixKind prog w).is (.inl i) (.int i t) = true := keyIs_int i t
theorem mixKind_str (prog : Program) (w : World) (x : Str) (t : Tok) : (mixKind prog w).is (.inr x) (.str x t) = true := keyIs_str x t
end L2
namespace L2
open PySem PySem.Spec PyProof.Rows
inductive V where
 | non | bl (b : Bool) | int (i : Int) | str (x : Str) | byt (b : Array UInt8) | flt (b : UInt64) | ref (a : Addr) | ty (n : String)
 deriving DecidableEq
def RelV : V → Value → Prop
 | .non, u => u = Value.none
 | .bl b, u => u = Value.bool b
 | .int i, u => ∃ t, u = Value.int i t
 | .str x, u => ∃ t, u = Value.str x t
 | .byt b, u => ∃ t, u = Value.bytes b t
 | .flt b, u => ∃ t, u = Value.float b t
 | .ref a, u => u = Value.ref a
 | .ty n, u => u = Value.type n
abbrev Vals : List V → List Value → Prop := Paired RelV
theorem Vals.length {xs : List V} {us : List Value} (r : Vals xs us) : xs.length = us.length := Paired.length r
theorem Vals.get : ∀ {xs : List V} {us : List Value} {i : Nat} {x : V}, Vals xs us → xs[i]? = some x → ∃ u, us[i]? = some u ∧ RelV x u
 | _, _, _, _, .nil, e => by simp at e
 | _, _, 0, _, .cons r _, e => by simp at e; subst e; exact ⟨_, rfl, r⟩
 | _, _, i + 1, x, .cons _ t, e => by
  obtain ⟨u, h1, h2⟩ := Vals.get (i := i) (x := x) t (by simpa using e)
  exact ⟨u, by simpa using h1, h2⟩
theorem Vals.append : ∀ {xs ys : List V} {us ws : List Value}, Vals xs us → Vals ys ws → Vals (xs ++ ys) (us ++ ws)
 | _, _, _, _, .nil, s => s
 | _, _, _, _, .cons r t, s => .cons r (Vals.append t s)
theorem Vals.take : ∀ {xs : List V} {us : List Value} (n : Nat), Vals xs us → Vals (xs.take n) (us.take n)
 | _, _, 0, _ => .nil
 | _, _, _ + 1, .nil => .nil
 | _, _, n + 1, .cons r t => .cons r (Vals.take n t)
theorem Vals.drop : ∀ {xs : List V} {us : List Value} (n : Nat), Vals xs us → Vals (xs.drop n) (us.drop n)
 | _, _, 0, r => r
 | _, _, _ + 1, .nil => .nil
 | _, _, n + 1, .cons _ t => Vals.drop n t
def RelO : Option V → Option Value → Prop
 | some v, some u => RelV v u
 | none, none => True
 | _, _ => False
def KV {κ : Type} : List (κ × V) → List (κ × Value) → Prop := Paired fun (p : κ × V) (q : κ × Value) => p.1 = q.1 ∧ RelV p.2 q.2
def kV : Key → V
 | .inl i => .int i
 | .inr x => .str x
inductive HO where
 | lst (xs : List V)
 | tup (xs : List V)
 | dK (kvs : List (Key × V)) | dT (kvs : List (List Key × V))
 | set (S : Int → Bool) (n : Nat)
 | ins (C dx : Addr) (fs : List (Str × V))
 | own (x : Addr)
 | xd (fs : List (Str × V))
 | met (f x : Addr)
 | rng (lo hi : Int)
 | frz (o : Obj) (u : HO)
 | tbl (ps : Array Value)
 | ext (φ : Heap → Prop)
abbrev Hp := Addr → Option HO
def upd (H : Hp) (a : Addr) (o : HO) : Hp := fun b => if b = a then some o else H b
theorem upd_same {H : Hp} {a : Addr} {o : HO} : upd H a o a = some o := by unfold upd; rw [if_pos rfl]
theorem upd_ne {H : Hp} {a b : Addr} {o : HO} (h : b ≠ a) : upd H a o b = H b := by unfold upd; rw [if_neg h]
theorem upd_upd {H : Hp} {a : Addr} {o u : HO} : upd (upd H a o) a u = upd H a u := by
 funext b; unfold upd; split <;> rfl
theorem ne_of {H : Hp} {a b : Addr} {o u : HO} (h : H a = some o) (h' : H b = some u) (d : o ≠ u) : a ≠ b := by
 intro e; subst e; rw [h] at h'; exact d (Option.some.inj h')
theorem ne_of_none {H : Hp} {a b : Addr} {o : HO} (h : H a = some o) (h' : H b = none) : a ≠ b := by
 intro e; subst e; rw [h] at h'; cases h'
section
variable (P : Program) (w : World)
def ObjOk (H : Hp) (h : Heap) (a : Addr) : HO → Prop
  | .lst xs => xs.length ≤ sizeLine ∧ ∃ (its : List Value) (n : Nat), Vals xs its ∧ h.get? a = some { cls := .type "list", data := .seq its.toArray n }
  | .tup xs => xs.length ≤ sizeLine ∧ ∃ its : List Value, Vals xs its ∧ IsTup h a its.toArray
  | .dK kvs => kvs.length ≤ sizeLine ∧ (a == sysModules) = false ∧ ∃ vs, KV kvs vs ∧ h.DictOf (mixKind P w) a vs
  | .dT kvs => kvs.length ≤ sizeLine ∧ (a == sysModules) = false ∧ ∃ xs : List (List Key × Addr × Value),
      Paired (fun (p : List Key × V) (q : List Key × Addr × Value) => p.1 = q.1 ∧ H q.2.1 = some (.tup (p.1.map kV)) ∧ RelV p.2 q.2.2) kvs xs ∧
      ∃ o es ep, h.get? a = some o ∧ o.ExactDict ∧ o.data = .dict es ep ∧ es.toList = xs.map (entryOfKey (tupleKind (mixKind P w))) ∧ (xs.map (·.1)).Nodup
  | .set S n => h.SetOf (intKind P w) a S n
  | .ins C dx fs => H dx = some (.own a) ∧ fs.length ≤ 1000 ∧ dx ≠ a ∧ h.get? a = some (PySem.W.instObj C dx) ∧
      ∃ mA, h.Ns1 dx mA ∧ (∀ f, RelO (fs.lookup f) (mA f)) ∧ PySem.Within mA (fs.map (·.1))
  | .own _ => ∃ o, h.get? a = some o
  | .xd fs => ∃ mA, h.Ns1 a mA ∧ ∀ f, RelO (fs.lookup f) (mA f)
  | .rng lo hi => ∃ t u v, h.get? a = some { cls := .type "range", data := .fields #[.int lo t, .int hi u, .int 1 v] }
  | .frz o u => h.get? a = some o ∧ ObjOk H h a u
  | .tbl ps => h.get? a = some { cls := .none, data := .fields ps }
  | .met f x => h.get? a = some (PySem.W.methodObj (.ref f) (.ref x))
  | .ext φ => φ h ∧ (∃ o, h.get? a = some o) ∧ ∀ h1 h2 : Heap, φ h1 → (∀ o, h1.get? a = some o → h2.get? a = some o) → φ h2
def HOk (H : Hp) (h : Heap) : Prop := ∀ a o, H a = some o → ObjOk P w H h a o
end
section
variable {P : Program} {w : World} {H H' : Hp} {h h' : Heap} {a : Addr} {o : HO}
theorem ObjOk.lt (x : ObjOk P w H h a o) : a < h.objs.size := by
 cases o with
 | lst xs => obtain ⟨_, _, _, _, e⟩ := x; exact Heap.lt_size e
 | tup xs => obtain ⟨_, _, _, p⟩ := x; exact p.lt
 | dK kvs => obtain ⟨_, _, _, _, o, _, _, e, _⟩ := x; exact Heap.lt_size e
 | dT kvs => obtain ⟨_, _, _, _, o, _, _, e, _⟩ := x; exact Heap.lt_size e
 | set S n => obtain ⟨o, _, _, _, e, _⟩ := x; exact Heap.lt_size e
 | ins C dx fs => obtain ⟨_, _, _, e, _⟩ := x; exact Heap.lt_size e
 | own y => obtain ⟨_, e⟩ := x; exact Heap.lt_size e
 | xd fs => obtain ⟨_, ⟨_, _, _, e, _⟩, _⟩ := x; exact Heap.lt_size e
 | rng lo hi => obtain ⟨_, _, _, e⟩ := x; exact Heap.lt_size e
 | frz ob u => obtain ⟨e, _⟩ := x; exact Heap.lt_size e
 | tbl ps => exact Heap.lt_size (show h.get? a = some _ from x)
 | met f y => exact Heap.lt_size (show h.get? a = some _ from x)
 | ext φ => obtain ⟨_, ⟨_, e⟩, _⟩ := x; exact Heap.lt_size e
theorem Paired.mapP {α β : Type} {F G : α → β → Prop} : ∀ {l₁ : List α} {l₂ : List β}, Paired F l₁ l₂ → (∀ a b, F a b → G a b) → Paired G l₁ l₂
 | _, _, .nil, _ => .nil
 | _, _, .cons r t, f => .cons (f _ _ r) (Paired.mapP t f)
theorem ObjOk.stay (x : ObjOk P w H h a o) (k : ∀ b u, (b = a ∨ H b = some (.own a)) → h.get? b = some u → h'.get? b = some u)
  (ho : ∀ b, H b = some (.own a) → H' b = some (.own a)) (ht : ∀ b xs, H b = some (.tup xs) → H' b = some (.tup xs)) : ObjOk P w H' h' a o := by
 induction o with
 | lst xs => obtain ⟨z, its, n, r, e⟩ := x; exact ⟨z, its, n, r, k _ _ (.inl rfl) e⟩
 | tup xs => obtain ⟨z, its, r, ob, e, c⟩ := x; exact ⟨z, its, r, ob, k _ _ (.inl rfl) e, c⟩
 | dK kvs => obtain ⟨z, y, vs, r, ob, es, ep, e, c⟩ := x; exact ⟨z, y, vs, r, ob, es, ep, k _ _ (.inl rfl) e, c⟩
 | dT kvs =>
  obtain ⟨z, y, xs, r, ob, es, ep, e, c⟩ := x
  exact ⟨z, y, xs, Paired.mapP r fun p q z => ⟨z.1, ht _ _ z.2.1, z.2.2⟩, ob, es, ep, k _ _ (.inl rfl) e, c⟩
 | set S n => obtain ⟨ob, es, ep, t, e, c⟩ := x; exact ⟨ob, es, ep, t, k _ _ (.inl rfl) e, c⟩
 | ins C dx fs =>
  obtain ⟨d, z, ne, e, mA, ⟨od, es, ep, e2, c⟩, r⟩ := x
  exact ⟨ho _ d, z, ne, k _ _ (.inl rfl) e, mA, ⟨od, es, ep, k _ _ (.inr d) e2, c⟩, r⟩
 | own y => obtain ⟨ob, e⟩ := x; exact ⟨ob, k _ _ (.inl rfl) e⟩
 | xd fs => obtain ⟨mA, ⟨od, es, ep, e, c⟩, r⟩ := x; exact ⟨mA, ⟨od, es, ep, k _ _ (.inl rfl) e, c⟩, r⟩
 | rng lo hi => obtain ⟨t, u, v, e⟩ := x; exact ⟨t, u, v, k _ _ (.inl rfl) e⟩
 | frz ob u ih => obtain ⟨e, q⟩ := x; exact ⟨k _ _ (.inl rfl) e, ih q⟩
 | tbl ps =>
  have e : h.get? a = some { cls := .none, data := .fields ps } := x
  show h'.get? a = some { cls := .none, data := .fields ps }
  exact k a _ (.inl rfl) e
 | met f y =>
  have e : h.get? a = some (PySem.W.methodObj (.ref f) (.ref y)) := x
  show h'.get? a = some (PySem.W.methodObj (.ref f) (.ref y))
  exact k a _ (.inl rfl) e
 | ext φ => obtain ⟨p, ⟨o, e⟩, st⟩ := x; exact ⟨st _ _ p fun o q => k _ _ (.inl rfl) q, ⟨o, k _ _ (.inl rfl) e⟩, st⟩
theorem HOk.lt (x : HOk P w H h) (e : H a = some o) : a < h.objs.size := (x a o e).lt
theorem HOk.fresh (x : HOk P w H h) (e : h.objs.size ≤ a) : H a = none := by
 cases q : H a with
 | none => rfl
 | some u => exact absurd (Nat.lt_of_lt_of_le (x.lt q) e) (Nat.lt_irrefl _)
theorem HOk.kept (x : HOk P w H h) (k : ∀ b u, h.get? b = some u → h'.get? b = some u) : HOk P w H h' := fun a o e =>
 (x a o e).stay (fun b u _ q => k b u q) (fun _ q => q) fun _ _ q => q
theorem HOk.laid (x : HOk P w H h) (k : ∀ b u, h.get? b = some u → h'.get? b = some u) (hp : h.objs.size ≤ a) (new : ObjOk P w (upd H a o) h' a o) : HOk P w (upd H a o) h' := fun b u e => by
 have hn := x.fresh hp
 by_cases hb : b = a
 ·subst hb; rw [upd_same] at e; cases e; exact new
 ·rw [upd_ne hb] at e
  exact (x b u e).stay (fun c v _ q => k c v q) (fun c q => by rw [upd_ne (ne_of_none q hn)]; exact q) fun c xs q => by rw [upd_ne (ne_of_none q hn)]; exact q
end
def Rd (H : Hp) (a : Addr) (u : HO) : Prop := H a = some u ∨ ∃ o, H a = some (.frz o u)
theorem Rd.ok {P : Program} {w : World} {H : Hp} {h : Heap} {a : Addr} {u : HO} (r : Rd H a u) (x : HOk P w H h) : ObjOk P w H h a u := by
 rcases r with r | ⟨o, r⟩
 ·exact x a u r
 ·obtain ⟨_, q⟩ := x a _ r
  exact q
def Mut : Option HO → Prop
 | some (.lst _) => True
 | some (.dK _) => True
 | some (.dT _) => True
 | some (.set _ _) => True
 | some (.ins _ _ _) => True
 | some (.ext _) => True
 | _ => False
section
variable {P : Program} {w : World} {H : Hp} {h h' : Heap} {x e : Addr} {o' : HO}
theorem HOk.write (ok : HOk P w H h) (mu : Mut (H x)) (he : e = x ∨ H e = some (.own x)) (k : ∀ b u, b ≠ e → h.get? b = some u → h'.get? b = some u) (heo : ∃ u, h'.get? e = some u)
    (new : ObjOk P w (upd H x o') h' x o') : HOk P w (upd H x o') h' := fun b u q => by
  have nown : ∀ c y, H c = some (.own y) → c ≠ x := fun c y r z => by subst z; rw [r] at mu; exact mu
  have ntup : ∀ c xs, H c = some (.tup xs) → c ≠ x := fun c xs r z => by subst z; rw [r] at mu; exact mu
  by_cases hb : b = x
  · subst hb; rw [upd_same] at q; cases q; exact new
  · rw [upd_ne hb] at q
    by_cases hbe : b = e
    · have q' : H b = some (.own x) := by
        rcases he with z | z
        · exact absurd (hbe.trans z) hb
        · rw [hbe]; exact z
      rw [q] at q'; cases q'
      obtain ⟨v, hv⟩ := heo
      exact ⟨v, by rw [hbe]; exact hv⟩
    · refine (ok b u q).stay (fun c v hc r => k c v ?_ r) (fun c r => by rw [upd_ne (nown c b r)]; exact r) fun c xs r => by rw [upd_ne (ntup c xs r)]; exact r
      rcases hc with rfl | hc
      · exact hbe
      · rintro rfl
        rcases he with z | z
        · exact nown c b hc z
        · rw [hc] at z; cases z; exact hb rfl
end
structure Un (fs ex : List Addr) (H H' : Hp) (h h' : Heap) : Prop where
 keep : ∀ b o, h.get? b = some o → H b = none → b ∉ fs → b ∉ ex → h'.get? b = some o
 slot : ∀ b o, h.get? b = some o → H b = none → b ∈ fs → b ∉ ex → ∃ sl, h'.get? b = some { o with slots := sl }
 free : ∀ b o, h.get? b = some o → H b = none → b ∉ ex → H' b = none
 there : ∀ b o, h.get? b = some o → b ∉ ex → ∃ o', h'.get? b = some o'
 tups : ∀ b xs, H b = some (.tup xs) → H' b = some (.tup xs)
 frzs : ∀ b o u, H b = some (.frz o u) → H' b = some (.frz o u)
 tbls : ∀ b ps, H b = some (.tbl ps) → ∃ more, H' b = some (.tbl (ps ++ more))
section
variable {fs fs' ex ex' : List Addr} {H H1 H2 : Hp} {h h1 h2 h' : Heap} {a x e : Addr} {o : HO}
theorem Un.any (u : Un fs ex H H1 h h1) {b : Addr} {ob : Obj} (q : h.get? b = some ob) (n : H b = none) (hx : b ∉ ex) : ∃ sl, h1.get? b = some { ob with slots := sl } := by
 by_cases hb : b ∈ fs
 ·exact u.slot b ob q n hb hx
 ·exact ⟨ob.slots, u.keep b ob q n hb hx⟩
theorem Un.kept (k : ∀ b u, h.get? b = some u → h'.get? b = some u) : Un fs ex H H h h' :=
 ⟨fun b ob q _ _ _ => k b ob q, fun b ob q _ _ _ => ⟨ob.slots, k b ob q⟩, fun _ _ _ n _ => n, fun b ob q _ => ⟨ob, k b ob q⟩, fun _ _ q => q, fun _ _ _ q => q, fun _ ps q => ⟨#[], by rw [q]; simp⟩⟩
theorem Un.refl : Un fs ex H H h h := Un.kept fun _ _ q => q
theorem Un.laid (k : ∀ b u, h.get? b = some u → h'.get? b = some u) (hp : h.objs.size ≤ a) (hn : H a = none) : Un fs ex H (upd H a o) h h' where
 keep := fun b u q _ _ _ => k b u q
 slot := fun b u q _ _ _ => ⟨u.slots, k b u q⟩
 free := fun b u q n _ => by rw [upd_ne (Nat.ne_of_lt (Nat.lt_of_lt_of_le (Heap.lt_size q) hp))]; exact n
 there := fun b u q _ => ⟨u, k b u q⟩
 tups := fun b xs q => by rw [upd_ne (ne_of_none q hn)]; exact q
 frzs := fun b u xs q => by rw [upd_ne (ne_of_none q hn)]; exact q
 tbls := fun b ps q => ⟨#[], by rw [upd_ne (ne_of_none q hn), q]; simp⟩
theorem Un.write (mu : Mut (H x)) (he : e = x ∨ H e = some (.own x)) (k : ∀ b u, b ≠ e → h.get? b = some u → h'.get? b = some u) (heo : ∃ u, h'.get? e = some u) : Un fs ex H (upd H x o) h h' := by
 have hx : ∀ b, H b = none → b ≠ x := fun b n z => by subst z; rw [n] at mu; exact mu
 have hb : ∀ b, H b = none → b ≠ e := fun b n z => by
  subst z
  rcases he with r | r
  ·exact hx b n r
  ·rw [n] at r; cases r
 have hm : ∀ b u, H b = some u → ¬ Mut (some u) → b ≠ x := fun b u q nm z => by subst z; rw [q] at mu; exact nm mu
 refine ⟨fun b u q n _ _ => k b u (hb b n) q, fun b u q n _ _ => ⟨u.slots, k b u (hb b n) q⟩, fun b u q n _ => by rw [upd_ne (hx b n)]; exact n, fun b u q _ => ?_,
  fun b xs q => by rw [upd_ne (hm b _ q fun z => z)]; exact q, fun b u xs q => by rw [upd_ne (hm b _ q fun z => z)]; exact q, fun b ps q => ⟨#[], by rw [upd_ne (hm b _ q fun z => z), q]; simp⟩⟩
 by_cases hbe : b = e
 ·subst hbe; exact heo
 ·exact ⟨u, k b u hbe q⟩
end
def trk (h : Heap) (H : Hp) : List Addr := (List.range h.objs.size).filter fun a => (H a).isSome
def hidT (h : Heap) (H : Hp) : Heap := PySem.W.hideAll h (trk h H)
theorem hidT_size (h : Heap) (H : Hp) : (hidT h H).objs.size = h.objs.size := PySem.W.hideAll_size _ _
theorem hidT_get {h : Heap} {H : Hp} {b : Addr} {o : Obj} (e : h.get? b = some o) (n : H b = none) : (hidT h H).get? b = some o :=
 PySem.W.hideAll_get _ e fun hm => by
  have q : (H b).isSome = true := (List.mem_filter.mp hm).2
  rw [n] at q; simp at q
theorem of_hidT {h : Heap} {H : Hp} {b : Addr} {o : Obj} (e : (hidT h H).get? b = some o) : h.get? b = some o ∧ H b = none := by
 have e' : h.get? b = some o := PySem.W.of_hideAll (trk h H) e
 refine ⟨e', ?_⟩
 cases q : H b with
 | none => rfl
 | some x =>
  have hm : b ∈ trk h H := List.mem_filter.mpr ⟨List.mem_range.mpr (Heap.lt_size e'), by simp [q]⟩
  have z : (hidT h H).get? b = none := PySem.W.hideAll_none (trk h H) hm
  rw [z] at e; cases e
def allNews (g h : Heap) (L : Addr) : List (Addr × Obj) := (List.range h.objs.size).filterMap fun a => if a = L ∨ (g.get? a).isSome = true then none else (h.get? a).map fun o => (a, o)
def rest (g h : Heap) (L d : Addr) : List (Addr × Obj) := (allNews g h L).filter fun p => decide (p.1 ≠ d)
end L2
namespace L2
open PySem PySem.Spec PyProof.Rows
structure Mod (K : PySem.W.Frag) (mg : Str → Option Value) (base : Heap) : Prop where
 kin : K.In base
 glob : base.Ns mainGlobals mg
 blt : ∃ mb, base.Ns builtinsNs mb ∧ ∀ x : Str, x ≠ "__name__" → mb x = bootBuiltins x
 nolimit : base.NoLimit
structure Cx where
 prog : Program
 w : World
 K : PySem.W.Frag
 mg : Str → Option Value
 base : Heap
 A : Around
 N : List Str
 s₀ : Shared
 H₀ : Hp
 env : Env
 outer : List Env
 stack : List Env
 ex : List Addr
 fn : Str → Bool
 calm : Bool
 pn : List (Addr × Obj)
 xe : Value → Shared → Prop
def frs (l : List Env) : List Addr := l.filterMap (·.frame)
abbrev Cx.fs (X : Cx) : List Addr := frs X.outer
def Vis (sc : Scope) (x : Str) : Prop := sc.names.lookup x = some .local ∨ sc.names.lookup x = some .cell ∨ sc.names.lookup x = some .free
def Loc (sc : Scope) (x : Str) : Prop := sc.names.lookup x = some .local ∨ sc.names.lookup x = some .cell
def Look (env : Env) (h : Heap) (m : Str → Option Value) (x : Str) (u : Value) : Prop :=
 (env.kindOf x = some .local ∧ m x = some u) ∨ ((env.kindOf x = some .cell ∨ env.kindOf x = some .free) ∧ ∃ c, env.cells.lookup x = some c ∧ h.IsCell c (some u))
structure Cx.Ok (X : Cx) : Prop where
 mod : Mod X.K X.mg X.base
 kind : X.env.scope.kind = .function
 glob : X.env.globals = mainGlobals
 blt : X.env.builtins = builtinsNs
 above : X.s₀.heap.objs.size ≤ X.env.locals
 inj : ∀ x y c, X.env.cells.lookup x = some c → X.env.cells.lookup y = some c → x = y
 has : ∀ x, (X.env.kindOf x = some .cell ∨ X.env.kindOf x = some .free) → ∃ c, X.env.cells.lookup x = some c
 cab : ∀ x c, X.fn x = true → X.env.cells.lookup x = some c → X.s₀.heap.objs.size ≤ c
 hd : X.calm = true → X.A.handled = none
 frames : X.A.frames = some X.stack
 stk : X.stack = X.outer ∨ (X.stack = X.env :: X.outer ∧ X.env.frame = some X.env.locals)
 exf : ∀ b ∈ X.ex, b ≠ X.env.locals ∧ ∀ x c, X.env.cells.lookup x = some c → c ≠ b
 bs : ∀ b o, X.base.get? b = some o → X.s₀.heap.get? b = some o ∧ X.H₀ b = none
 bsz : X.base.objs.size ≤ X.s₀.heap.objs.size
 noex : ∀ b o, X.base.get? b = some o → b ∉ X.ex
 exfs : ∀ b ∈ X.ex, b ∉ X.fs
 funs : X.s₀.heap.FunFrames X.base X.outer
 frf : ∀ b ∈ X.fs, X.H₀ b = none
structure Inv (X : Cx) (pins : List (Addr × Obj)) (σ : List (Option V)) (H : Hp) (s : Shared) : Prop where
 ok : X.Ok
 os : s.os = X.s₀.os
 bare : AllBare s.gens
 base : Un X.fs X.ex X.H₀ H X.s₀.heap s.heap
 loc : ∃ m, s.heap.Ns X.env.locals m ∧ ∀ (i : Nat) (x : Str) (v : V), X.N[i]? = some x → σ[i]? = some (some v) → Vis X.env.scope x → ∃ u, RelV v u ∧ Look X.env s.heap m x u
 cell : ∀ x c, X.env.cells.lookup x = some c → ∃ v, s.heap.IsCell c v
 free : H X.env.locals = none
 freeC : ∀ x c, X.env.cells.lookup x = some c → H c = none
 pin : ∀ p ∈ X.pn ++ pins, s.heap.get? p.1 = some p.2 ∧ H p.1 = none ∧ p.1 ≠ X.env.locals ∧ p.1 ∉ X.fs ∧ ∀ v, p.2.data ≠ .cell v
 hok : HOk X.prog X.w H s.heap
 len : σ.length = X.N.length
section
variable {X : Cx} {pins : List (Addr × Obj)} {σ : List (Option V)} {H H' : Hp} {s : Shared} {h' : Heap}
theorem Cx.Ok.nofr (ok : X.Ok) {b : Addr} {o : Obj} (e : X.base.get? b = some o) : b ∉ X.fs := fun hb => by
 have := (ok.funs.mem hb).1
 rw [e] at this; cases this
theorem Inv.bs (I : Inv X pins σ H s) : ∀ b o, X.base.get? b = some o → s.heap.get? b = some o ∧ H b = none := fun b o e =>
 ⟨I.base.keep b o (I.ok.bs b o e).1 (I.ok.bs b o e).2 (I.ok.nofr e) (I.ok.noex b o e), I.base.free b o (I.ok.bs b o e).1 (I.ok.bs b o e).2 (I.ok.noex b o e)⟩
theorem Inv.bk (I : Inv X pins σ H s) : ∀ b o, X.base.get? b = some o → s.heap.get? b = some o := fun b o e => (I.bs b o e).1
theorem Inv.mod (I : Inv X pins σ H s) : Mod X.K X.mg X.base := I.ok.mod
theorem Inv.kIn (I : Inv X pins σ H s) : X.K.In s.heap := I.ok.mod.kin.keeps I.bk
theorem Inv.lt (I : Inv X pins σ H s) : X.env.locals < s.heap.objs.size := let ⟨_, hn, _⟩ := I.loc; hn.lt
theorem Inv.sz (I : Inv X pins σ H s) : X.s₀.heap.objs.size ≤ s.heap.objs.size := Nat.le_trans I.ok.above (Nat.le_of_lt I.lt)
theorem Inv.nofs (I : Inv X pins σ H s) {a : Addr} (h : s.heap.objs.size ≤ a) : a ∉ X.fs := fun hb => by
 obtain ⟨_, o, ho, _⟩ := I.ok.funs.mem hb
 exact absurd (Nat.lt_of_lt_of_le (Heap.lt_size ho) (Nat.le_trans I.sz h)) (Nat.lt_irrefl _)
theorem Inv.cne (I : Inv X pins σ H s) : ∀ x c, X.env.cells.lookup x = some c → c ≠ X.env.locals := fun x c e z => by
 obtain ⟨v, o, ho, hd⟩ := I.cell x c e
 obtain ⟨m, ⟨o', es, ep, ho', hd', _⟩, _⟩ := I.loc
 rw [z, ho'] at ho; cases ho; rw [hd'] at hd; cases hd
theorem Inv.funs (I : Inv X pins σ H s) : s.heap.FunFrames X.base X.outer := by
 have all : ∀ (l : List Env), (∀ b ∈ frs l, b ∈ X.fs) → X.s₀.heap.FunFrames X.base l → s.heap.FunFrames X.base l := by
  intro l
  induction l with
  | nil => intro _ _; trivial
  | cons env r ih =>
   intro hs hl
   obtain ⟨hk, ⟨L, o, hf, hn, ho, hd⟩, hr⟩ := hl
   have hL : L ∈ X.fs := hs L (by unfold frs; rw [List.filterMap_cons, hf]; exact List.mem_cons_self)
   obtain ⟨sl, e⟩ := I.base.slot L o ho (I.ok.frf L hL) hL fun z => I.ok.exfs L z hL
   exact ⟨hk, ⟨L, _, hf, hn, e, hd⟩, ih (fun b hb => hs b (by unfold frs; rw [List.filterMap_cons, hf]; exact List.mem_cons_of_mem _ hb)) hr⟩
 exact all X.outer (fun _ hb => hb) I.ok.funs
theorem Inv.stack (I : Inv X pins σ H s) : s.heap.FunFrames X.base X.stack := by
 rcases I.ok.stk with e | ⟨e, hf⟩
 ·rw [e]; exact I.funs
 ·rw [e]
  obtain ⟨m, hn, _⟩ := I.loc
  refine .cons (by rw [I.ok.kind]; decide) hf hn ?_ I.funs
  exact Heap.get?_none_of_le (Nat.le_trans I.ok.bsz I.ok.above)
theorem Inv.stkSub (I : Inv X pins σ H s) : ∀ b ∈ frs X.stack, b ∈ X.env.locals :: X.fs := fun b hb => by
 rcases I.ok.stk with e | ⟨e, hf⟩
 ·rw [e] at hb; exact List.mem_cons_of_mem _ hb
 ·rw [e] at hb
  unfold frs at hb
  rw [List.filterMap_cons, hf] at hb
  exact hb
theorem Inv.stkFree (I : Inv X pins σ H s) : ∀ b ∈ frs X.stack, H b = none := fun b hb => by
 rcases List.mem_cons.mp (I.stkSub b hb) with e | hb
 ·rw [e]; exact I.free
 ·obtain ⟨_, o, ho, _⟩ := I.ok.funs.mem hb
  exact I.base.free b o ho (I.ok.frf b hb) fun z => I.ok.exfs b z hb
theorem Inv.step {g' : Array GenState} {t' : Nat} {d' : Drawn} {ch : List Addr} (I : Inv X pins σ H s)
  (hch : ∀ b ∈ ch, (b ∈ X.ex ∨ X.s₀.heap.objs.size ≤ b) ∧ b ≠ X.env.locals ∧ (∀ x c, X.env.cells.lookup x = some c → c ≠ b) ∧ ∀ p ∈ X.pn ++ pins, p.1 ≠ b)
  (keep : ∀ b o, b ≠ X.env.locals → b ∉ X.fs → b ∉ ch → s.heap.get? b = some o → H b = none → h'.get? b = some o)
  (slot : ∀ b o, b ≠ X.env.locals → b ∈ X.fs → b ∉ ch → s.heap.get? b = some o → H b = none → ∃ sl, h'.get? b = some { o with slots := sl }) (free : ∀ b o, b ∉ ch → s.heap.get? b = some o → H b = none → H' b = none)
  (there : ∀ b o, b ∉ ch → s.heap.get? b = some o → ∃ o', h'.get? b = some o')
  (tups : ∀ b xs, H b = some (.tup xs) → H' b = some (.tup xs)) (frzs : ∀ b o u, H b = some (.frz o u) → H' b = some (.frz o u)) (tbls : ∀ b ps, H b = some (.tbl ps) → ∃ more, H' b = some (.tbl (ps ++ more)))
  (ns : ∀ m, s.heap.Ns X.env.locals m → h'.Ns X.env.locals m) (hok : HOk X.prog X.w H' h') (hg : AllBare g') :
  Inv X pins σ H' { s with heap := h', gens := g', drawn := d', toks := t' } := by
 have neL : ∀ b o, X.s₀.heap.get? b = some o → b ≠ X.env.locals := fun b o e => Nat.ne_of_lt (Nat.lt_of_lt_of_le (Heap.lt_size e) I.ok.above)
 have neC : ∀ b o, X.s₀.heap.get? b = some o → b ∉ X.ex → b ∉ ch := fun b o e hx hb => by
  rcases (hch b hb).1 with z | z
  ·exact hx z
  ·exact absurd (Nat.lt_of_lt_of_le (Heap.lt_size e) z) (Nat.lt_irrefl _)
 have cellK : ∀ x c, X.env.cells.lookup x = some c → ∀ v, s.heap.IsCell c v → h'.IsCell c v := fun x c e v ⟨o, ho, hd⟩ => by
  have nch : c ∉ ch := fun z => (hch c z).2.2.1 x c e rfl
  by_cases hc : c ∈ X.fs
  ·obtain ⟨sl, q⟩ := slot c o (I.cne x c e) hc nch ho (I.freeC x c e)
   exact ⟨_, q, hd⟩
  ·exact ⟨o, keep c o (I.cne x c e) hc nch ho (I.freeC x c e), hd⟩
 refine ⟨I.ok, I.os, hg, ⟨fun b o e n hb hx => ?_, fun b o e n hb hx => ?_, fun b o e n hx => ?_, fun b o e hx => ?_, fun b xs e => tups b xs (I.base.tups b xs e), fun b o xs e => frzs b o xs (I.base.frzs b o xs e), fun b ps e => ?_⟩, ?_, fun x c e => ?_, ?_, fun x c e => ?_, fun p hp => ?_, hok, I.len⟩
 ·exact keep b o (neL b o e) hb (neC b o e hx) (I.base.keep b o e n hb hx) (I.base.free b o e n hx)
 ·obtain ⟨sl, e1⟩ := I.base.slot b o e n hb hx
  obtain ⟨sl', e2⟩ := slot b _ (neL b o e) hb (neC b o e hx) e1 (I.base.free b o e n hx)
  exact ⟨sl', e2⟩
 ·obtain ⟨o', e1⟩ := I.base.there b o e hx
  exact free b o' (neC b o e hx) e1 (I.base.free b o e n hx)
 ·obtain ⟨o', e1⟩ := I.base.there b o e hx
  exact there b o' (neC b o e hx) e1
 ·obtain ⟨m1, e1⟩ := I.base.tbls b ps e
  obtain ⟨m2, e2⟩ := tbls b _ e1
  exact ⟨m1 ++ m2, by rw [e2, Array.append_assoc]⟩
 ·obtain ⟨m, hn, hl⟩ := I.loc
  refine ⟨m, ns m hn, fun i x v e1 e2 e3 => ?_⟩
  obtain ⟨u, r, l⟩ := hl i x v e1 e2 e3
  refine ⟨u, r, ?_⟩
  rcases l with l | ⟨k, c, e, z⟩
  ·exact .inl l
  ·exact .inr ⟨k, c, e, cellK x c e _ z⟩
 ·obtain ⟨v, z⟩ := I.cell x c e
  exact ⟨v, cellK x c e v z⟩
 ·obtain ⟨m, ⟨o, _, _, ho, _⟩, _⟩ := I.loc
  exact free _ o (fun z => (hch _ z).2.1 rfl) ho I.free
 ·obtain ⟨v, o, ho, hd⟩ := I.cell x c e
  exact free c o (fun z => (hch c z).2.2.1 x c e rfl) ho (I.freeC x c e)
 ·obtain ⟨e, n, ne, nf, d⟩ := I.pin p hp
  have nch : p.1 ∉ ch := fun z => (hch p.1 z).2.2.2 p hp rfl
  exact ⟨keep p.1 p.2 ne nf nch e n, free p.1 p.2 nch e n, ne, nf, d⟩
theorem Inv.un {t' : Nat} (I : Inv X pins σ H s) (u : Un X.fs [] H H' s.heap h') (hok : HOk X.prog X.w H' h') : Inv X pins σ H' { s with heap := h', toks := t' } := by
 obtain ⟨m, ⟨o, es, ep, ho, r⟩, _⟩ := id I.loc
 obtain ⟨sl, hL⟩ := u.any ho I.free (by simp)
 exact I.step (g' := s.gens) (d' := s.drawn) (ch := []) (fun _ z => nomatch z) (fun b o _ hb _ e n => u.keep b o e n hb (by simp)) (fun b o _ hb _ e n => u.slot b o e n hb (by simp)) (fun b o _ e n => u.free b o e n (by simp)) (fun b o _ e => u.there b o e (by simp)) u.tups u.frzs u.tbls (fun m' hm => by
  obtain ⟨o', es', ep', ho', r'⟩ := hm
  rw [ho] at ho'; cases ho'
  exact ⟨_, es', ep', hL, r'⟩) hok I.bare
theorem Inv.call {g' : Array GenState} {t' : Nat} {d' : Drawn} {ch : List Addr} (I : Inv X pins σ H s) (u : Un (frs X.stack) ch H H' s.heap h') (hok : HOk X.prog X.w H' h') (hg : AllBare g')
  (hch : ∀ b ∈ ch, (b ∈ X.ex ∨ X.s₀.heap.objs.size ≤ b) ∧ b ≠ X.env.locals ∧ (∀ x c, X.env.cells.lookup x = some c → c ≠ b) ∧ ∀ p ∈ X.pn ++ pins, p.1 ≠ b) :
  Inv X pins σ H' { s with heap := h', gens := g', drawn := d', toks := t' } := by
 obtain ⟨m, ⟨o, es, ep, ho, r⟩, _⟩ := id I.loc
 obtain ⟨sl, hL⟩ := u.any ho I.free fun z => (hch _ z).2.1 rfl
 exact I.step (ch := ch) hch (fun b o hL hb hc e n => u.keep b o e n (fun z => (List.mem_cons.mp (I.stkSub b z)).elim hL hb) hc) (fun b o _ _ hc e n => u.any e n hc) (fun b o hc e n => u.free b o e n hc) (fun b o hc e => u.there b o e hc) u.tups u.frzs u.tbls (fun m' hm => by
  obtain ⟨o', es', ep', ho', r'⟩ := hm
  rw [ho] at ho'; cases ho'
  exact ⟨_, es', ep', hL, r'⟩) hok hg
theorem Inv.turned {t' : Nat} {it : Addr} (I : Inv X pins σ H s) (k : ∀ b o, b ≠ it → s.heap.get? b = some o → h'.get? b = some o) (hn : H it = none) (hL : it ≠ X.env.locals)
  (h1 : it ∈ X.ex ∨ X.s₀.heap.objs.size ≤ it) (h2 : ∀ x c, X.env.cells.lookup x = some c → c ≠ it) (h3 : ∀ p ∈ X.pn ++ pins, p.1 ≠ it) : Inv X pins σ H { s with heap := h', toks := t' } := by
 have nit : ∀ b u, H b = some u → b ≠ it := fun b u e z => by rw [z, hn] at e; cases e
 refine I.step (g' := s.gens) (d' := s.drawn) (ch := [it]) (fun b hb => ?_) (fun b o _ _ hc e _ => k b o (fun z => hc (by simp [z])) e) (fun b o _ _ hc e _ => ⟨o.slots, k b o (fun z => hc (by simp [z])) e⟩) (fun _ _ _ _ n => n)
  (fun b o hc e => ⟨o, k b o (fun z => hc (by simp [z])) e⟩) (fun _ _ e => e) (fun _ _ _ e => e) (fun b ps e => ⟨#[], by rw [e]; simp⟩) (fun m hm => ?_) (fun b u e => ?_) I.bare
 ·have e : b = it := by simpa using hb
  subst e
  exact ⟨h1, hL, h2, h3⟩
 ·obtain ⟨o, es, ep, ho, r⟩ := hm
  exact ⟨o, es, ep, k _ o (Ne.symm hL) ho, r⟩
 ·refine (I.hok b u e).stay (fun c v hc q => k c v ?_ q) (fun _ q => q) fun _ _ q => q
  rcases hc with z | z
  ·rw [z]; exact nit b u e
  ·exact nit c _ z
theorem Inv.tok (I : Inv X pins σ H s) (t : Nat) : Inv X pins σ H { s with toks := t } := I.un (h' := s.heap) (t' := t) Un.refl I.hok
theorem Inv.kept {t' : Nat} (I : Inv X pins σ H s) (k : ∀ b u, s.heap.get? b = some u → h'.get? b = some u) : Inv X pins σ H { s with heap := h', toks := t' } := I.un (Un.kept k) (I.hok.kept k)
theorem Inv.laid {a : Addr} {o : HO} {t' : Nat} (I : Inv X pins σ H s) (k : ∀ b u, s.heap.get? b = some u → h'.get? b = some u) (hp : s.heap.objs.size ≤ a) (new : ObjOk X.prog X.w (upd H a o) h' a o) :
  Inv X pins σ (upd H a o) { s with heap := h', toks := t' } := I.un (Un.laid k hp (I.hok.fresh hp)) (I.hok.laid k hp new)
theorem Inv.write {x e : Addr} {o : HO} {t' : Nat} (I : Inv X pins σ H s) (mu : Mut (H x)) (he : e = x ∨ H e = some (.own x)) (k : ∀ b u, b ≠ e → s.heap.get? b = some u → h'.get? b = some u) (heo : ∃ u, h'.get? e = some u)
  (new : ObjOk X.prog X.w (upd H x o) h' x o) : Inv X pins σ (upd H x o) { s with heap := h', toks := t' } := I.un (Un.write mu he k heo) (I.hok.write mu he k heo new)
theorem Inv.pins_of {pins' : List (Addr × Obj)} (I : Inv X pins σ H s) (h : ∀ p ∈ pins', s.heap.get? p.1 = some p.2 ∧ H p.1 = none ∧ p.1 ≠ X.env.locals ∧ p.1 ∉ X.fs ∧ ∀ v, p.2.data ≠ .cell v) : Inv X pins' σ H s :=
 ⟨I.ok, I.os, I.bare, I.base, I.loc, I.cell, I.free, I.freeC, fun p hp => (List.mem_append.mp hp).elim (fun z => I.pin p (List.mem_append_left _ z)) (h p), I.hok, I.len⟩
theorem nodup_ix {N : List Str} (hN : N.Nodup) {i j : Nat} {x : Str} (a : N[i]? = some x) (b : N[j]? = some x) : i = j := by
 obtain ⟨h1, e1⟩ := List.getElem?_eq_some_iff.mp a
 obtain ⟨h2, e2⟩ := List.getElem?_eq_some_iff.mp b
 exact (List.getElem_inj hN).mp (e1.trans e2.symm)
theorem store_ok2 {M : Model} {A : Around} {E : Value → Shared → Prop} {i : Nat} {x : Str} {v : V} {u : Value} {Q : Unit → Shared → Prop} (I : Inv X pins σ H s) (hN : X.N.Nodup) (hi : X.N[i]? = some x) (hx : Loc X.env.scope x) (r : RelV v u)
    (h : ∀ s', Inv X pins (σ.set i (some v)) H s' → (∃ a, Heap.SameBut a s.heap s'.heap ∧ (a = X.env.locals ∨ X.env.cells.lookup x = some a)) → Q () s') (hf : X.fn x = true ∨ X.env.scope.names.lookup x = some .local := by first | exact .inl rfl | exact .inr rfl | assumption) : wpAny M A (storeName X.env x u) Q E s := by
  obtain ⟨m, hn, hl⟩ := id I.loc
  have hcls : (X.env.scope.kind == .class || (X.env.scope.kind == .module && X.env.locals != X.env.globals)) = false := by rw [I.ok.kind]; rfl
  have hiσ : i < σ.length := by rw [I.len]; exact (List.getElem?_eq_some_iff.mp hi).1
  have cne := I.cne
  have tracked : ∀ {a : Addr} {h' : Heap}, (∃ o, s.heap.get? a = some o ∧ H a = none) → Heap.SameBut a s.heap h' → HOk X.prog X.w H h' := fun {a h'} ha hs b ob e => by
    obtain ⟨_, _, hfree⟩ := ha
    refine (I.hok b ob e).stay (fun c w' hc q => (hs.2 c ?_).trans q) (fun _ q => q) fun _ _ q => q
    rintro rfl
    rcases hc with rfl | hc
    · rw [hfree] at e; cases e
    · rw [hfree] at hc; cases hc
  rcases hx with hk | hk
  · refine wpAny_storeName_local hk hn (fun h' hn' hs => ?_) hcls
    obtain ⟨oL, _, _, hoL, _⟩ := id hn
    refine h _ ⟨I.ok, I.os, I.bare, ⟨fun b o e n hb hx => ?_, fun b o e n hb hx => ?_, I.base.free, fun b o e hx => ?_, I.base.tups, I.base.frzs, I.base.tbls⟩, ⟨_, hn', fun j y v' e1 e2 e3 => ?_⟩, fun y c e => ?_, I.free, I.freeC, fun p hp => ?_, tracked ⟨oL, hoL, I.free⟩ hs, by simpa using I.len⟩ ⟨_, hs, .inl rfl⟩
    · exact (hs.2 b (Nat.ne_of_lt (Nat.lt_of_lt_of_le (Heap.lt_size e) I.ok.above))).trans (I.base.keep b o e n hb hx)
    · obtain ⟨sl, e1⟩ := I.base.slot b o e n hb hx
      exact ⟨sl, (hs.2 b (Nat.ne_of_lt (Nat.lt_of_lt_of_le (Heap.lt_size e) I.ok.above))).trans e1⟩
    · obtain ⟨o', e1⟩ := I.base.there b o e hx
      exact ⟨o', (hs.2 b (Nat.ne_of_lt (Nat.lt_of_lt_of_le (Heap.lt_size e) I.ok.above))).trans e1⟩
    · by_cases hj : j = i
      · subst hj
        rw [hi] at e1; cases e1
        rw [List.getElem?_set_self hiσ] at e2
        cases e2
        exact ⟨u, r, .inl ⟨hk, by simp⟩⟩
      · rw [List.getElem?_set_ne (Ne.symm hj)] at e2
        obtain ⟨u', r', q⟩ := hl j y v' e1 e2 e3
        refine ⟨u', r', ?_⟩
        rcases q with ⟨k, e⟩ | ⟨k, c, e, z⟩
        · refine .inl ⟨k, ?_⟩
          have : y ≠ x := fun e => hj (nodup_ix hN e1 (e ▸ hi))
          simp [this, e]
        · exact .inr ⟨k, c, e, z.sameBut hs (cne y c e)⟩
    · obtain ⟨w', z⟩ := I.cell y c e
      exact ⟨w', z.sameBut hs (cne y c e)⟩
    · obtain ⟨e, n, ne, nf, d⟩ := I.pin p hp
      exact ⟨(hs.2 p.1 ne).trans e, n, ne, nf, d⟩
  · have hfn : X.fn x = true := by
      rcases hf with z | z
      · exact z
      · rw [z] at hk; cases hk
    obtain ⟨c, hc⟩ := I.ok.has x (.inl hk)
    obtain ⟨w', z⟩ := I.cell x c hc
    refine wpAny_storeName_cell I.ok.kind hk hc z (fun h' hc' hs => ?_)
    obtain ⟨oc, hoc, hocd⟩ := id z
    refine h { s with heap := h' } ⟨I.ok, I.os, I.bare, ⟨fun b o e n hb hx => ?_, fun b o e n hb hx => ?_, I.base.free, fun b o e hx => ?_, I.base.tups, I.base.frzs, I.base.tbls⟩, ⟨m, hn.sameBut hs (Ne.symm (cne x c hc)), fun j y v' e1 e2 e3 => ?_⟩, fun y c' e => ?_, I.free, I.freeC, fun p hp => ?_, tracked ⟨oc, hoc, I.freeC x c hc⟩ hs, by simpa using I.len⟩ ⟨c, hs, .inr hc⟩
    · exact (hs.2 b (Nat.ne_of_lt (Nat.lt_of_lt_of_le (Heap.lt_size e) (I.ok.cab x c hfn hc)))).trans (I.base.keep b o e n hb hx)
    · obtain ⟨sl, e1⟩ := I.base.slot b o e n hb hx
      exact ⟨sl, (hs.2 b (Nat.ne_of_lt (Nat.lt_of_lt_of_le (Heap.lt_size e) (I.ok.cab x c hfn hc)))).trans e1⟩
    · obtain ⟨o', e1⟩ := I.base.there b o e hx
      exact ⟨o', (hs.2 b (Nat.ne_of_lt (Nat.lt_of_lt_of_le (Heap.lt_size e) (I.ok.cab x c hfn hc)))).trans e1⟩
    · by_cases hj : j = i
      · subst hj
        rw [hi] at e1; cases e1
        rw [List.getElem?_set_self hiσ] at e2
        cases e2
        exact ⟨u, r, .inr ⟨.inl hk, c, hc, hc'⟩⟩
      · rw [List.getElem?_set_ne (Ne.symm hj)] at e2
        obtain ⟨u', r', q⟩ := hl j y v' e1 e2 e3
        refine ⟨u', r', ?_⟩
        rcases q with q | ⟨k, c', e, z'⟩
        · exact .inl q
        · refine .inr ⟨k, c', e, z'.sameBut hs ?_⟩
          rintro rfl
          exact hj (nodup_ix hN e1 (I.ok.inj _ _ _ e hc ▸ hi))
    · by_cases hcc : c' = c
      · subst hcc; exact ⟨_, hc'⟩
      · obtain ⟨w2, z2⟩ := I.cell y c' e
        exact ⟨w2, z2.sameBut hs hcc⟩
    · obtain ⟨e, n, ne, nf, d⟩ := I.pin p hp
      refine ⟨(hs.2 p.1 ?_).trans e, n, ne, nf, d⟩
      intro q
      rw [q, hoc] at e
      have q' : oc = p.2 := Option.some.inj e
      exact d w' (by rw [← q']; exact hocd)
theorem store_ok {M : Model} {A : Around} {E : Value → Shared → Prop} {i : Nat} {x : Str} {v : V} {u : Value} {Q : Unit → Shared → Prop} (I : Inv X pins σ H s) (hN : X.N.Nodup) (hi : X.N[i]? = some x) (hx : Loc X.env.scope x) (r : RelV v u)
  (h : ∀ s', Inv X pins (σ.set i (some v)) H s' → Q () s') (hf : X.fn x = true ∨ X.env.scope.names.lookup x = some .local := by first | exact .inl rfl | exact .inr rfl | assumption) : wpAny M A (storeName X.env x u) Q E s :=
 store_ok2 I hN hi hx r (fun s' I' _ => h s' I') hf
theorem Inv.call' {s' : Shared} {ch : List Addr} (I : Inv X pins σ H s) (ho : s'.os = s.os) (u : Un (frs X.stack) ch H H' s.heap s'.heap) (hok : HOk X.prog X.w H' s'.heap) (hg : AllBare s'.gens)
  (hch : ∀ b ∈ ch, (b ∈ X.ex ∨ X.s₀.heap.objs.size ≤ b) ∧ b ≠ X.env.locals ∧ (∀ x c, X.env.cells.lookup x = some c → c ≠ b) ∧ ∀ p ∈ X.pn ++ pins, p.1 ≠ b) : Inv X pins σ H' s' := by
 obtain ⟨h', g', d', t', o'⟩ := s'
 have e : o' = s.os := ho
 subst e
 exact I.call (g' := g') (t' := t') (d' := d') u hok hg hch
end
abbrev XK := Value → Option Addr → Hp → Prop
abbrev St := List (Option V)
abbrev VK := V → Hp → Prop
abbrev TE := St → Hp → VK → Prop
abbrev TT := St → Hp → (Bool → Hp → Prop) → Prop
abbrev TA := St → Hp → (List V → Hp → Prop) → Prop
structure Ends where
 nx : St → Hp → Prop
 rt : VK
 bk : St → Hp → Prop := fun _ _ => False
 ct : St → Hp → Prop := fun _ _ => False
abbrev TS := Ends → St → Hp → Prop
def EP (X : Cx) (pins : List (Addr × Obj)) (σ : St) (Q : VK) (u : Value) (s' : Shared) : Prop := ∃ v H', Inv X pins σ H' s' ∧ RelV v u ∧ Q v H'
def TP (X : Cx) (pins : List (Addr × Obj)) (σ : St) (Q : Bool → Hp → Prop) (b : Bool) (s' : Shared) : Prop := ∃ H', Inv X pins σ H' s' ∧ Q b H'
def AP (X : Cx) (pins : List (Addr × Obj)) (σ : St) (Q : List V → Hp → Prop) (us : List Value) (s' : Shared) : Prop := ∃ vs H', Inv X pins σ H' s' ∧ Vals vs us ∧ Q vs H'
def SP (X : Cx) (pins : List (Addr × Obj)) (D : Ends) (f : Flow) (s' : Shared) : Prop :=
 match f with
 | .next => ∃ σ' H', Inv X pins σ' H' s' ∧ D.nx σ' H'
 | .brk => ∃ σ' H', Inv X pins σ' H' s' ∧ D.bk σ' H'
 | .cont => ∃ σ' H', Inv X pins σ' H' s' ∧ D.ct σ' H'
 | .ret u => ∃ v σ' H', Inv X pins σ' H' s' ∧ RelV v u ∧ D.rt v H'
def PE (X : Cx) (e : Expr) (t : TE) : Prop :=
 ∀ (pins : List (Addr × Obj)) (s : Shared) (σ : St) (H : Hp) (Q : VK), Inv X pins σ H s → t σ H Q → wpAny (model X.prog X.w) X.A (eval e X.env) (EP X pins σ Q) X.xe s
def PT (X : Cx) (e : Expr) (t : TT) : Prop :=
 ∀ (pins : List (Addr × Obj)) (s : Shared) (σ : St) (H : Hp) (Q : Bool → Hp → Prop), Inv X pins σ H s → t σ H Q → wpAny (model X.prog X.w) X.A (isTrue e X.env (eval e X.env)) (TP X pins σ Q) X.xe s
def PW (X : Cx) (e : Expr) (t : TT) : Prop :=
 ∀ (whole : Sem Value) (pins : List (Addr × Obj)) (s : Shared) (σ : St) (H : Hp) (Q : Bool → Hp → Prop), Inv X pins σ H s → t σ H Q → wpAny (model X.prog X.w) X.A (isTrue e X.env whole) (TP X pins σ Q) X.xe s
theorem PW.pt {X : Cx} {e : Expr} {t : TT} (h : PW X e t) : PT X e t := h _
def PA (X : Cx) (es : List Expr) (t : TA) : Prop :=
 ∀ (pos : Pos) (pins : List (Addr × Obj)) (s : Shared) (σ : St) (H : Hp) (Q : List V → Hp → Prop), Inv X pins σ H s → t σ H Q → wpAny (model X.prog X.w) X.A (spliced (backTo pos (starEach es X.env))) (AP X pins σ Q) X.xe s
def PS (X : Cx) (st : Stmt) (t : TS) : Prop :=
 ∀ (pins : List (Addr × Obj)) (s : Shared) (σ : St) (H : Hp) (D : Ends), Inv X pins σ H s → t D σ H → wpAny (model X.prog X.w) X.A (exec st X.env) (SP X pins D) X.xe s
def PSs (X : Cx) (st : List Stmt) (t : TS) : Prop :=
 ∀ (pins : List (Addr × Obj)) (s : Shared) (σ : St) (H : Hp) (D : Ends), Inv X pins σ H s → t D σ H → wpAny (model X.prog X.w) X.A (execs st X.env) (SP X pins D) X.xe s
theorem thn {α : Type} {t : Sem α} {Q Q' : α → Shared → Prop} {M : Model} {A : Around} {E : Value → Shared → Prop} {s : Shared} (h : wpAny M A t Q E s) (hQ : ∀ a s, Q a s → Q' a s) : wpAny M A t Q' E s := wpAny_mono h hQ fun _ _ x => x
end L2
namespace L2
open PySem PySem.Spec PyProof.Rows
section
variable {X : Cx}
def tVar (i : Nat) : TE := fun σ H Q => ∃ v, σ[i]? = some (some v) ∧ Q v H
def tC (v : V) : TE := fun _ H Q => Q v H
theorem pe_var {i : Nat} {x : Str} {pos : Pos} (hN : X.N[i]? = some x) (hv : Vis X.env.scope x) (hd : (x == ("__debug__" : Str)) = false := by decide) (hcd : (x == ("__classdict__" : Str)) = false := by decide) : PE X (.Name x pos) (tVar i) := by
 intro pins s σ H Q I h
 obtain ⟨v, e, h⟩ := h
 obtain ⟨m, hn, hl⟩ := I.loc
 obtain ⟨u, r, l⟩ := hl i x v hN e hv
 have fin : EP X pins σ Q u s := ⟨v, H, I, r, h⟩
 rcases l with ⟨hk, hm⟩ | ⟨hk, c, hc, hcell⟩
 ·exact wpAny_Name (wpAny_loadName_local I.ok.kind hk hn hm fin) hd
 ·rcases hk with hk | hk
  ·exact wpAny_Name (wpAny_loadName_cell I.ok.kind hk hc hcell fin) hd
  ·exact wpAny_Name (wpAny_loadName_free I.ok.kind hk hc hcell fin hcd) hd
theorem pe_int {i j pos} : PE X (.Constant (.int i) j pos) (tC (.int i)) := fun _ _ _ H _ I h => wpAny_Constant_int ⟨.int i, H, I.tok _, ⟨_, rfl⟩, h⟩
theorem pe_bl {b j pos} : PE X (.Constant (.bool b) j pos) (tC (.bl b)) := fun _ _ _ H _ I h => Constant_bool ⟨.bl b, H, I, rfl, h⟩
theorem pe_non {j pos} : PE X (.Constant .none j pos) (tC .non) := fun _ _ _ H _ I h => Constant_none ⟨.non, H, I, rfl, h⟩
theorem pe_str {x j pos} : PE X (.Constant (.str x) j pos) (tC (.str x)) := fun _ _ _ H _ I h => Calls.Constant_str ⟨.str x, H, I.tok _, ⟨_, rfl⟩, h⟩
def Gl (X : Cx) (x : Str) : Prop := X.env.kindOf x = some .globalImplicit
theorem ld_glob {E : Value → Shared → Prop} {pins : List (Addr × Obj)} {s : Shared} {σ : St} {H : Hp} {x : Str} {u : Value} {pos : Pos} {Q : Value → Shared → Prop} (I : Inv X pins σ H s) (hg : Gl X x) (hm : X.mg x = some u) (h : Q u s)
  (hd : (x == ("__debug__" : Str)) = false := by decide) : wpAny (model X.prog X.w) X.A (eval (.Name x pos) X.env) Q E s :=
 Calls.Name_function_global I.ok.kind hg (Calls.loadGlobal_global (by rw [I.ok.glob]; exact I.mod.glob.keeps I.bk) hm h) hd
theorem ld_blt {E : Value → Shared → Prop} {pins : List (Addr × Obj)} {s : Shared} {σ : St} {H : Hp} {x : Str} {u : Value} {pos : Pos} {Q : Value → Shared → Prop} (I : Inv X pins σ H s) (hg : Gl X x) (hm : X.mg x = none) (hv : bootBuiltins x = some u) (h : Q u s)
  (hn : x ≠ "__name__" := by decide) (hd : (x == ("__debug__" : Str)) = false := by decide) : wpAny (model X.prog X.w) X.A (eval (.Name x pos) X.env) Q E s := by
 obtain ⟨mb, h1, h2⟩ := I.mod.blt
 exact Calls.Name_function_global I.ok.kind hg (Calls.loadGlobal_builtin (by rw [I.ok.glob]; exact I.mod.glob.keeps I.bk) hm (by rw [I.ok.blt]; exact h1.keeps I.bk) ((h2 x hn).trans hv) h) hd
theorem pe_glob {x : Str} {v : V} {u : Value} {pos : Pos} (hg : Gl X x) (hm : X.mg x = some u) (r : RelV v u) (hd : (x == ("__debug__" : Str)) = false := by decide) : PE X (.Name x pos) (tC v) :=
 fun _ _ _ H _ I h => ld_glob I hg hm ⟨v, H, I, r, h⟩ hd
theorem pe_bltn {x : Str} {v : V} {u : Value} {pos : Pos} (hg : Gl X x) (hm : X.mg x = none) (hv : bootBuiltins x = some u) (r : RelV v u) (hn : x ≠ "__name__" := by decide) (hd : (x == ("__debug__" : Str)) = false := by decide) : PE X (.Name x pos) (tC v) :=
 fun _ _ _ H _ I h => ld_blt I hg hm hv ⟨v, H, I, r, h⟩ hn hd
variable {a b : Expr} {ta tb : TE} {pos : Pos}
def PC (X : Cx) (op : CmpOp) (a b : Expr) (t : TE) : Prop :=
 ∀ (pins : List (Addr × Obj)) (s : Shared) (σ : St) (H : Hp) (Q : VK), Inv X pins σ H s → t σ H Q →
  wpAny (model X.prog X.w) X.A (eval a X.env) (fun v s₁ => wpAny (model X.prog X.w) X.A (eval b X.env) (fun u s₂ => wpAny (model X.prog X.w) X.A (compareOp op v u) (EP X pins σ Q) X.xe s₂) X.xe s₁) X.xe s
def tB (t : TE) : TT := fun σ H Q => t σ H fun x H1 => ∃ c, x = .bl c ∧ Q c H1
theorem pt_cmp {op : CmpOp} {t : TE} (h : PC X op a b t) (h1 : behindInMarks op b = false := by first | exact nobehind _ (by decide) (by decide) | rfl) : PT X (.Compare a [op] [b] pos) (tB t) := by
 intro pins s σ H Q I hw
 refine wpAny_isTrue_Compare1 (thn (h pins s σ H _ I hw) fun v s1 h1 => thn h1 fun u s2 h2 => thn h2 fun c s3 ⟨x, H1, I1, r1, q1⟩ => ?_) h1
 obtain ⟨d, rfl, q⟩ := q1
 cases r1
 exact wpAny_truthy_bool ⟨H1, I1, q⟩
theorem pt_val {e : Expr} {t : TE} (h : PE X e t) (he : ∀ whole, isTrue e X.env whole = (do let v ← whole; standAt e.pos; holding [v] (truthy v)) := by intro _; rfl) : PT X e (tB t) := by
 intro pins s σ H Q I hw
 refine isTrue_plain (thn (h pins s σ H _ I hw) fun v s1 ⟨x, H1, I1, r1, q1⟩ => ?_) (he _)
 obtain ⟨d, rfl, q⟩ := q1
 cases r1
 exact wpAny_truthy_bool ⟨H1, I1, q⟩
variable {tA tB' : TT} {rest : List Expr}
def tAnd (t u : TT) : TT := fun σ H Q => t σ H fun c H1 => if c = true then u σ H1 Q else Q false H1
def tOr (t u : TT) : TT := fun σ H Q => t σ H fun c H1 => if c = true then Q true H1 else u σ H1 Q
def tNot (t : TT) : TT := fun σ H Q => t σ H fun c H1 => Q (!c) H1
theorem pw_and1 (ha : PT X a tA) : PW X (.BoolOp .And [a] pos) tA := by
 intro wh pins s σ H Q I h
 refine isTrue_and (thn (ha pins s σ H Q I h) fun c s1 e => ?_)
 cases c with
 | true => exact isTrue_and_nil e
 | false => exact e
theorem pw_or1 (ha : PT X a tA) : PW X (.BoolOp .Or [a] pos) tA := by
 intro wh pins s σ H Q I h
 refine isTrue_or (thn (ha pins s σ H Q I h) fun c s1 e => ?_)
 cases c with
 | false => exact isTrue_or_nil e
 | true => exact e
theorem pw_and (ha : PT X a tA) (hb : PW X (.BoolOp .And (b :: rest) pos) tB') : PW X (.BoolOp .And (a :: b :: rest) pos) (tAnd tA tB') := by
 intro wh pins s σ H Q I h
 refine isTrue_and (thn (ha pins s σ H _ I h) fun c s1 ⟨H1, I1, q1⟩ => ?_)
 cases c with
 | true => exact hb wh pins s1 σ H1 Q I1 q1
 | false => exact ⟨H1, I1, q1⟩
theorem pw_or (ha : PT X a tA) (hb : PW X (.BoolOp .Or (b :: rest) pos) tB') : PW X (.BoolOp .Or (a :: b :: rest) pos) (tOr tA tB') := by
 intro wh pins s σ H Q I h
 refine isTrue_or (thn (ha pins s σ H _ I h) fun c s1 ⟨H1, I1, q1⟩ => ?_)
 cases c with
 | true => exact ⟨H1, I1, q1⟩
 | false => exact hb wh pins s1 σ H1 Q I1 q1
theorem pt_not (ha : PT X a tA) : PT X (.UnaryOp .Not a pos) (tNot tA) := by
 intro pins s σ H Q I h
 exact isTrue_not (ha pins s σ H (fun c H1 => Q (!c) H1) I h)
def tAndV (ta tb : TE) : TE := fun σ H Q => ta σ H fun x H1 => ∃ c, x = .bl c ∧ if c = true then tb σ H1 Q else Q (.bl false) H1
def tNotV (ta : TE) : TE := fun σ H Q => ta σ H fun x H1 => ∃ c, x = .bl c ∧ Q (.bl (!c)) H1
theorem pe_one {op} {t : TE} (h : PE X a t) : PE X (.BoolOp op [a] pos) t := fun pins s σ H Q I hw => BoolOp_one (h pins s σ H Q I hw)
theorem pe_and (ha : PE X a ta) (hb : PE X (.BoolOp .And (b :: rest) pos) tb) : PE X (.BoolOp .And (a :: b :: rest) pos) (tAndV ta tb) := by
 intro pins s σ H Q I h
 refine BoolOp_and (thn (ha pins s σ H _ I h) fun v s1 ⟨x, H1, I1, r1, q1⟩ => ?_)
 obtain ⟨c, rfl, q1⟩ := q1
 cases r1
 refine wpAny_truthy_bool ?_
 cases c with
 | true => exact hb pins s1 σ H1 Q I1 q1
 | false => exact ⟨.bl false, H1, I1, rfl, q1⟩
theorem pe_not (ha : PE X a ta) : PE X (.UnaryOp .Not a pos) (tNotV ta) := by
 intro pins s σ H Q I h
 refine UnaryOp_ (thn (ha pins s σ H _ I h) fun v s1 ⟨x, H1, I1, r1, q1⟩ => ?_)
 obtain ⟨c, rfl, q1⟩ := q1
 cases r1
 exact not_of (wpAny_truthy_bool ⟨.bl (!c), H1, I1, rfl, q1⟩)
def tIf (t : TT) (ta tb : TE) : TE := fun σ H Q => t σ H fun c H1 => if c = true then ta σ H1 Q else tb σ H1 Q
theorem pe_ifExp {c : Expr} (hc : PT X c tA) (ha : PE X a ta) (hb : PE X b tb) : PE X (.IfExp c a b pos) (tIf tA ta tb) := by
 intro pins s σ H Q I h
 refine wpAny_IfExp (thn (hc pins s σ H _ I h) fun d s1 ⟨H1, I1, q1⟩ => ?_)
 cases d with
 | true => exact ha pins s1 σ H1 Q I1 q1
 | false => exact hb pins s1 σ H1 Q I1 q1
end
end L2
namespace L2
open PySem PySem.Spec PyProof.Rows
def SqL (K : PySem.W.Frag) (H : Hp) (a : Addr) (xs : List V) : Prop :=
 Rd H a (.lst xs) ∨
  ∃ (o : Obj) (its : Array Value) (n : Nat), K.lookup a = some o ∧ o.cls = .type "list" ∧ o.dict = none ∧ o.data = .seq its n ∧ its.size ≤ sizeLine ∧ Vals xs its.toList
def SqT (K : PySem.W.Frag) (H : Hp) (a : Addr) (xs : List V) : Prop :=
 Rd H a (.tup xs) ∨
  ∃ (o : Obj) (its : Array Value) (n : Nat), K.lookup a = some o ∧ o.cls = .type "tuple" ∧ o.data = .seq its n ∧ its.size ≤ sizeLine ∧ Vals xs its.toList
def absV : Value → Option V
 | .none => some .non
 | .bool b => some (.bl b)
 | .int i _ => some (.int i)
 | .str x _ => some (.str x)
 | .bytes b _ => some (.byt b)
 | .float b _ => some (.flt b)
 | .ref a => some (.ref a)
 | .type n => some (.ty n)
 | _ => none
theorem RelV.abs {x : V} {u : Value} (r : RelV x u) : absV u = some x := by
 cases x with
 | non => cases r; rfl
 | bl _ => cases r; rfl
 | int _ => obtain ⟨t, rfl⟩ := r; rfl
 | str _ => obtain ⟨t, rfl⟩ := r; rfl
 | byt _ => obtain ⟨t, rfl⟩ := r; rfl
 | flt _ => obtain ⟨t, rfl⟩ := r; rfl
 | ref _ => cases r; rfl
 | ty _ => cases r; rfl
theorem RelV.inj {x y : V} {u : Value} (r : RelV x u) (q : RelV y u) : x = y := Option.some.inj (r.abs.symm.trans q.abs)
theorem Vals.inj : ∀ {xs ys : List V} {us : List Value}, Vals xs us → Vals ys us → xs = ys
 | _, _, _, .nil, .nil => rfl
 | _, _, _, .cons r t, .cons r' t' => by rw [r.inj r', Vals.inj t t']
section
variable {X : Cx} {pins : List (Addr × Obj)} {σ : St} {H : Hp} {s : Shared} {a : Addr} {xs ys : List V}
theorem SqL.of {K : PySem.W.Frag} (h : H a = some (.lst xs)) : SqL K H a xs := .inl (.inl h)
theorem SqT.of {K : PySem.W.Frag} (h : H a = some (.tup xs)) : SqT K H a xs := .inl (.inl h)
theorem Inv.list (I : Inv X pins σ H s) (h : SqL X.K H a xs) : ∃ its : List Value, Vals xs its ∧ PlainL s.heap a its.toArray ∧ xs.length ≤ sizeLine := by
 rcases h with h | ⟨o, its, n, hk, hc, hd, hs, hz, r⟩
 ·obtain ⟨z, its, n, r, e⟩ := h.ok I.hok
  exact ⟨its, r, ⟨_, n, e, rfl, rfl, rfl⟩, z⟩
 ·refine ⟨its.toList, r, ⟨o, n, I.kIn a o hk, hc, hd, by simpa using hs⟩, ?_⟩
  have e := r.length
  simp only [Array.length_toList] at e
  omega
theorem Inv.tuple (I : Inv X pins σ H s) (h : SqT X.K H a xs) : ∃ its : List Value, Vals xs its ∧ IsTup s.heap a its.toArray ∧ xs.length ≤ sizeLine := by
 rcases h with h | ⟨o, its, n, hk, hc, hs, hz, r⟩
 ·obtain ⟨z, its, r, p⟩ := h.ok I.hok
  exact ⟨its, r, p, z⟩
 ·refine ⟨its.toList, r, ⟨o, I.kIn a o hk, hc, n, by simpa using hs⟩, ?_⟩
  have e := r.length
  simp only [Array.length_toList] at e
  omega
theorem Inv.list_inj (I : Inv X pins σ H s) (h : SqL X.K H a xs) (h' : SqL X.K H a ys) : xs = ys := by
 obtain ⟨its, r, ⟨o, n, e, _, _, d⟩, _⟩ := I.list h
 obtain ⟨its', r', ⟨o', n', e', _, _, d'⟩, _⟩ := I.list h'
 rw [e] at e'; cases e'
 rw [d] at d'
 injection d' with d1 _
 have : its = its' := by simpa using congrArg Array.toList d1
 subst this
 exact r.inj r'
theorem Inv.tuple_inj (I : Inv X pins σ H s) (h : SqT X.K H a xs) (h' : SqT X.K H a ys) : xs = ys := by
 obtain ⟨its, r, ⟨o, e, _, n, d⟩, _⟩ := I.tuple h
 obtain ⟨its', r', ⟨o', e', _, n', d'⟩, _⟩ := I.tuple h'
 rw [e] at e'; cases e'
 rw [d] at d'
 injection d' with d1 _
 have : its = its' := by simpa using congrArg Array.toList d1
 subst this
 exact r.inj r'
end
abbrev Cx.wish (X : Cx) (E : Value → Shared → Prop) : Cx := { X with xe := E }
abbrev Cx.nox (X : Cx) : Cx := X.wish fun _ _ => False
theorem Cx.Ok.wish {X : Cx} (ok : X.Ok) (E : Value → Shared → Prop) : (X.wish E).Ok :=
 ⟨ok.mod, ok.kind, ok.glob, ok.blt, ok.above, ok.inj, ok.has, ok.cab, ok.hd, ok.frames, ok.stk, ok.exf, ok.bs, ok.bsz, ok.noex, ok.exfs, ok.funs, ok.frf⟩
theorem Cx.Ok.unwish {X : Cx} {E : Value → Shared → Prop} (ok : (X.wish E).Ok) : X.Ok :=
 ⟨ok.mod, ok.kind, ok.glob, ok.blt, ok.above, ok.inj, ok.has, ok.cab, ok.hd, ok.frames, ok.stk, ok.exf, ok.bs, ok.bsz, ok.noex, ok.exfs, ok.funs, ok.frf⟩
section
variable {X : Cx} {pins : List (Addr × Obj)} {σ : St} {H : Hp} {s : Shared} {E : Value → Shared → Prop}
theorem Inv.wish (I : Inv X pins σ H s) (E : Value → Shared → Prop) : Inv (X.wish E) pins σ H s := ⟨I.ok.wish E, I.os, I.bare, I.base, I.loc, I.cell, I.free, I.freeC, I.pin, I.hok, I.len⟩
theorem Inv.unwish (I : Inv (X.wish E) pins σ H s) : Inv X pins σ H s := ⟨I.ok.unwish, I.os, I.bare, I.base, I.loc, I.cell, I.free, I.freeC, I.pin, I.hok, I.len⟩
theorem SP.unwish {D : Ends} {f : Flow} {s' : Shared} (h : SP (X.wish E) pins D f s') : SP X pins D f s' := by
 cases f with
 | next => obtain ⟨σ', H', I, q⟩ := h; exact ⟨σ', H', I.unwish, q⟩
 | brk => obtain ⟨σ', H', I, q⟩ := h; exact ⟨σ', H', I.unwish, q⟩
 | cont => obtain ⟨σ', H', I, q⟩ := h; exact ⟨σ', H', I.unwish, q⟩
 | ret u => obtain ⟨v, σ', H', I, r, q⟩ := h; exact ⟨v, σ', H', I.unwish, r, q⟩
theorem PSs.nox {st : List Stmt} {t : TS} (h : PSs X.nox st t) : PSs X st t := fun pins s σ H D I hw =>
 wpAny_mono (h pins s σ H D (I.wish _) hw) (fun _ _ q => q.unwish) fun _ _ z => False.elim z
end
section
variable {X : Cx} {st : Stmt} {rest : List Stmt} {t u : TS} {e : Expr} {te : TE} {pos : Pos}
def tNext : TS := fun D σ H => D.nx σ H
def tSeq (t u : TS) : TS := fun D σ H => t { D with nx := u D } σ H
theorem pss_nil : PSs X [] tNext := fun _ _ σ H _ I h => wpAny_execs_nil ⟨σ, H, I, h⟩
theorem pss_cons (h1 : PS X st t) (h2 : PSs X rest u) : PSs X (st :: rest) (tSeq t u) := by
 intro pins s σ H D I h
 refine wpAny_execs_cons (thn (h1 pins s σ H { D with nx := u D } I h) fun f s1 q => ?_)
 cases f with
 | next =>
  obtain ⟨σ', H', I', q⟩ := q
  exact h2 pins s1 σ' H' D I' q
 | ret v => exact q
 | brk => exact q
 | cont => exact q
theorem pss_one (h1 : PS X st t) : PSs X [st] t := by
 intro pins s σ H D I h
 refine wpAny_execs_cons (thn (h1 pins s σ H D I h) fun f s1 q => ?_)
 cases f with
 | next => exact wpAny_execs_nil q
 | ret v => exact q
 | brk => exact q
 | cont => exact q
theorem Inv.quiet {pins : List (Addr × Obj)} {σ : St} {H : Hp} {s : Shared} (I : Inv X pins σ H s) : interactive X.env = false := by simp [interactive, I.ok.kind]
def tDrop (te : TE) : TS := fun D σ H => te σ H fun _ H1 => D.nx σ H1
theorem ps_expr (he : PE X e te) (hs : swapsWith e none pos.line X.env = pure false := by rfl) : PS X (.Expr e pos) (tDrop te) := by
 intro pins s σ H D I h
 exact wpAny_Expr_any (thn (he pins s σ H _ I h) fun v s1 ⟨x, H1, I1, r1, q1⟩ => ⟨σ, H1, I1, q1⟩) I.quiet hs
def tRet (te : TE) : TS := fun D σ H => te σ H D.rt
theorem ps_ret (he : PE X e te) : PS X (.Return (some e) pos) (tRet te) := by
 intro pins s σ H D I h
 exact wpAny_Return_some (thn (he pins s σ H _ I h) fun v s1 ⟨x, H1, I1, r1, q1⟩ => ⟨x, σ, H1, I1, r1, q1⟩)
def tIfS (c : TT) (t u : TS) : TS := fun D σ H => c σ H fun b H1 => if b = true then t D σ H1 else u D σ H1
theorem ps_if {c : Expr} {a b : List Stmt} {tc : TT} (hc : PT X c tc) (ha : PSs X a t) (hb : PSs X b u) : PS X (.If c a b pos) (tIfS tc t u) := by
 intro pins s σ H D I h
 refine wpAny_If (thn (hc pins s σ H _ I h) fun d s1 ⟨H1, I1, q1⟩ => ?_)
 cases d with
 | true => exact ha pins s1 σ H1 D I1 q1
 | false => exact hb pins s1 σ H1 D I1 q1
end
abbrev TG := V → St → Hp → (St → Hp → Prop) → Prop
abbrev TGs := List V → St → Hp → (St → Hp → Prop) → Prop
def PG (X : Cx) (target : Expr) (t : TG) : Prop :=
 ∀ (pins : List (Addr × Obj)) (s : Shared) (σ : St) (H : Hp) (v : V) (u : Value) (Q : St → Hp → Prop), Inv X pins σ H s → RelV v u → t v σ H Q →
  wpAny (model X.prog X.w) X.A (assign target X.env u) (fun _ s' => ∃ σ' H', Inv X pins σ' H' s' ∧ Q σ' H') X.xe s
def PGs (X : Cx) (ts : List Expr) (t : TGs) : Prop :=
 ∀ (pins : List (Addr × Obj)) (s : Shared) (σ : St) (H : Hp) (vs : List V) (us : List Value) (Q : St → Hp → Prop), Inv X pins σ H s → Vals vs us → t vs σ H Q →
  wpAny (model X.prog X.w) X.A (assignInOrder ((assignEach ts X.env).map (·.2)) us) (fun _ s' => ∃ σ' H', Inv X pins σ' H' s' ∧ Q σ' H') X.xe s
abbrev TIp := V → V → Hp → VK → Prop
def PIp (X : Cx) (op : Operator) (t : TIp) : Prop :=
 ∀ (pins : List (Addr × Obj)) (s : Shared) (σ : St) (H : Hp) (x y : V) (v u : Value) (Q : VK), Inv X pins σ H s → RelV x v → RelV y u → t x y H Q →
  wpAny (model X.prog X.w) X.A (inplaceOp op v u) (EP X pins σ Q) X.xe s
section
variable {X : Cx} {pos : Pos}
def gName (i : Nat) : TG := fun v σ H Q => Q (σ.set i (some v)) H
theorem pg_name {i : Nat} {x : Str} (hN : X.N.Nodup) (hi : X.N[i]? = some x) (hx : Loc X.env.scope x) (hf : X.fn x = true ∨ X.env.scope.names.lookup x = some .local := by first | exact .inl rfl | exact .inr rfl | assumption) : PG X (.Name x pos) (gName i) := by
 intro pins s σ H v u Q I r h
 exact wpAny_assign_Name (store_ok I hN hi hx r (fun s' I' => ⟨_, H, I', h⟩) hf)
def gNil : TGs := fun vs σ H Q => vs = [] ∧ Q σ H
def gCons (t : TG) (u : TGs) : TGs := fun vs σ H Q => ∃ v r, vs = v :: r ∧ t v σ H fun σ' H' => u r σ' H' Q
theorem pgs_nil : PGs X [] gNil := by
 intro pins s σ H vs us Q I r h
 obtain ⟨e, h⟩ := h
 subst e
 cases r
 exact assignInOrder_nil ⟨σ, H, I, h⟩
theorem pgs_cons {e : Expr} {es : List Expr} {t : TG} {u : TGs} (h1 : PG X e t) (h2 : PGs X es u)
  (hs : (assignEach (e :: es) X.env).map (·.2) = assign e X.env :: (assignEach es X.env).map (·.2) := by rfl) : PGs X (e :: es) (gCons t u) := by
 intro pins s σ H vs us Q I r h
 obtain ⟨v, vr, e1, h⟩ := h
 subst e1
 cases r with
 | cons r rr =>
  rw [hs]
  refine assignInOrder_cons (thn (h1 pins s σ H _ _ _ I r h) fun _ s1 ⟨σ1, H1, I1, q1⟩ => ?_)
  exact h2 pins s1 σ1 H1 _ _ Q I1 rr q1
def gTup (K : PySem.W.Frag) (n : Nat) (t : TGs) : TG := fun v σ H Q => ∃ a xs, v = .ref a ∧ SqT K H a xs ∧ xs.length = n ∧ t xs σ H Q
theorem pg_tup {es : List Expr} {k : Nat} {t : TGs} {n : Nat} (hc : X.calm = true) (h : PGs X es t)
  (hn : (assignEach es X.env).length = n := by rfl) (hst : (assignEach es X.env).findIdx? (·.1) = none := by rfl) : PG X (.Tuple es k pos) (gTup X.K n t) := by
 intro pins s σ H v u Q I r hw
 obtain ⟨a, xs, e1, hq, hl, hw⟩ := hw
 subst e1
 cases r
 obtain ⟨its, rv, ht, hz⟩ := I.tuple hq
 refine assign_Tuple_tuple (I.ok.hd hc) ht (by simp [hn, ← hl, rv.length]) hst fun h' hx => ?_
 have I1 : Inv X pins σ H { s with heap := h' } := I.kept (t' := s.toks) fun b o e => hx b o (Nat.ne_of_lt (Heap.lt_size e)) e
 exact h pins _ σ H xs _ Q I1 (by simpa using rv) hw
def tAsg (te : TE) (g : TG) : TS := fun D σ H => te σ H fun x H1 => g x σ H1 D.nx
theorem ps_asg {tg e : Expr} {te : TE} {g : TG} (he : PE X e te) (hg : PG X tg g) (hs : swapsWithSole [tg] e pos.line X.env = pure false := by rfl) (hw : swappedStores [tg] e X.env = pure none := by rfl)
  (h1 : (assignEach [tg] X.env).map (·.2) = [assign tg X.env] := by rfl) : PS X (.Assign [tg] e pos) (tAsg te g) := by
 intro pins s σ H D I h
 refine wpAny_Assign_stores (thn (he pins s σ H _ I h) fun v s1 ⟨x, H1, I1, r1, q1⟩ => ?_) hs hw
 rw [h1]
 exact thn (hg pins s1 σ H1 x v _ I1 r1 q1) fun _ s2 q => q
theorem ps_set {i : Nat} {x : Str} {e : Expr} {te : TE} {pos' : Pos} (hN : X.N.Nodup) (hi : X.N[i]? = some x) (hx : Loc X.env.scope x) (he : PE X e te) (hs : swapsWith e (some (.Name x pos')) pos.line X.env = pure false := by rfl) (hf : X.fn x = true ∨ X.env.scope.names.lookup x = some .local := by first | exact .inl rfl | exact .inr rfl | assumption) :
  PS X (.Assign [.Name x pos'] e pos) (tAsg te (gName i)) := by
 intro pins s σ H D I h
 refine wpAny_Assign_Name (thn (he pins s σ H _ I h) fun v s1 ⟨y, H1, I1, r1, q1⟩ => ?_) hs
 exact store_ok I1 hN hi hx r1 (fun s2 I2 => ⟨_, H1, I2, q1⟩) hf
def tAug (i : Nat) (te : TE) (ti : TIp) : TS := fun D σ H => ∃ x, σ[i]? = some (some x) ∧ te σ H fun y H1 => ti x y H1 fun z H2 => D.nx (σ.set i (some z)) H2
theorem ps_aug {i : Nat} {x : Str} {e : Expr} {te : TE} {op : Operator} {ti : TIp} {pos' : Pos} (hN : X.N.Nodup) (hi : X.N[i]? = some x) (hx : Loc X.env.scope x) (he : PE X e te) (ho : PIp X op ti) (hf : X.fn x = true ∨ X.env.scope.names.lookup x = some .local := by first | exact .inl rfl | exact .inr rfl | assumption) :
  PS X (.AugAssign (.Name x pos') op e pos) (tAug i te ti) := by
 intro pins s σ H D I h
 obtain ⟨v, e1, h⟩ := h
 obtain ⟨m, hn, hl⟩ := I.loc
 have vis : Vis X.env.scope x := by rcases hx with k | k; exact .inl k; exact .inr (.inl k)
 obtain ⟨u, r, l⟩ := hl i x v hi e1 vis
 refine wpAny_AugAssign_Name ?_
 have go : wpAny (model X.prog X.w) X.A (eval e X.env) (fun w s₂ => wpAny (model X.prog X.w) X.A (inplaceOp op u w) (fun r s₃ => wpAny (model X.prog X.w) X.A (storeName X.env x r) (fun _ => SP X pins D .next) X.xe s₃) X.xe s₂) X.xe s := by
  refine thn (he pins s σ H _ I h) fun w s1 ⟨y, H1, I1, r1, q1⟩ => ?_
  refine thn (ho pins s1 σ H1 v y u w _ I1 r r1 q1) fun z s2 ⟨zv, H2, I2, r2, q2⟩ => ?_
  exact store_ok I2 hN hi hx r2 (fun s3 I3 => ⟨_, H2, I3, q2⟩) hf
 rcases l with ⟨hk, hm⟩ | ⟨hk, c, hc, hcell⟩
 ·exact wpAny_loadName_local I.ok.kind hk hn hm go
 ·rcases hk with hk | hk
  ·exact wpAny_loadName_cell I.ok.kind hk hc hcell go
  ·rcases hx with k | k
   ·have : X.env.scope.names.lookup x = some .free := hk
    rw [k] at this; cases this
   ·have : X.env.scope.names.lookup x = some .free := hk
    rw [k] at this; cases this
def ipI (f : Int → Int → Int) : TIp := fun x y H Q => ∃ i j, x = .int i ∧ y = .int j ∧ Q (.int (f i j)) H
theorem ip_add : PIp X .Add (ipI fun i j => i + j) := by
 intro pins s σ H x y v u Q I r1 r2 h
 obtain ⟨i, j, e1, e2, q⟩ := h
 subst e1; subst e2
 obtain ⟨t, rfl⟩ := r1
 obtain ⟨t', rfl⟩ := r2
 exact iadd_int ⟨.int _, H, I.tok _, ⟨_, rfl⟩, q⟩
end
section
variable {X : Cx} {pos : Pos}
def tWhile (c : TT) (tb : TS) : TS := fun D σ H => ∃ W : Nat → St → Hp → Prop, (∃ m, W m σ H) ∧ ∀ m σ H, W m σ H →
 c σ H fun b H1 => if b = true then ∃ N : St → Hp → Prop, (∀ σ' H', N σ' H' → ∃ m', m' < m ∧ W m' σ' H') ∧ tb { D with nx := N, ct := N, bk := D.nx } σ H1 else D.nx σ H1
theorem ps_while {c : Expr} {body : List Stmt} {tc : TT} {tb : TS} (hp : PassesOwn (model X.prog X.w) X.A X.env X.xe) (hc : PT X c tc) (hb : PSs X body tb) : PS X (.While c body [] pos) (tWhile tc tb) := by
 intro pins s σ H D I h
 obtain ⟨W, ⟨m0, w0⟩, turn⟩ := h
 refine wpAny_While (codeAny_whileLoop (fun n s' => ∃ σ' H', Inv X pins σ' H' s' ∧ W n σ' H') ?_ m0 ⟨σ, H, I, w0⟩)
 rintro n s1 ⟨σ1, H1, I1, w1⟩
 refine wpAny_passesOwn hp (thn (hc pins s1 σ1 H1 _ I1 (turn n σ1 H1 w1)) fun b s2 ⟨H2, I2, q2⟩ => ?_)
 cases b with
 | true =>
  obtain ⟨N, hN, q2⟩ := q2
  rw [if_pos rfl]
  refine wpAny_passesOwn hp (thn (hb pins s2 σ1 H2 _ I2 q2) fun f s3 q3 => ?_)
  cases f with
  | next =>
   obtain ⟨σ3, H3, I3, n3⟩ := q3
   obtain ⟨m', hm, w3⟩ := hN σ3 H3 n3
   exact ⟨m', hm, σ3, H3, I3, w3⟩
  | cont =>
   obtain ⟨σ3, H3, I3, n3⟩ := q3
   obtain ⟨m', hm, w3⟩ := hN σ3 H3 n3
   exact ⟨m', hm, σ3, H3, I3, w3⟩
  | brk => exact q3
  | ret v => exact q3
 | false =>
  rw [if_neg Bool.false_ne_true]
  exact wpAny_execs_nil ⟨σ1, H2, I2, q2⟩
end
structure It where
 go : Nat → Hp → Prop
 yld : Nat → Hp → V → Hp → Prop
 stop : Nat → Hp → Prop
def FpOk (X : Cx) (pins : List (Addr × Obj)) (H : Hp) (b : Addr) : Prop :=
 H b = none ∧ b ≠ X.env.locals ∧ b ∉ X.fs ∧ (b ∈ X.ex ∨ X.s₀.heap.objs.size ≤ b) ∧ (∀ x c, X.env.cells.lookup x = some c → c ≠ b) ∧ ∀ p ∈ X.pn ++ pins, p.1 ≠ b
theorem Inv.fpOk {X : Cx} {pins : List (Addr × Obj)} {σ : St} {H H' : Hp} {s : Shared} {b : Addr} (I : Inv X pins σ H s) (hb : s.heap.objs.size ≤ b) (hn : H' b = none) : FpOk X pins H' b := by
 refine ⟨hn, Nat.ne_of_gt (Nat.lt_of_lt_of_le I.lt hb), I.nofs hb, .inr (Nat.le_trans I.sz hb), fun x c e z => ?_, fun p hp z => ?_⟩
 ·obtain ⟨v, q⟩ := I.cell x c e
  exact absurd (Nat.lt_of_lt_of_le q.lt (by rw [z]; exact hb)) (Nat.lt_irrefl _)
 ·exact absurd (Nat.lt_of_lt_of_le (Heap.lt_size (I.pin p hp).1) (by rw [z]; exact hb)) (Nat.lt_irrefl _)
structure Turn (P : Program) (w : World) (K : PySem.W.Frag) (tg : Expr) (J : It) (fp : List Addr) (it : Addr) (tn : Nat → Heap → Prop) : Prop where
 mem : it ∈ fp
 obj : ∀ i h, tn i h → ∀ b ∈ fp, ∃ o, h.get? b = some o ∧ ∀ v, o.data ≠ .cell v
 keep : ∀ i h h', tn i h → (∀ b ∈ fp, ∀ o, h.get? b = some o → h'.get? b = some o) → tn i h'
 item : ∀ (X : Cx), X.prog = P → X.w = w → X.K = K → X.calm = true → ∀ (i : Nat) (pins : List (Addr × Obj)) (s : Shared) (σ : St) (H : Hp) (E : Value → Shared → Prop), Inv X pins σ H s → (∀ b ∈ fp, FpOk X pins H b) → tn i s.heap → J.go i H →
  wpAny (model P w) X.A (pyNext (.ref it)) (fun r s1 => ∃ u, r = some u ∧
   wpAny (model P w) X.A (letOwnedTupleGo tg (.ref it) u) (fun _ s2 => ∃ x H', Inv X pins σ H' s2 ∧ RelV x u ∧ J.yld i H x H' ∧ tn (i + 1) s2.heap ∧ ∀ b ∈ fp, H' b = none) E s1) E s
 done : ∀ (X : Cx), X.prog = P → X.w = w → X.K = K → X.calm = true → ∀ (i : Nat) (pins : List (Addr × Obj)) (s : Shared) (σ : St) (H : Hp) (E : Value → Shared → Prop), Inv X pins σ H s → (∀ b ∈ fp, FpOk X pins H b) → tn i s.heap → J.stop i H →
  wpAny (model P w) X.A (pyNext (.ref it)) (fun r s1 => r = none ∧ Inv X pins σ H s1) E s
 self : ∀ (A : Around) (i : Nat) (s : Shared) (Q : Value → Shared → Prop) (E : Value → Shared → Prop), tn i s.heap → Q (.ref it) s → wpAny (model P w) A (pyIter (.ref it)) Q E s
abbrev TI := St → Hp → (It → Hp → Prop) → Prop
def PIE (X : Cx) (pins : List (Addr × Obj)) (σ : St) (tg : Expr) (R : It → Hp → Prop) (itv : Value) (s2 : Shared) : Prop :=
 ∃ (it : Addr) (fp : List Addr) (tn : Nat → Heap → Prop) (J : It) (H' : Hp), itv = .ref it ∧ Inv X pins σ H' s2 ∧ Turn X.prog X.w X.K tg J fp it tn ∧ tn 0 s2.heap ∧ (∀ b ∈ fp, FpOk X pins H' b) ∧ R J H'
def PI (X : Cx) (tg iter : Expr) (wi : TI) : Prop :=
 ∀ (pins : List (Addr × Obj)) (s : Shared) (σ : St) (H : Hp) (R : It → Hp → Prop), Inv X pins σ H s → wi σ H R →
  wpAny (model X.prog X.w) X.A (eval iter X.env) (fun v s1 => wpAny (model X.prog X.w) X.A (pyIter v) (PIE X pins σ tg R) X.xe s1) X.xe s
theorem go_of {M : Model} {A : Around} {E : Value → Shared → Prop} {s : Shared} {tg : Expr} {it : Addr} {u : Value} {o : Obj} {n : String} {vs : Array Value} {Q : Unit → Shared → Prop} (ho : s.heap.get? it = some o) (hc : o.cls = .type n) (hd : o.data = .fields vs)
    (hn : ["enumerate", "zip", "dict_itemiterator", "dict_reverseitemiterator", "odict_iterator", "itertools.zip_longest", "itertools.pairwise"].contains n = false) (hQ : Q () s) : wpAny M A (letOwnedTupleGo tg (.ref it) u) Q E s := by
  unfold letOwnedTupleGo
  cases tg <;> first
    | exact wpAny_pure hQ
    | (cases u <;> first
        | exact wpAny_pure hQ
        | (refine wpAny_bind (wpAny_load ho ?_)
           rw [hc, hd]
           show wpAny M A (if (["enumerate", "zip", "dict_itemiterator", "dict_reverseitemiterator", "odict_iterator", "itertools.zip_longest", "itertools.pairwise"].contains n && vs[0]? == some (rawInt _)) = true then _ else _) Q E s
           rw [if_neg (by intro h; rw [hn, Bool.false_and] at h; cases h)]
           exact wpAny_pure hQ))
def Itl (K : PySem.W.Frag) (a : Addr) : It :=
 ⟨fun i H => ∃ xs x, SqL K H a xs ∧ xs[i]? = some x, fun i H x H' => H' = H ∧ ∀ xs, SqL K H a xs → xs[i]? = some x, fun i H => ∃ xs, SqL K H a xs ∧ xs.length ≤ i⟩
def Itr (lo : Int) (n : Nat) : It := ⟨fun i _ => i < n, fun i H x H' => H' = H ∧ x = .int (lo + i), fun i _ => n ≤ i⟩
theorem turn_list {P : Program} {w : World} {K : PySem.W.Frag} {tg : Expr} (a it : Addr) : Turn P w K tg (Itl K a) [it] it (fun i h => h.IsListIter it a i) where
 mem := by simp
 obj := fun i h st b hb => by
  have e : b = it := by simpa using hb
  subst e
  obtain ⟨o, e, c, d⟩ := st
  exact ⟨o, e, fun v z => by rw [d] at z; cases z⟩
 keep := fun i h h' st k => st.at fun o e => k it (by simp) o e
 item := by
  intro X hP hw hK hc i pins s σ H E I hf st hg
  subst hP hw hK
  obtain ⟨xs, x, hq, hx⟩ := hg
  obtain ⟨its, rv, p, hz⟩ := I.list hq
  obtain ⟨u, hu, ru⟩ := rv.get hx
  obtain ⟨f0, f1, f2, f3, f4, f5⟩ := hf it (by simp)
  refine wpAny_pyNext_list_item st p.isList (x := u) (by simpa using hu) fun h' st' sb => ?_
  have I1 : Inv X pins σ H { s with heap := h' } := I.turned (t' := s.toks) (fun b o hb e => (sb.2 b hb).trans e) f0 f1 f3 f4 f5
  obtain ⟨o, e, c, d⟩ := id st'
  exact ⟨u, rfl, go_of (s := { s with heap := h' }) e c d (by decide) ⟨x, H, I1, ru, ⟨rfl, fun ys hy => by rw [I.list_inj hy hq]; exact hx⟩, st', fun b hb => (hf b hb).1⟩⟩
 done := by
  intro X hP hw hK hc i pins s σ H E I hf st hg
  subst hP hw hK
  obtain ⟨xs, hq, hx⟩ := hg
  obtain ⟨its, rv, p, hz⟩ := I.list hq
  obtain ⟨f0, f1, f2, f3, f4, f5⟩ := hf it (by simp)
  have hl := rv.length
  exact wpAny_pyNext_list_end (I.ok.hd hc) st p.isList (by simp; omega) fun h' eb => ⟨rfl, I.turned (t' := s.toks) (fun b o hb e => eb b o hb e) f0 f1 f3 f4 f5⟩
 self := fun _ _ _ _ _ st h => wpAny_pyIter_listiter st h
theorem turn_range {P : Program} {w : World} {K : PySem.W.Frag} {tg : Expr} (it : Addr) (lo : Int) (n : Nat) : Turn P w K tg (Itr lo n) [it] it (fun i h => IsRangeIter h it (lo + (i : Nat) * 1) ((n : Int) - (i : Nat)) 1) where
 mem := by simp
 obj := fun i h st b hb => by
  have e : b = it := by simpa using hb
  subst e
  exact ⟨_, st, fun v z => by
   have z' : Data.fields _ = Data.cell v := z
   cases z'⟩
 keep := fun i h h' st k => k it (by simp) _ st
 item := by
  intro X hP hw hK hc i pins s σ H E I hf st hg
  subst hP hw hK
  obtain ⟨f0, f1, f2, f3, f4, f5⟩ := hf it (by simp)
  have W := Walks.range (prog := X.prog) (w := X.w) (I.ok.hd hc) it lo 1 n
  refine W.item i s _ _ hg st fun v h' tk hv st' kk => ?_
  obtain ⟨t, rfl⟩ := hv
  have I1 : Inv X pins σ H { s with heap := h', toks := tk } := I.turned (fun b o hb e => kk b o (by simpa using hb) e) f0 f1 f3 f4 f5
  refine ⟨_, rfl, go_of (s := { s with heap := h', toks := tk }) (n := "range_iterator") st' rfl rfl (by decide) ⟨.int (lo + i), H, I1, ⟨t, ?_⟩, ⟨rfl, rfl⟩, st', fun b hb => (hf b hb).1⟩⟩
  rw [Int.mul_one]
 done := by
  intro X hP hw hK hc i pins s σ H E I hf st hg
  subst hP hw hK
  obtain ⟨f0, f1, f2, f3, f4, f5⟩ := hf it (by simp)
  exact wpAny_pyNext_range_end (I.ok.hd hc) st (by have : n ≤ i := hg; omega) fun h' eb => ⟨rfl, I.turned (t' := s.toks) (fun b o hb e => eb b o hb e) f0 f1 f3 f4 f5⟩
 self := fun _ _ _ _ _ st h => wpAny_pyIter_rangeiter st h
end L2
namespace L2
open PySem PySem.Spec PyProof.Rows
section
variable {X : Cx} {tg : Expr}
def iList (K : PySem.W.Frag) (tl : TE) : TI := fun σ H R => tl σ H fun x H1 => ∃ a, x = .ref a ∧ (∃ xs, SqL K H1 a xs) ∧ R (Itl K a) H1
theorem pi_list {l : Expr} {tl : TE} (hl : PE X l tl) : PI X tg l (iList X.K tl) := by
 intro pins s σ H R I h
 refine thn (hl pins s σ H _ I h) fun v s1 ⟨x, H1, I1, r1, q1⟩ => ?_
 obtain ⟨a, e, ⟨xs, hq⟩, q⟩ := q1
 subst e
 cases r1
 obtain ⟨its, rv, p, hz⟩ := I1.list hq
 refine wpAny_pyIter_list p.isList ?_
 refine ⟨s1.heap.objs.size, [s1.heap.objs.size], _, _, H1, rfl, I1.kept (t' := s1.toks) fun b o e => Heap.get?_push_of_some _ e, turn_list a _, ⟨_, Heap.get?_push_size _ rfl, rfl, rfl⟩, fun b hb => ?_, q⟩
 have e : b = s1.heap.objs.size := by simpa using hb
 subst e
 exact I1.fpOk (Nat.le_refl _) (I1.hok.fresh (Nat.le_refl _))
theorem range_it {pins : List (Addr × Obj)} {σ : St} {H : Hp} {s : Shared} {R : It → Hp → Prop} {E : Value → Shared → Prop} {lo hi : Int} {t u v : Tok} {tk : Nat} (I : Inv X pins σ H s) (h1 : -(2 ^ 62) ≤ lo) (h2 : lo < 2 ^ 62) (h3 : -(2 ^ 62) ≤ hi) (h4 : hi < 2 ^ 62)
  (q : R (Itr lo (hi - lo).toNat) H) : wpAny (model X.prog X.w) X.A (pyIter (.ref s.heap.objs.size)) (PIE X pins σ tg R) E { s with heap := s.heap.push { cls := .type "range", data := .fields #[.int lo t, .int hi u, .int 1 v] }, toks := tk } := by
 refine wpAny_pyIter_range (IsRange.new ..) (small_one h1 h2 h3 h4) ?_
 have I1 : Inv X pins σ H { s with heap := s.heap.push { cls := .type "range", data := .fields #[.int lo t, .int hi u, .int 1 v] }, toks := tk } := I.kept fun b o e => Heap.get?_push_of_some _ e
 refine ⟨(s.heap.push { cls := .type "range", data := .fields #[.int lo t, .int hi u, .int 1 v] }).objs.size, [(s.heap.push { cls := .type "range", data := .fields #[.int lo t, .int hi u, .int 1 v] }).objs.size], _, _, H, rfl,
  I1.kept (t' := tk) fun b o e => Heap.get?_push_of_some _ e, turn_range _ lo (hi - lo).toNat, ?_, fun b hb => ?_, q⟩
 ·have e1 : lo + ((0 : Nat) : Int) * 1 = lo := by simp
  have e2 : (((hi - lo).toNat : Nat) : Int) - ((0 : Nat) : Int) = Builtin.Range.rangeSize lo hi 1 := by rw [rangeSize_one]; split <;> omega
  show IsRangeIter _ _ (lo + ((0 : Nat) : Int) * 1) ((((hi - lo).toNat : Nat) : Int) - ((0 : Nat) : Int)) 1
  rw [e1, e2]
  exact Heap.get?_push_size _ rfl
 ·have e : b = (s.heap.push { cls := .type "range", data := .fields #[.int lo t, .int hi u, .int 1 v] }).objs.size := by simpa using hb
  subst e
  exact I1.fpOk (Nat.le_refl _) (I1.hok.fresh (Nat.le_refl _))
def iRng1 (ta : TA) : TI := fun σ H R => ta σ H fun vs H1 => ∃ j : Int, vs = [.int j] ∧ -(2 ^ 62) ≤ j ∧ j < 2 ^ 62 ∧ R (Itr 0 j.toNat) H1
def iRng2 (ta : TA) : TI := fun σ H R => ta σ H fun vs H1 => ∃ i j : Int, vs = [.int i, .int j] ∧ (-(2 ^ 62) ≤ i ∧ i < 2 ^ 62 ∧ -(2 ^ 62) ≤ j ∧ j < 2 ^ 62) ∧ R (Itr i (j - i).toNat) H1
theorem pi_range1 {a : Expr} {ta : TA} {p pos : Pos} (hg : Gl X "range") (hm : X.mg "range" = none) (ha : PA X [a] ta) (hs : starEach [a] X.env = [(false, eval a X.env)] := by rfl) : PI X tg (.Call (.Name "range" p) [a] [] pos) (iRng1 ta) := by
 intro pins s σ H R I h
 refine Call_ (ld_blt I hg hm boot_range (PyProof.Rows.callWith_type1 (thn (ha pos pins s σ H _ I h) fun us s1 ⟨vs, H1, I1, r1, q1⟩ => ?_) hs rfl))
 obtain ⟨j, e, q1, q2, q⟩ := q1
 subst e
 cases r1 with
 | cons r rr =>
  cases rr
  obtain ⟨t, rfl⟩ := r
  exact call_range_1 (range_it I1 (by omega) (by omega) q1 q2 (by simpa using q))
theorem pi_range2 {a b : Expr} {ta : TA} {p pos : Pos} (hg : Gl X "range") (hm : X.mg "range" = none) (ha : PA X [a, b] ta) (hs : starEach [a, b] X.env = [(false, eval a X.env), (false, eval b X.env)] := by rfl) (hs2 : starEach [b] X.env = [(false, eval b X.env)] := by rfl) :
  PI X tg (.Call (.Name "range" p) [a, b] [] pos) (iRng2 ta) := by
 intro pins s σ H R I h
 refine Call_ (ld_blt I hg hm boot_range (PyProof.Rows.callWith_type1 (thn (ha pos pins s σ H _ I h) fun us s1 ⟨vs, H1, I1, r1, q1⟩ => ?_) (by rw [hs, hs2]) (by rw [hs2]; rfl)))
 obtain ⟨i, j, e, ⟨q1, q2, q3, q4⟩, q⟩ := q1
 subst e
 cases r1 with
 | cons r rr =>
  cases rr with
  | cons r' rr =>
   cases rr
   obtain ⟨t, rfl⟩ := r
   obtain ⟨t', rfl⟩ := r'
   exact call_range_2 (range_it I1 q1 q2 q3 q4 q)
def tFor (wi : TI) (g : TG) (tb : TS) : TS := fun D σ H => wi σ H fun J H1 => ∃ W : Nat → Nat → St → Hp → Prop, (∃ m, W 0 m σ H1) ∧ ∀ i m σ H, W i m σ H →
 (J.stop i H ∧ D.nx σ H) ∨ (J.go i H ∧ ∃ N : St → Hp → Prop, (∀ σ' H', N σ' H' → ∃ m', m' < m ∧ W (i + 1) m' σ' H') ∧ ∀ x H', J.yld i H x H' → g x σ H' fun σ2 H2 => tb { D with nx := N, ct := N, bk := D.nx } σ2 H2)
def pinsAt (fp : List Addr) (h : Heap) : List (Addr × Obj) := fp.filterMap fun b => (h.get? b).map fun o => (b, o)
theorem mem_pinsAt {fp : List Addr} {h : Heap} {b : Addr} {o : Obj} (hb : b ∈ fp) (e : h.get? b = some o) : (b, o) ∈ pinsAt fp h := List.mem_filterMap.mpr ⟨b, hb, by rw [e]; rfl⟩
theorem of_pinsAt {fp : List Addr} {h : Heap} {p : Addr × Obj} (hp : p ∈ pinsAt fp h) : p.1 ∈ fp ∧ h.get? p.1 = some p.2 := by
 obtain ⟨b, hb, e⟩ := List.mem_filterMap.mp hp
 cases q : h.get? b with
 | none => rw [q] at e; cases e
 | some o =>
  rw [q] at e
  have e' : (b, o) = p := Option.some.inj e
  subst e'
  exact ⟨hb, q⟩
theorem Inv.pinned {pins : List (Addr × Obj)} {σ : St} {H : Hp} {s : Shared} {fp : List Addr} (I : Inv X pins σ H s) (hf : ∀ b ∈ fp, FpOk X pins H b) (ho : ∀ b ∈ fp, ∃ o, s.heap.get? b = some o ∧ ∀ v, o.data ≠ .cell v) : Inv X (pins ++ pinsAt fp s.heap) σ H s :=
 I.pins_of fun p hp => (List.mem_append.mp hp).elim (fun z => I.pin p (List.mem_append_right _ z)) fun z => by
  obtain ⟨hb, e⟩ := of_pinsAt z
  obtain ⟨f0, f1, f2, _⟩ := hf p.1 hb
  obtain ⟨o, e', d⟩ := ho p.1 hb
  rw [e] at e'; cases e'
  exact ⟨e, f0, f1, f2, d⟩
theorem Inv.unpinned {pins pl : List (Addr × Obj)} {σ : St} {H : Hp} {s : Shared} (I : Inv X (pins ++ pl) σ H s) : Inv X pins σ H s := I.pins_of fun p hp => I.pin p (List.mem_append_right _ (List.mem_append_left _ hp))
theorem ps_for {iter : Expr} {body : List Stmt} {wi : TI} {g : TG} {tb : TS} {pos : Pos} (hp : PassesOwn (model X.prog X.w) X.A X.env X.xe) (hc : X.calm = true) (hi : PI X tg iter wi) (hg : PG X tg g) (hb : PSs X body tb)
  (hs : ∀ x, foldedSetIterable iter X.env x = pure x := by intro _; rfl) : PS X (.For tg iter body [] pos) (tFor wi g tb) := by
 intro pins s σ H D I h
 refine wpAny_For (thn (hi pins s σ H _ I h) fun v s1 h1 => thn h1 fun itv s2 h2 => ?_) hs
 obtain ⟨it, fp, tn, J, H2, e, I2, T, st2, f2, W, ⟨m0, w0⟩, turn⟩ := h2
 subst e
 -- what stays true of the iterator's objects through the loop
 have stat : ∀ {H' : Hp}, (∀ b ∈ fp, H' b = none) → ∀ b ∈ fp, FpOk X pins H' b := fun hn b hb => ⟨hn b hb, (f2 b hb).2⟩
 refine codeAny_forLoop_any (fun n s' => ∃ i σ' H', Inv X pins σ' H' s' ∧ tn i s'.heap ∧ (∀ b ∈ fp, H' b = none) ∧ W i n σ' H') ?_ m0 ⟨0, σ, H2, I2, st2, fun b hb => (f2 b hb).1, w0⟩
 rintro n s3 ⟨i, σ3, H3, I3, st3, fr3, w3⟩
 rcases turn i n σ3 H3 w3 with ⟨stop, qn⟩ | ⟨go, N, hN, step⟩
 ·refine wpAny_passesOwn hp (thn (T.done X rfl rfl rfl hc i pins s3 σ3 H3 X.xe I3 (stat fr3) st3 stop) fun r s4 ⟨hr, I4⟩ => ?_)
  subst hr
  exact wpAny_execs_nil ⟨σ3, H3, I4, qn⟩
 ·refine wpAny_passesOwn hp (thn (T.item X rfl rfl rfl hc i pins s3 σ3 H3 X.xe I3 (stat fr3) st3 go) fun r s4 ⟨u, hr, h4⟩ => ?_)
  subst hr
  refine wpAny_passesOwn hp (thn h4 fun _ s5 ⟨x, H5, I5, r5, y5, st5, fr5⟩ => ?_)
  have I5' := I5.pinned (stat fr5) (T.obj _ _ st5)
  refine wpAny_passesOwn hp (thn (hg _ s5 σ3 H5 x u _ I5' r5 (step x H5 y5)) fun _ s6 ⟨σ6, H6, I6, q6⟩ => ?_)
  refine wpAny_passesOwn hp (thn (hb _ s6 σ6 H6 _ I6 q6) fun f s7 q7 => ?_)
  have again : ∀ {σ7 : St} {H7 : Hp}, Inv X (pins ++ pinsAt fp s5.heap) σ7 H7 s7 → N σ7 H7 → ∃ m, m < n ∧ ∃ i σ' H', Inv X pins σ' H' s7 ∧ tn i s7.heap ∧ (∀ b ∈ fp, H' b = none) ∧ W i m σ' H' := fun {σ7 H7} I7 n7 => by
   obtain ⟨m', hm, w7⟩ := hN σ7 H7 n7
   refine ⟨m', hm, i + 1, σ7, H7, I7.unpinned, T.keep _ _ _ st5 fun b hb o e => (I7.pin (b, o) (List.mem_append_right _ (List.mem_append_right _ (mem_pinsAt hb e)))).1, fun b hb => ?_, w7⟩
   obtain ⟨o, e, d⟩ := T.obj _ _ st5 b hb
   exact (I7.pin (b, o) (List.mem_append_right _ (List.mem_append_right _ (mem_pinsAt hb e)))).2.1
  cases f with
  | next => obtain ⟨σ7, H7, I7, n7⟩ := q7; exact again I7 n7
  | cont => obtain ⟨σ7, H7, I7, n7⟩ := q7; exact again I7 n7
  | brk => obtain ⟨σ7, H7, I7, q7⟩ := q7; exact ⟨σ7, H7, I7.unpinned, q7⟩
  | ret v => obtain ⟨x7, σ7, H7, I7, r7, q7⟩ := q7; exact ⟨x7, σ7, H7, I7.unpinned, r7, q7⟩
end
theorem for_list {K : PySem.W.Frag} {a : Addr} {xs : List V} {g : TG} {tb : TS} {D : Ends} {σ : St} {H : Hp} (Pv : Nat → St → Hp → Prop) (h0 : Pv 0 σ H) (hl : ∀ i σ H, i ≤ xs.length → Pv i σ H → SqL K H a xs)
  (hs : ∀ i x σ H, xs[i]? = some x → Pv i σ H → g x σ H fun σ2 H2 => tb { D with nx := Pv (i + 1), ct := Pv (i + 1), bk := D.nx } σ2 H2) (hd : ∀ σ H, Pv xs.length σ H → D.nx σ H) :
  ∃ W : Nat → Nat → St → Hp → Prop, (∃ m, W 0 m σ H) ∧ ∀ i m σ H, W i m σ H →
   ((Itl K a).stop i H ∧ D.nx σ H) ∨ ((Itl K a).go i H ∧ ∃ N : St → Hp → Prop, (∀ σ' H', N σ' H' → ∃ m', m' < m ∧ W (i + 1) m' σ' H') ∧ ∀ x H', (Itl K a).yld i H x H' → g x σ H' fun σ2 H2 => tb { D with nx := N, ct := N, bk := D.nx } σ2 H2) := by
 refine ⟨fun i m σ H => m = xs.length - i ∧ i ≤ xs.length ∧ Pv i σ H, ⟨xs.length, by simp, Nat.zero_le _, h0⟩, ?_⟩
 rintro i m σ H ⟨rfl, hi, p⟩
 have q := hl i σ H hi p
 by_cases hlt : i < xs.length
 ·refine .inr ⟨⟨xs, xs[i], q, by simp [hlt]⟩, Pv (i + 1), fun σ' H' p' => ⟨xs.length - (i + 1), by omega, rfl, hlt, p'⟩, fun x H' y => ?_⟩
  obtain ⟨e, y⟩ := y
  subst e
  exact hs i x σ _ (y xs q) p
 ·have e : i = xs.length := by omega
  subst e
  exact .inl ⟨⟨xs, q, Nat.le_refl _⟩, hd σ H p⟩
theorem for_range {lo : Int} {n : Nat} {g : TG} {tb : TS} {D : Ends} {σ : St} {H : Hp} (Pv : Nat → St → Hp → Prop) (h0 : Pv 0 σ H)
  (hs : ∀ i σ H, i < n → Pv i σ H → g (.int (lo + i)) σ H fun σ2 H2 => tb { D with nx := Pv (i + 1), ct := Pv (i + 1), bk := D.nx } σ2 H2) (hd : ∀ σ H, Pv n σ H → D.nx σ H) :
  ∃ W : Nat → Nat → St → Hp → Prop, (∃ m, W 0 m σ H) ∧ ∀ i m σ H, W i m σ H →
   ((Itr lo n).stop i H ∧ D.nx σ H) ∨ ((Itr lo n).go i H ∧ ∃ N : St → Hp → Prop, (∀ σ' H', N σ' H' → ∃ m', m' < m ∧ W (i + 1) m' σ' H') ∧ ∀ x H', (Itr lo n).yld i H x H' → g x σ H' fun σ2 H2 => tb { D with nx := N, ct := N, bk := D.nx } σ2 H2) := by
 refine ⟨fun i m σ H => m = n - i ∧ i ≤ n ∧ Pv i σ H, ⟨n, by simp, Nat.zero_le _, h0⟩, ?_⟩
 rintro i m σ H ⟨rfl, hi, p⟩
 by_cases hlt : i < n
 ·refine .inr ⟨hlt, Pv (i + 1), fun σ' H' p' => ⟨n - (i + 1), by omega, rfl, hlt, p'⟩, fun x H' y => ?_⟩
  obtain ⟨e, y⟩ := y
  subst e y
  exact hs i σ _ hlt p
 ·have e : i = n := by omega
  subst e
  exact .inl ⟨Nat.le_refl _, hd σ H p⟩
end L2
namespace L2
open PySem PySem.Spec PyProof.Rows
abbrev R2 := V → V → Hp → VK → Prop
def OpR (X : Cx) (f : Value → Value → Sem Value) (r : R2) : Prop :=
 ∀ (pins : List (Addr × Obj)) (s : Shared) (σ : St) (H : Hp) (x y : V) (v u : Value) (Q : VK), Inv X pins σ H s → RelV x v → RelV y u → r x y H Q →
  wpAny (model X.prog X.w) X.A (f v u) (EP X pins σ Q) X.xe s
def UnR (X : Cx) (f : Value → Sem Value) (r : V → Hp → VK → Prop) : Prop :=
 ∀ (pins : List (Addr × Obj)) (s : Shared) (σ : St) (H : Hp) (x : V) (v : Value) (Q : VK), Inv X pins σ H s → RelV x v → r x H Q →
  wpAny (model X.prog X.w) X.A (f v) (EP X pins σ Q) X.xe s
def CallR (X : Cx) (f : Value) (r : List V → Hp → VK → Prop) : Prop :=
 ∀ (pins : List (Addr × Obj)) (s : Shared) (σ : St) (H : Hp) (xs : List V) (us : List Value) (Q : VK), Inv X pins σ H s → Vals xs us → r xs H Q →
  wpAny (model X.prog X.w) X.A (call f us) (EP X pins σ Q) X.xe s
def tOp (r : R2) (ta tb : TE) : TE := fun σ H Q => ta σ H fun x H1 => tb σ H1 fun y H2 => r x y H2 Q
def tUn (r : V → Hp → VK → Prop) (ta : TE) : TE := fun σ H Q => ta σ H fun x H1 => r x H1 Q
def rI (C : Int → Int → Prop) (g : Int → Int → V) : R2 := fun x y H Q => ∃ i j, x = .int i ∧ y = .int j ∧ C i j ∧ Q (g i j) H
def rI0 (g : Int → Int → V) : R2 := fun x y H Q => ∃ i j, x = .int i ∧ y = .int j ∧ Q (g i j) H
def rU (g : Int → V) : V → Hp → VK → Prop := fun x H Q => ∃ i, x = .int i ∧ Q (g i) H
section
variable {X : Cx} {a b c : Expr} {ta tb tc : TE} {pos : Pos}
theorem binT (ha : PE X a ta) (hb : PE X b tb) {pins : List (Addr × Obj)} {s : Shared} {σ : St} {H : Hp} {R : V → V → Hp → Prop} (I : Inv X pins σ H s)
  (h : ta σ H fun x H1 => tb σ H1 fun y H2 => R x y H2) {Q : Value → Shared → Prop} {f : Value → Value → Sem Value}
  (hf : ∀ v u s2 x y H2, Inv X pins σ H2 s2 → RelV x v → RelV y u → R x y H2 → wpAny (model X.prog X.w) X.A (f v u) Q X.xe s2) :
  wpAny (model X.prog X.w) X.A (eval a X.env) (fun v s₁ => wpAny (model X.prog X.w) X.A (eval b X.env) (fun u s₂ => wpAny (model X.prog X.w) X.A (f v u) Q X.xe s₂) X.xe s₁) X.xe s := by
 refine thn (ha pins s σ H _ I h) fun v s1 ⟨x, H1, I1, r1, q1⟩ => ?_
 refine thn (hb pins s1 σ H1 _ I1 q1) fun u s2 ⟨y, H2, I2, r2, q2⟩ => ?_
 exact hf v u s2 x y H2 I2 r1 r2 q2
theorem pe_op {op : Operator} {r : R2} (ho : OpR X (binaryOp op) r) (ha : PE X a ta) (hb : PE X b tb) : PE X (.BinOp a op b pos) (tOp r ta tb) := by
 intro pins s σ H Q I h
 exact wpAny_BinOp (binT ha hb I h fun v u s2 x y H2 I2 rx ry q => ho pins s2 σ H2 x y v u Q I2 rx ry q)
theorem pe_un {op : UnaryOp} {r : V → Hp → VK → Prop} (ho : UnR X (unaryOp op) r) (ha : PE X a ta) : PE X (.UnaryOp op a pos) (tUn r ta) := by
 intro pins s σ H Q I h
 exact UnaryOp_ (thn (ha pins s σ H _ I h) fun v s1 ⟨x, H1, I1, r1, q1⟩ => ho pins s1 σ H1 x v Q I1 r1 q1)
theorem opI {f : Value → Value → Sem Value} {C : Int → Int → Prop} {g : Int → Int → Int}
  (rule : ∀ (i j : Int) (t u : Tok) (s : Shared) (Q : Value → Shared → Prop) (E : Value → Shared → Prop), C i j → Q (.int (g i j) s.toks) { s with toks := s.toks + 1 } → wpAny (model X.prog X.w) X.A (f (.int i t) (.int j u)) Q E s) :
  OpR X f (rI C fun i j => .int (g i j)) := by
 intro pins s σ H x y v u Q I rx ry h
 obtain ⟨i, j, rfl, rfl, hc, q⟩ := h
 obtain ⟨t, rfl⟩ := rx
 obtain ⟨t', rfl⟩ := ry
 exact rule i j t t' s _ _ hc ⟨.int (g i j), H, I.tok _, ⟨_, rfl⟩, q⟩
theorem opI0 {f : Value → Value → Sem Value} {g : Int → Int → Int}
  (rule : ∀ (i j : Int) (t u : Tok) (s : Shared) (Q : Value → Shared → Prop) (E : Value → Shared → Prop), Q (.int (g i j) s.toks) { s with toks := s.toks + 1 } → wpAny (model X.prog X.w) X.A (f (.int i t) (.int j u)) Q E s) :
  OpR X f (rI0 fun i j => .int (g i j)) := by
 intro pins s σ H x y v u Q I rx ry h
 obtain ⟨i, j, rfl, rfl, q⟩ := h
 obtain ⟨t, rfl⟩ := rx
 obtain ⟨t', rfl⟩ := ry
 exact rule i j t t' s _ _ ⟨.int (g i j), H, I.tok _, ⟨_, rfl⟩, q⟩
theorem opB0 {f : Value → Value → Sem Value} {g : Int → Int → Bool}
  (rule : ∀ (i j : Int) (t u : Tok) (s : Shared) (Q : Value → Shared → Prop) (E : Value → Shared → Prop), Q (.bool (g i j)) s → wpAny (model X.prog X.w) X.A (f (.int i t) (.int j u)) Q E s) :
  OpR X f (rI0 fun i j => .bl (g i j)) := by
 intro pins s σ H x y v u Q I rx ry h
 obtain ⟨i, j, rfl, rfl, q⟩ := h
 obtain ⟨t, rfl⟩ := rx
 obtain ⟨t', rfl⟩ := ry
 exact rule i j t t' s _ _ ⟨.bl (g i j), H, I, rfl, q⟩
def CDiv (i j : Int) : Prop := 0 < j ∧ j < 1073741824
def CPow (i j : Int) : Prop := 0 ≤ j ∧ j ≤ 1000000 ∧ i.natAbs < 2 ^ 64
def CMul (i j : Int) : Prop := (-(2 ^ 64) < i ∧ i < 2 ^ 64) ∨ (-(2 ^ 64) < j ∧ j < 2 ^ 64)
theorem CMul.ok {i j : Int} (h : CMul i j) : IntMulOk i j := by
 rcases h with ⟨h1, h2⟩ | ⟨h1, h2⟩
 ·exact .of_left (intBits_le_64 h1 h2)
 ·exact .of_right (intBits_le_64 h1 h2)
theorem op_add : OpR X (binaryOp .Add) (rI0 fun i j => .int (i + j)) := opI0 fun _ _ _ _ _ _ _ q => add_int q
theorem op_sub : OpR X (binaryOp .Sub) (rI0 fun i j => .int (i - j)) := opI0 fun _ _ _ _ _ _ _ q => sub_int q
theorem op_mul : OpR X (binaryOp .Mult) (rI CMul fun i j => .int (i * j)) := opI fun _ _ _ _ _ _ _ hc q => mul_int q hc.ok
theorem op_fdiv : OpR X (binaryOp .FloorDiv) (rI CDiv fun i j => .int (i / j)) := opI fun i j _ _ _ _ _ hc q => by
 have h1 : (0 : Int) < j := hc.1
 have h2 : j < 1073741824 := hc.2
 exact floordiv_int (by omega) (by rw [Int.fdiv_eq_ediv_of_nonneg i (by omega)]; exact q) (.inl (PyProof.noPylong_small (by omega)))
theorem op_mod : OpR X (binaryOp .Mod) (rI (fun _ j => 0 < j) fun i j => .int (i % j)) := opI fun i j _ _ _ _ _ hc q => by
 have h1 : (0 : Int) < j := hc
 exact mod_int' (by omega) (by rw [Int.fmod_eq_emod_of_nonneg i (by omega)]; exact q)
theorem op_pow : OpR X (binaryOp .Pow) (rI CPow fun i j => .int (i ^ j.toNat)) := opI fun _ _ _ _ _ _ _ hc q => pow_int_small hc.1 hc.2.1 hc.2.2 q
theorem unI {f : Value → Sem Value} {g : Int → Int}
  (rule : ∀ (i : Int) (t : Tok) (s : Shared) (Q : Value → Shared → Prop) (E : Value → Shared → Prop), Q (.int (g i) s.toks) { s with toks := s.toks + 1 } → wpAny (model X.prog X.w) X.A (f (.int i t)) Q E s) :
  UnR X f (rU fun i => .int (g i)) := by
 intro pins s σ H x v Q I rx h
 obtain ⟨i, rfl, q⟩ := h
 obtain ⟨t, rfl⟩ := rx
 exact rule i t s _ _ ⟨.int (g i), H, I.tok _, ⟨_, rfl⟩, q⟩
theorem un_neg : UnR X (unaryOp .USub) (rU fun i => .int (-i)) := unI fun _ _ _ _ _ q => neg_int q
end
def scal : V → V → Bool
 | .non, .non => true | .non, .int _ => true | .int _, .non => true | .non, .bl _ => true | .bl _, .non => true | .non, .str _ => true | .str _, .non => true
 | .int _, .int _ => true | .bl _, .bl _ => true | .str _, .str _ => true | .byt _, .byt _ => true
 | .int _, .str _ => true | .str _, .int _ => true | .bl _, .str _ => true | .str _, .bl _ => true
 | _, _ => false
def rEq : R2 := fun x y H Q => scal x y = true ∧ Q (.bl (decide (x = y))) H
def rNe : R2 := fun x y H Q => scal x y = true ∧ Q (.bl (!decide (x = y))) H
theorem dec_int {i j : Int} : decide (V.int i = V.int j) = (i == j) := by
 rw [Bool.eq_iff_iff]
 simp
theorem dec_bl {i j : Bool} : decide (V.bl i = V.bl j) = (i == j) := by
 rw [Bool.eq_iff_iff]
 simp
theorem dec_str {i j : Str} : decide (V.str i = V.str j) = (i == j) := by
 rw [Bool.eq_iff_iff]
 simp
theorem dec_byt {i j : Array UInt8} : decide (V.byt i = V.byt j) = (i.toList == j.toList) := by
 rw [Bool.eq_iff_iff]
 cases i
 cases j
 simp
section
variable {X : Cx} {a b c : Expr} {ta tb tc : TE} {pos : Pos}
theorem fin_bl {pins : List (Addr × Obj)} {σ : St} {H : Hp} {s : Shared} {Q : VK} {k k' : Bool} (I : Inv X pins σ H s) (q : Q (.bl k) H) (e : k = k') : EP X pins σ Q (.bool k') s := by
 subst e
 exact ⟨.bl k, H, I, rfl, q⟩
theorem op_eq : OpR X (compareOp .Eq) rEq := by
 intro pins s σ H x y v u Q I rx ry h
 obtain ⟨hs, q⟩ := h
 cases x with
 | non =>
  cases rx
  cases y with
  | non => cases ry; exact PySem.EqNone.eq_none_none (fin_bl I q (by simp))
  | bl j => cases ry; exact PySem.EqNone.eq_none_bool (fin_bl I q (by simp))
  | int j => obtain ⟨t', rfl⟩ := ry; exact PySem.EqNone.eq_none_int (fin_bl I q (by simp))
  | str j => obtain ⟨t', rfl⟩ := ry; exact PySem.EqNone.eq_none_str (fin_bl I q (by simp))
  | _ => exact absurd (show false = true from hs) Bool.false_ne_true
 | bl i =>
  cases rx
  cases y with
  | non => cases ry; exact PySem.EqNone.eq_bool_none (fin_bl I q (by simp))
  | bl j => cases ry; exact eq_bool (fin_bl I q dec_bl)
  | str j => obtain ⟨t', rfl⟩ := ry; exact PySem.EqMixed.eq_bool_str (fin_bl I q (by simp))
  | _ => exact absurd (show false = true from hs) Bool.false_ne_true
 | int i =>
  obtain ⟨t, rfl⟩ := rx
  cases y with
  | non => cases ry; exact PySem.EqNone.eq_int_none (fin_bl I q (by simp))
  | int j => obtain ⟨t', rfl⟩ := ry; exact eq_int (fin_bl I q dec_int)
  | str j => obtain ⟨t', rfl⟩ := ry; exact PySem.EqMixed.eq_int_str (fin_bl I q (by simp))
  | _ => exact absurd (show false = true from hs) Bool.false_ne_true
 | str i =>
  obtain ⟨t, rfl⟩ := rx
  cases y with
  | non => cases ry; exact PySem.EqNone.eq_str_none (fin_bl I q (by simp))
  | bl j => cases ry; exact PySem.EqMixed.eq_str_bool (fin_bl I q (by simp))
  | int j => obtain ⟨t', rfl⟩ := ry; exact PySem.EqMixed.eq_str_int (fin_bl I q (by simp))
  | str j => obtain ⟨t', rfl⟩ := ry; exact eq_str (fin_bl I q dec_str)
  | _ => exact absurd (show false = true from hs) Bool.false_ne_true
 | byt i =>
  obtain ⟨t, rfl⟩ := rx
  cases y with
  | byt j => obtain ⟨t', rfl⟩ := ry; exact PySem.W.eq_bytes (fin_bl I q dec_byt)
  | _ => exact absurd (show false = true from hs) Bool.false_ne_true
 | _ => cases y <;> exact absurd (show false = true from hs) Bool.false_ne_true
theorem op_ne : OpR X (compareOp .NotEq) rNe := by
 intro pins s σ H x y v u Q I rx ry h
 obtain ⟨hs, q⟩ := h
 cases x with
 | non =>
  cases rx
  cases y with
  | non => cases ry; exact PySem.EqNone.ne_none_none (fin_bl I q (by simp))
  | bl j => cases ry; exact PySem.EqNone.ne_none_bool (fin_bl I q (by simp))
  | int j => obtain ⟨t', rfl⟩ := ry; exact PySem.EqNone.ne_none_int (fin_bl I q (by simp))
  | str j => obtain ⟨t', rfl⟩ := ry; exact PySem.EqNone.ne_none_str (fin_bl I q (by simp))
  | _ => exact absurd (show false = true from hs) Bool.false_ne_true
 | bl i =>
  cases rx
  cases y with
  | non => cases ry; exact PySem.EqNone.ne_bool_none (fin_bl I q (by simp))
  | bl j => cases ry; exact ne_bool (fin_bl I q (congrArg not dec_bl))
  | str j => obtain ⟨t', rfl⟩ := ry; exact PySem.EqMixed.ne_bool_str (fin_bl I q (by simp))
  | _ => exact absurd (show false = true from hs) Bool.false_ne_true
 | int i =>
  obtain ⟨t, rfl⟩ := rx
  cases y with
  | non => cases ry; exact PySem.EqNone.ne_int_none (fin_bl I q (by simp))
  | int j => obtain ⟨t', rfl⟩ := ry; exact ne_int (fin_bl I q (congrArg not dec_int))
  | str j => obtain ⟨t', rfl⟩ := ry; exact PySem.EqMixed.ne_int_str (fin_bl I q (by simp))
  | _ => exact absurd (show false = true from hs) Bool.false_ne_true
 | str i =>
  obtain ⟨t, rfl⟩ := rx
  cases y with
  | non => cases ry; exact PySem.EqNone.ne_str_none (fin_bl I q (by simp))
  | bl j => cases ry; exact PySem.EqMixed.ne_str_bool (fin_bl I q (by simp))
  | int j => obtain ⟨t', rfl⟩ := ry; exact PySem.EqMixed.ne_str_int (fin_bl I q (by simp))
  | str j => obtain ⟨t', rfl⟩ := ry; exact ne_str (fin_bl I q (congrArg not dec_str))
  | _ => exact absurd (show false = true from hs) Bool.false_ne_true
 | byt i =>
  obtain ⟨t, rfl⟩ := rx
  cases y with
  | byt j => obtain ⟨t', rfl⟩ := ry; exact PySem.W.ne_bytes (fin_bl I q (congrArg not dec_byt))
  | _ => exact absurd (show false = true from hs) Bool.false_ne_true
 | _ => cases y <;> exact absurd (show false = true from hs) Bool.false_ne_true
theorem op_lt : OpR X (compareOp .Lt) (rI0 fun i j => .bl (decide (i < j))) := opB0 fun _ _ _ _ _ _ _ q => lt_int q
theorem op_le : OpR X (compareOp .LtE) (rI0 fun i j => .bl (decide (i ≤ j))) := opB0 fun _ _ _ _ _ _ _ q => le_int q
theorem op_gt : OpR X (compareOp .Gt) (rI0 fun i j => .bl (decide (j < i))) := opB0 fun _ _ _ _ _ _ _ q => gt_int q
theorem op_notN : OpR X (compareOp .IsNot) (fun x y H Q => y = .non ∧ Q (.bl (!decide (x = .non))) H) := by
 intro pins s σ H x y v u Q I rx ry h
 obtain ⟨rfl, q⟩ := h
 cases ry
 refine isnot_none_gen (fin_bl I q ?_)
 cases x <;> first
  | (cases rx; rfl)
  | (obtain ⟨t, rfl⟩ := rx; rfl)
theorem nomark (b : Expr) {op : CmpOp} (h : op ≠ .In := by decide) (h2 : op ≠ .NotIn := by decide) : behindInMarks op b = false := by
 have e1 : (op == CmpOp.In) = false := by cases op <;> first | rfl | exact absurd rfl h
 have e2 : (op == CmpOp.NotIn) = false := by cases op <;> first | rfl | exact absurd rfl h2
 cases b <;> simp [behindInMarks, e1, e2]
theorem pe_cmpR {op : CmpOp} {r : R2} (ho : OpR X (compareOp op) r) (ha : PE X a ta) (hb : PE X b tb) (hm : behindInMarks op b = false) : PE X (.Compare a [op] [b] pos) (tOp r ta tb) := by
 intro pins s σ H Q I h
 exact wpAny_Compare1 (binT ha hb I h fun v u s2 x y H2 I2 rx ry q => ho pins s2 σ H2 x y v u Q I2 rx ry q) hm
def tTest (t : TE) : TT := fun σ H Q => t σ H fun x H' => ∃ k, x = .bl k ∧ Q k H'
theorem pt_cmpR {op : CmpOp} {r : R2} (ho : OpR X (compareOp op) r) (ha : PE X a ta) (hb : PE X b tb) (hm : behindInMarks op b = false) : PT X (.Compare a [op] [b] pos) (tTest (tOp r ta tb)) := by
 intro pins s σ H Q I h
 refine wpAny_isTrue_Compare1 (thn (ha pins s σ H _ I h) fun v s1 ⟨x, H1, I1, r1, q1⟩ => thn (hb pins s1 σ H1 _ I1 q1) fun u s2 ⟨y, H2, I2, r2, q2⟩ =>
  thn (ho pins s2 σ H2 x y v u _ I2 r1 r2 q2) fun c s3 ⟨z, H3, I3, r3, k, e, q3⟩ => ?_) hm
 subst e
 cases r3
 exact wpAny_truthy_bool ⟨H3, I3, q3⟩
def tChain (r r' : R2) (ta tb tc : TE) : TE := fun σ H Q => ta σ H fun x H1 => tb σ H1 fun y H2 => r x y H2 fun z H3 => ∃ k, z = .bl k ∧
 (if k = true then tc σ H3 fun w' H4 => r' y w' H4 Q else Q (.bl false) H3)
theorem pe_chain {op op' : CmpOp} {r r' : R2} (ho : OpR X (compareOp op) r) (ho' : OpR X (compareOp op') r') (ha : PE X a ta) (hb : PE X b tb) (hc : PE X c tc)
  (hm : lastMarks [op, op'] [b, c] = false := by with_unfolding_all rfl) : PE X (.Compare a [op, op'] [b, c] pos) (tChain r r' ta tb tc) := by
 intro pins s σ H Q I h
 refine Compare_chain (thn (ha pins s σ H _ I h) fun v s1 ⟨x, H1, I1, r1, q1⟩ => chain_link (thn (hb pins s1 σ H1 _ I1 q1) fun u s2 ⟨y, H2, I2, r2, q2⟩ =>
  thn (ho pins s2 σ H2 x y v u _ I2 r1 r2 q2) fun d s3 ⟨z, H3, I3, r3, k, e, q3⟩ => ?_)) hm
 subst e
 cases r3
 refine wpAny_truthy_bool ?_
 cases k with
 | false => exact ite_ff ⟨.bl false, H3, I3, rfl, q3⟩
 | true => exact ite_tt (chain_last (thn (hc pins s3 σ H3 _ I3 q3) fun w' s4 ⟨z', H4, I4, r4, q4⟩ => ho' pins s4 σ H4 y z' u w' Q I4 r2 r4 q4))
theorem line63 : (sizeLine : Nat) < 2 ^ 63 := by rw [sizeLine_eq]; decide
theorem vals1 {x : V} {us : List Value} (r : Vals [x] us) : ∃ u, us = [u] ∧ RelV x u := by
 cases r with
 | cons r1 r2 => cases r2; exact ⟨_, rfl, r1⟩
theorem vals2 {x y : V} {us : List Value} (r : Vals [x, y] us) : ∃ u w', us = [u, w'] ∧ RelV x u ∧ RelV y w' := by
 cases r with
 | cons r1 r2 =>
  cases r2 with
  | cons r3 r4 => cases r4; exact ⟨_, _, rfl, r1, r3⟩
theorem call_abs : CallR X (.builtin "abs") (fun xs H Q => ∃ i, xs = [.int i] ∧ Q (.int (if i < 0 then -i else i)) H) := by
 intro pins s σ H xs us Q I r h
 obtain ⟨i, rfl, q⟩ := h
 obtain ⟨u, rfl, t, rfl⟩ := vals1 r
 exact call_abs_int fun u tk => ⟨.int (if i < 0 then -i else i), H, I.tok _, ⟨_, rfl⟩, q⟩
theorem call_min2 (hc : X.calm = true) : CallR X (.builtin "min") (fun xs H Q => ∃ i j, xs = [.int i, .int j] ∧ Q (.int (if j < i then j else i)) H) := by
 intro pins s σ H xs us Q I r h
 obtain ⟨i, j, rfl, q⟩ := h
 obtain ⟨u, w', rfl, ⟨t, rfl⟩, ⟨t', rfl⟩⟩ := vals2 r
 refine min_two_ints (I.ok.hd hc) fun h' tk k => ⟨_, H, I.kept k, ?_, q⟩
 by_cases hj : j < i
 ·rw [if_pos hj, if_pos hj]; exact ⟨_, rfl⟩
 ·rw [if_neg hj, if_neg hj]; exact ⟨_, rfl⟩
end
end L2
namespace L2
open PySem PySem.Spec PyProof.Rows
structure ObjM (h : Heap) (x dx C : Addr) (mA : Str → Option Value) : Prop where
 obj : h.get? x = some (PySem.W.instObj C dx)
 ns : h.Ns1 dx mA
 ne : dx ≠ x
theorem lookIn_ns {h : Heap} {dx : Addr} {mA : Str → Option Value} (n : h.Ns1 dx mA) : ∃ od, h.get? dx = some od ∧ ∀ name, PySem.W.lookIn name od = some (mA name) := by
 obtain ⟨o, es, ep, ho, hd, hk, _, hm⟩ := n
 refine ⟨o, ho, fun name => ?_⟩
 have e := hm name
 unfold nsFind findBy at e
 rw [← Array.find?_toList] at e
 unfold PySem.W.lookIn
 rw [hd]
 dsimp only
 split
 ·rename_i y q
  rw [q] at e
  exact congrArg some e
 ·rename_i q
  rw [q] at e
  have a : es.toList.any (·.refKey) = false := by
   rw [List.any_eq_false]
   intro y hy
   obtain ⟨z, t, hkey⟩ := hk y (Array.mem_toList_iff.mp hy)
   simp [DictEntry.refKey, hkey]
  have a' : ¬ es.toList.any (·.refKey) = true := by rw [a]; exact Bool.false_ne_true
  rw [if_neg a']
  exact congrArg some e
theorem ObjM.look {h : Heap} {x dx C : Addr} {mA : Str → Option Value} (I : ObjM h x dx C mA) : ∃ od, PySem.W.InstAt h x (PySem.W.instObj C dx) C (some od) ∧ ∀ name, PySem.W.lookIn name od = some (mA name) :=
 let ⟨od, ho, hl⟩ := lookIn_ns I.ns
 ⟨od, ⟨I.obj, rfl, rfl, ho⟩, hl⟩
section
variable {prog : Program} {w : World} {A : Around} {E : Value → Shared → Prop} {s : Shared} {K : PySem.W.Frag} {x dx C f : Addr} {mA : Str → Option Value} {name : Str} {v : Value}
theorem get_map {expr : Bool} {Q : Value → Shared → Prop} (X : K.In s.heap) (I : ObjM s.heap x dx C mA) (hg : PySem.W.plainGet K C name = true) (hh : PySem.W.hasDictIn K C = true)
  (ha : PySem.W.findIn K (.ref C) name = some none) (hv : mA name = some v) (hv' : PySem.W.handedIn v = true) (h : Q v { s with toks := s.toks + 1 }) :
  wpAny (model prog w) A (getAttr (.ref x) name expr) Q E s := by
 obtain ⟨od, J, hl⟩ := I.look
 exact PySem.W.get_value X J (PySem.W.plainGet_of hg).1 (PySem.W.findObj_own hh ha rfl (by rw [hl, hv])) hv' h
theorem get_meth {pl : Sem Bool} {Q : Value × List Value → Shared → Prop} (X : K.In s.heap) (I : ObjM s.heap x dx C mA) (hg : PySem.W.plainGet K C name = true)
  (hf : PySem.W.findIn K (.ref C) name = some (some (.ref f))) (ht : PySem.W.isFn K (.ref f) = true) (hv : mA name = none) (h : Q (.ref f, [.ref x]) s) :
  wpAny (model prog w) A (getMethod (.ref x) name pl) Q E s := by
 obtain ⟨od, J, hl⟩ := I.look
 exact PySem.W.method_fn X J (PySem.W.plainGet_of hg).1 (PySem.W.plainGet_of hg).2 hf (beq_iff_eq.mp ht) (by show (PySem.W.lookIn name od).map (·.isSome) = some false; rw [hl, hv]; rfl) h
theorem set_map {ns : List Str} {Q : Unit → Shared → Prop} (X : K.In s.heap) (I : ObjM s.heap x dx C mA)
  (hs : PySem.W.findIn K (.ref C) "__setattr__" = some (some (.builtin "object.__setattr__"))) (hp : PySem.W.plainOver K C = true) (ht : PySem.W.takerIn K C name = some none) (hh : PySem.W.hasDictIn K C = true)
  (hw : PySem.Within mA ns) (hsz : ns.length ≤ sizeLine)
  (h : ∀ h', ObjM h' x dx C (fun y => if y = name then some v else mA y) → Heap.SameBut dx s.heap h' → Q () { s with heap := h', toks := s.toks + 2 }) :
  wpAny (model prog w) A (setAttr (.ref x) name v) Q E s := by
 obtain ⟨od, J, hl⟩ := I.look
 refine PySem.W.set_plain X J hs (PySem.W.osa_open (s := { s with toks := s.toks + 1 }) (r := none) X J hp ht fun b => ?_)
 obtain ⟨cd, hc, hd'⟩ := PySem.W.any_some hh
 have hx : s.heap.get? x = some ⟨.ref C, some dx, .plain, #[]⟩ := I.obj
 refine wpAny_bind (wpAny_pure (wpAny_bind (wpAny_bind (wpAny_loadPart hx (wpAny_bind (PySem.W.Looks.here (s := { s with toks := s.toks + 1 }) (PySem.W.looks_clsIn X hc) ?_))))))
 rw [hd']
 refine wpAny_pure (a := some dx) (wpAny_bind (wpAny_pure (wpAny_bind ?_)))
 refine wpAny_nsSet1 (s := { s with toks := s.toks + 1 }) I.ns fun h' hn2 hs2 => ?_
 obtain ⟨oD, esD, epD, hoD, hdD, hcD⟩ := hn2.count (PySem.Within.cons name v hw)
 refine wpAny_bind (wpAny_lookBehind hoD (by rw [hdD]; exact pastItsLine_dict (Nat.le_trans hcD (by rw [List.length_cons]; omega))) ?_)
 exact wpAny_pure (h _ ⟨(hs2.2 _ (Ne.symm I.ne)).trans I.obj, hn2, I.ne⟩ hs2)
theorem make_map {R : Result → Shared → Prop} {vs : List Value} {kw : List (Str × Value)} (X : K.In s.heap) (hm : PySem.W.makesIn K C = true)
  (hi : PySem.W.findIn K (.ref C) "__init__" = some (some (.ref f))) (hf : PySem.W.typeIn K (.ref f) = some (.type "function"))
  (h : codeAny (model prog w) (A.under (.builtin "type.__call__" ⟨.ref C :: vs, kw⟩)) (.call (.ref f) ⟨.ref (s.heap.objs.size + 1) :: vs, kw⟩) (PySem.W.InitBack (s.heap.objs.size + 1) R)
   { s with heap := (s.heap.push PySem.W.emptyDict).push (PySem.W.instObj C s.heap.objs.size) }) :
  codeAny (model prog w) A (.call (.ref C) ⟨vs, kw⟩) R s := by
 obtain ⟨hh, g, d, t, os⟩ := s
 exact PySem.W.make_core (PySem.W.makes_of X hm) (PySem.W.looks_findIn X hi) (fun self => PySem.W.bind_fn X self hf) (.inl rfl) h
end
def putF (f : Str) (v : V) : List (Str × V) → List (Str × V)
 | [] => [(f, v)]
 | (g, x) :: r => if g = f then (g, v) :: r else (g, x) :: putF f v r
theorem lookup_putF (f g : Str) (v : V) : ∀ fs : List (Str × V), (putF f v fs).lookup g = if g = f then some v else fs.lookup g
 | [] => by
  show List.lookup g [(f, v)] = _
  by_cases h : g = f
  ·have hb : (g == f) = true := beq_iff_eq.mpr h
   simp only [List.lookup, hb, if_pos h]
  ·have hb : (g == f) = false := beq_eq_false_iff_ne.mpr h
   simp only [List.lookup, hb, if_neg h]
 | (k, x) :: r => by
  have ih := lookup_putF f g v r
  rw [show putF f v ((k, x) :: r) = (if k = f then (k, v) :: r else (k, x) :: putF f v r) from rfl]
  by_cases hk : k = f
  ·rw [if_pos hk]
   by_cases h : g = k
   ·have hb : (g == k) = true := beq_iff_eq.mpr h
    simp only [List.lookup, hb, if_pos (h.trans hk)]
   ·have hb : (g == k) = false := beq_eq_false_iff_ne.mpr h
    simp only [List.lookup, hb, if_neg (fun e : g = f => h (e.trans hk.symm))]
  ·rw [if_neg hk]
   by_cases h : g = k
   ·have hb : (g == k) = true := beq_iff_eq.mpr h
    simp only [List.lookup, hb, if_neg (fun e : g = f => hk (h.symm.trans e))]
   ·have hb : (g == k) = false := beq_eq_false_iff_ne.mpr h
    simp only [List.lookup, hb]
    exact ih
theorem keys_putF (f : Str) (v : V) : ∀ fs : List (Str × V), f ∈ (putF f v fs).map (·.1) ∧ ∀ g, g ∈ fs.map (·.1) → g ∈ (putF f v fs).map (·.1)
 | [] => ⟨by simp [putF], fun g h => by simp at h⟩
 | (k, x) :: r => by
  obtain ⟨i1, i2⟩ := keys_putF f v r
  rw [show putF f v ((k, x) :: r) = (if k = f then (k, v) :: r else (k, x) :: putF f v r) from rfl]
  by_cases hk : k = f
  ·rw [if_pos hk]
   subst hk
   exact ⟨by simp, fun g h => by simpa using h⟩
  ·rw [if_neg hk]
   refine ⟨?_, fun g h => ?_⟩
   ·rw [List.map_cons]
    exact List.mem_cons_of_mem _ i1
   ·rw [List.map_cons] at h ⊢
    rcases List.mem_cons.mp h with e | e
    ·exact List.mem_cons.mpr (.inl e)
    ·exact List.mem_cons_of_mem _ (i2 g e)
theorem length_putF (f : Str) (v : V) : ∀ fs : List (Str × V), (putF f v fs).length ≤ fs.length + 1
 | [] => by simp [putF]
 | (k, x) :: r => by
  have ih := length_putF f v r
  rw [show putF f v ((k, x) :: r) = (if k = f then (k, v) :: r else (k, x) :: putF f v r) from rfl]
  by_cases hk : k = f
  ·rw [if_pos hk, List.length_cons, List.length_cons]; omega
  ·rw [if_neg hk, List.length_cons, List.length_cons]; omega
theorem RelO.some_of {v : V} {o : Option Value} (r : RelO (some v) o) : ∃ u, o = some u ∧ RelV v u := by
 cases o with
 | none => exact (show False from r).elim
 | some u => exact ⟨u, rfl, r⟩
theorem RelO.none_of {o : Option Value} (r : RelO none o) : o = none := by
 cases o with
 | none => rfl
 | some u => exact (show False from r).elim
theorem handed_of {v : V} {u : Value} (r : RelV v u) : PySem.W.handedIn u = true := by
 cases v with
 | non => cases (show u = Value.none from r); rfl
 | bl b => cases (show u = Value.bool b from r); rfl
 | int i => obtain ⟨t, e⟩ := (show ∃ t, u = Value.int i t from r); cases e; rfl
 | str x => obtain ⟨t, e⟩ := (show ∃ t, u = Value.str x t from r); cases e; rfl
 | byt b => obtain ⟨t, e⟩ := (show ∃ t, u = Value.bytes b t from r); cases e; rfl
 | flt b => obtain ⟨t, e⟩ := (show ∃ t, u = Value.float b t from r); cases e; rfl
 | ref a => cases (show u = Value.ref a from r); rfl
 | ty n => cases (show u = Value.type n from r); rfl
section
variable {P : Program} {w : World} {H H' : Hp} {h h' : Heap} {a C dx : Addr} {fs fs' : List (Str × V)}
theorem ins_get (hok : HOk P w H h) (e : H a = some (.ins C dx fs)) : ∃ mA, ObjM h a dx C mA ∧ (∀ f, RelO (fs.lookup f) (mA f)) ∧ PySem.Within mA (fs.map (·.1)) ∧ fs.length ≤ 1000 ∧ H dx = some (.own a) := by
 obtain ⟨d, z, ne, ob, mA, n, r, q⟩ := (show ObjOk P w H h a (.ins C dx fs) from hok a _ e)
 exact ⟨mA, ⟨ob, n, ne⟩, r, q, z, d⟩
end
structure Cls (K : PySem.W.Frag) (C : Addr) : Prop where
 pg : PySem.W.plainGet K C Str.empty = true
 hd : PySem.W.hasDictIn K C = true
 po : PySem.W.plainOver K C = true
 sa : PySem.W.findIn K (.ref C) "__setattr__" = some (some (.builtin "object.__setattr__"))
theorem Cls.get {K : PySem.W.Frag} {C : Addr} (c : Cls K C) (f : Str) : PySem.W.plainGet K C f = true := c.pg
def NoAttr (K : PySem.W.Frag) (C : Addr) (f : Str) : Prop := PySem.W.findIn K (.ref C) f = some none
theorem NoAttr.taker {K : PySem.W.Frag} {C : Addr} {f : Str} (n : NoAttr K C f) : PySem.W.takerIn K C f = some none := by
 unfold PySem.W.takerIn
 rw [show PySem.W.findIn K (.ref C) f = some none from n]
 rfl
structure Con (K : PySem.W.Frag) (C : Addr) (f : Str) (v : V) (u : Value) : Prop where
 at_ : PySem.W.findIn K (.ref C) f = some (some u)
 rel : RelV v u
 get : PySem.W.specialIn K u "__get__" = some none
 cp : PySem.W.copiedNames.contains f = false
structure Meth (K : PySem.W.Frag) (C : Addr) (m : Str) (f : Addr) : Prop where
 at_ : PySem.W.findIn K (.ref C) m = some (some (.ref f))
 fn : PySem.W.isFn K (.ref f) = true
 kp : PySem.W.keepIn K (.ref f) = true
section
variable {X : Cx} {pins : List (Addr × Obj)} {σ : St} {H : Hp} {s : Shared} {a C dx : Addr} {fs : List (Str × V)} {f : Str} {v : V} {A : Around} {E : Value → Shared → Prop}
theorem getattr_ok {b : Bool} {Q : Value → Shared → Prop} (I : Inv X pins σ H s) (e : H a = some (.ins C dx fs)) (c : Cls X.K C) (n : NoAttr X.K C f) (l : fs.lookup f = some v)
  (h : ∀ u s', Inv X pins σ H s' → RelV v u → Q u s') : wpAny (model X.prog X.w) A (getAttr (.ref a) f b) Q E s := by
 obtain ⟨mA, O, r, _, _, _⟩ := ins_get I.hok e
 obtain ⟨u, hu, ru⟩ := RelO.some_of (v := v) (o := mA f) (by rw [← l]; exact r f)
 exact get_map I.kIn O (c.get f) c.hd n hu (handed_of ru) (h u _ (I.tok _) ru)
theorem getmeth_ok {m : Str} {g : Addr} {pl : Sem Bool} {Q : Value × List Value → Shared → Prop} (I : Inv X pins σ H s) (e : H a = some (.ins C dx fs)) (c : Cls X.K C) (k : Meth X.K C m g) (l : fs.lookup m = none)
  (h : Q (.ref g, [.ref a]) s) : wpAny (model X.prog X.w) A (getMethod (.ref a) m pl) Q E s := by
 obtain ⟨mA, O, r, _, _, _⟩ := ins_get I.hok e
 have hn : mA m = none := RelO.none_of (by rw [← l]; exact r m)
 exact get_meth I.kIn O (c.get m) k.at_ k.fn hn h
theorem setattr_ok {y : V} {u : Value} {Q : Unit → Shared → Prop} (I : Inv X pins σ H s) (e : H a = some (.ins C dx fs)) (c : Cls X.K C) (n : NoAttr X.K C f) (hl : fs.length < 1000) (ry : RelV y u)
  (h : ∀ s', Inv X pins σ (upd H a (.ins C dx (putF f y fs))) s' → Q () s') : wpAny (model X.prog X.w) A (setAttr (.ref a) f u) Q E s := by
 obtain ⟨mA, O, r, wi, _, ho⟩ := ins_get I.hok e
 have hz : (fs.map (·.1)).length ≤ sizeLine := by rw [List.length_map, sizeLine_eq]; omega
 refine set_map I.kIn O c.sa c.po n.taker c.hd wi hz fun h' O' sb => h _ ?_
 have hd : ∃ o, h'.get? dx = some o := let ⟨o, _, _, e', _⟩ := O'.ns; ⟨o, e'⟩
 refine I.write (x := a) (e := dx) (by rw [e]; exact True.intro) (.inr ho) (fun b q hb z => (sb.2 b hb).trans z) hd ?_
 refine ⟨by rw [upd_ne O.ne]; exact ho, ?_, O.ne, O'.obj, _, O'.ns, fun g => ?_, fun g hg => ?_⟩
 ·have := length_putF f y fs; omega
 ·show RelO ((putF f y fs).lookup g) (if g = f then some u else mA g)
  rw [lookup_putF]
  by_cases q : g = f
  ·rw [if_pos q, if_pos q]; exact ry
  ·rw [if_neg q, if_neg q]; exact r g
 ·by_cases q : g = f
  ·rw [q]; exact (keys_putF f y fs).1
  ·refine (keys_putF f y fs).2 g (wi g fun z => hg ?_)
   show (if g = f then some u else mA g) = none
   rw [if_neg q]; exact z
theorem Inv.made (I : Inv X pins σ H s) : Inv X pins σ (upd (upd H s.heap.objs.size (.own (s.heap.objs.size + 1))) (s.heap.objs.size + 1) (.ins C s.heap.objs.size []))
  { s with heap := (s.heap.push PySem.W.emptyDict).push (PySem.W.instObj C s.heap.objs.size) } := by
 have e1 : (s.heap.push PySem.W.emptyDict).get? s.heap.objs.size = some PySem.W.emptyDict := Heap.get?_push_size s.heap rfl
 have e2 : ((s.heap.push PySem.W.emptyDict).push (PySem.W.instObj C s.heap.objs.size)).get? (s.heap.objs.size + 1) = some (PySem.W.instObj C s.heap.objs.size) := by
  have := Heap.get?_push_size (s.heap.push PySem.W.emptyDict) (o := PySem.W.instObj C s.heap.objs.size) rfl
  rwa [Heap.size_push] at this
 have e3 : (s.heap.push PySem.W.emptyDict).Ns s.heap.objs.size (fun _ => none) := ⟨PySem.W.emptyDict, #[], _, e1, rfl, (fun e he => absurd he (by simp)), fun _ => rfl⟩
 have I1 := I.laid (a := s.heap.objs.size) (o := .own (s.heap.objs.size + 1)) (h' := s.heap.push PySem.W.emptyDict) (t' := s.toks) (fun b u q => Heap.get?_push_of_some _ q) (Nat.le_refl _) ⟨_, e1⟩
 refine I1.laid (a := s.heap.objs.size + 1) (o := .ins C s.heap.objs.size []) (t' := s.toks) (fun b u q => Heap.get?_push_of_some _ q) (Nat.le_of_eq (Heap.size_push _ _)) ?_
 have ne : s.heap.objs.size ≠ s.heap.objs.size + 1 := Nat.ne_of_lt (Nat.lt_succ_self _)
 refine ⟨by rw [upd_ne ne, upd_same], Nat.zero_le _, ne, e2, fun _ => none, (Heap.Ns1.of_empty e3).at fun o q => Heap.get?_push_of_some _ q, fun _ => True.intro, fun y hy => absurd rfl hy⟩
theorem attr_of {prog : Program} {w : World} {env : Env} {e : Expr} {f : Str} {pos : Pos} {s : Shared} {Q : Value → Shared → Prop} (hb : attributeBase e f env (eval e env) = eval e env)
  (h : wpAny (model prog w) A (eval e env) (fun o s₁ => wpAny (model prog w) A (getAttr o f true) Q E s₁) E s) : wpAny (model prog w) A (eval (.Attribute e f pos) env) Q E s :=
 Attribute_any_ h (by rw [arm_eval_Attribute, hb])
end
def tFld (K : PySem.W.Frag) (ta : TE) (f : Str) : TE := fun σ H Q => ta σ H fun x H1 => ∃ a C dx fs v, x = .ref a ∧ H1 a = some (.ins C dx fs) ∧ Cls K C ∧ NoAttr K C f ∧ fs.lookup f = some v ∧ Q v H1
def sFld (K : PySem.W.Frag) (ta tv : TE) (f : Str) : TS := fun D σ H => tv σ H fun y H1 => ta σ H1 fun x H2 => ∃ a C dx fs, x = .ref a ∧ H2 a = some (.ins C dx fs) ∧ Cls K C ∧ NoAttr K C f ∧ fs.length < 1000 ∧
 D.nx σ (upd H2 a (.ins C dx (putF f y fs)))
section
variable {X : Cx} {o e value : Expr} {f : Str} {pos pos' tpos : Pos} {ta tv : TE}
theorem pe_fld (he : PE X e ta) (hb : attributeBase e f X.env (eval e X.env) = eval e X.env) : PE X (.Attribute e f pos) (tFld X.K ta f) := by
 intro pins s σ H Q I h
 refine attr_of hb (thn (he pins s σ H _ I h) fun u s1 ⟨x, H1, I1, rx, a, C, dx, fs, v, ex, ea, c, n, l, q⟩ => ?_)
 subst ex
 obtain rfl : u = Value.ref a := rx
 exact getattr_ok I1 ea c n l fun u' s2 I2 ru => ⟨v, H1, I2, ru, q⟩
theorem ps_fld (ha : PE X o ta) (hv : PE X value tv) (hs : swapsWith value (some (.Attribute o f pos')) pos.line X.env = pure false) : PS X (.Assign [.Attribute o f pos'] value pos) (sFld X.K ta tv f) := by
 intro pins s σ H D I h
 refine plainObj_wpAny_Assign_Attribute (thn (hv pins s σ H _ I h) fun u s1 ⟨y, H1, I1, ry, q⟩ => thn (ha pins s1 σ H1 _ I1 q) fun ov s2 ⟨x, H2, I2, rx, a, C, dx, fs, ex, ea, c, n, l, q2⟩ => ?_) hs
 subst ex
 obtain rfl : ov = Value.ref a := rx
 exact setattr_ok I2 ea c n l ry fun s3 I3 => ⟨σ, _, I3, q2⟩
end
section
variable {X : Cx} {pins : List (Addr × Obj)} {σ : St} {H : Hp} {s : Shared} {A : Around} {E : Value → Shared → Prop} {Q : Value → Shared → Prop} {c : Value} {b : Bool}
inductive TyOf (K : PySem.W.Frag) (H : Hp) : V → Value → Prop where
  | non : TyOf K H .non (.type "NoneType")
  | bl (x : Bool) : TyOf K H (.bl x) (.type "bool")
  | int (i : Int) : TyOf K H (.int i) (.type "int")
  | str (x : Str) : TyOf K H (.str x) (.type "str")
  | flt (x : UInt64) : TyOf K H (.flt x) (.type "float")
  | lst {a : Addr} {xs : List V} (e : H a = some (.lst xs)) : TyOf K H (.ref a) (.type "list")
  | frz {a : Addr} {o : Obj} {xs : List V} (e : H a = some (.frz o (.lst xs))) : TyOf K H (.ref a) (.type "list")
  | tup {a : Addr} {xs : List V} (e : H a = some (.tup xs)) : TyOf K H (.ref a) (.type "tuple")
  | dK {a : Addr} {kvs : List (Key × V)} (e : H a = some (.dK kvs)) : TyOf K H (.ref a) (.type "dict")
  | dT {a : Addr} {kvs : List (List Key × V)} (e : H a = some (.dT kvs)) : TyOf K H (.ref a) (.type "dict")
  | ins {a C dx : Addr} {fs : List (Str × V)} (e : H a = some (.ins C dx fs)) (cl : Cls K C) (ha : PySem.W.findIn K (.ref C) "__class__" = some (some (.builtin "object.__class__")))
      (hn : PySem.W.specialIn K (.builtin "object.__class__") "__get__" = some (some (.builtin "getset_descriptor.__get__"))) (htk : PySem.W.takesIn K (.builtin "object.__class__") = some true)
      (hm : PySem.W.mroIn K C (.type "object") = some true) : TyOf K H (.ref a) (.ref C)
theorem isinst_ok {x : V} {u t : Value} (I : Inv X pins σ H s) (rx : RelV x u) (ty : TyOf X.K H x t) (e : PySem.W.kitOne X.K t c = some b) (h : ∀ tk, Q (.bool b) { s with toks := tk }) :
  wpAny (model X.prog X.w) A (call (.builtin "isinstance") [u, c]) Q E s := by
 cases ty with
 | non => cases (show u = Value.none from rx); exact PySem.W.kia_one PySem.W.kitx_none I.kIn True.intro e (fun z => nomatch z) h
 | bl y => cases (show u = Value.bool y from rx); exact PySem.W.kia_one PySem.W.kitx_bool I.kIn True.intro e (fun z => nomatch z) h
 | int i => obtain ⟨t, q⟩ := (show ∃ t, u = Value.int i t from rx); cases q; exact PySem.W.kia_one PySem.W.kitx_int I.kIn True.intro e (fun z => nomatch z) h
 | str y => obtain ⟨t, q⟩ := (show ∃ t, u = Value.str y t from rx); cases q; exact PySem.W.kia_one PySem.W.kitx_str I.kIn True.intro e (fun z => nomatch z) h
 | flt y => obtain ⟨t, q⟩ := (show ∃ t, u = Value.float y t from rx); cases q; exact PySem.W.kia_one PySem.W.kitx_float I.kIn True.intro e (fun z => nomatch z) h
 | @lst a xs ea =>
  cases (show u = Value.ref a from rx)
  obtain ⟨_, _, n, _, h1⟩ := (show ObjOk X.prog X.w H s.heap a (.lst xs) from I.hok a _ ea)
  exact PySem.W.kia_one PySem.W.kitx_list I.kIn ⟨_, h1, rfl⟩ e (fun z => nomatch z) h
 | @frz a ob xs ea =>
  cases (show u = Value.ref a from rx)
  obtain ⟨_, _, _, n, _, h1⟩ := (show ObjOk X.prog X.w H s.heap a (.frz ob (.lst xs)) from I.hok a _ ea)
  exact PySem.W.kia_one PySem.W.kitx_list I.kIn ⟨_, h1, rfl⟩ e (fun z => nomatch z) h
 | @tup a xs ea =>
  cases (show u = Value.ref a from rx)
  obtain ⟨_, _, _, p⟩ := (show ObjOk X.prog X.w H s.heap a (.tup xs) from I.hok a _ ea)
  obtain ⟨o, h1, h2, _⟩ := p
  exact PySem.W.kia_one PySem.W.kitx_tuple I.kIn ⟨o, h1, h2⟩ e (fun z => nomatch z) h
 | @dK a kvs ea =>
  cases (show u = Value.ref a from rx)
  obtain ⟨_, _, vs, _, p⟩ := (show ObjOk X.prog X.w H s.heap a (.dK kvs) from I.hok a _ ea)
  obtain ⟨o, es, ep, h1, h2, _⟩ := p
  exact PySem.W.kia_one PySem.W.kitx_dict I.kIn ⟨o, h1, h2.1⟩ e (fun z => nomatch z) h
 | @dT a kvs ea =>
  cases (show u = Value.ref a from rx)
  obtain ⟨_, _, xs, _, o, es, ep, h1, h2, _⟩ := (show ObjOk X.prog X.w H s.heap a (.dT kvs) from I.hok a _ ea)
  exact PySem.W.kia_one PySem.W.kitx_dict I.kIn ⟨o, h1, h2.1⟩ e (fun z => nomatch z) h
 | @ins a C dx fs ea cl ha hn htk hm =>
  cases (show u = Value.ref a from rx)
  obtain ⟨mA, O, _⟩ := ins_get I.hok ea
  obtain ⟨od, J, _⟩ := O.look
  exact PySem.W.kia_one (PySem.W.kitx_own (cl.get _) cl.hd ha hn htk hm) I.kIn J e (fun z => nomatch z) h
end
end L2
namespace L2
open PySem PySem.Spec PyProof.Rows
structure Room (k : Nat) (A : Around) : Prop where
 hd : A.handled = none
 dp : A.depth + 3 * k + 5 < recursionLimit
 un : A.units + 16 * k + 200 < cLine
theorem Room.mono {j k : Nat} {A : Around} (r : Room k A) (h : j ≤ k) : Room j A := ⟨r.hd, by have := r.dp; omega, by have := r.un; omega⟩
theorem Room.deeper {k : Nat} {A : Around} (r : Room (k + 1) A) (env : Env) : Room k (A.deeper env) :=
 ⟨r.hd, by have := r.dp; show A.depth + 1 + 3 * k + 5 < _; omega, by have := r.un; show A.units + 3 + 16 * k + 200 < _; omega⟩
theorem make_depth {A : Around} {C : Addr} {us : List Value} {kw : List (Str × Value)} : (A.under (.builtin "type.__call__" ⟨.ref C :: us, kw⟩)).depth = A.depth + 1 := by
 first | rfl | simp [Around.under, Code.weight, Code.isCreation, Code.isGuard, Code.isCaller, Code.frames, Code.isFrame, guardIds]
theorem make_units {A : Around} {C : Addr} {us : List Value} {kw : List (Str × Value)} : (A.under (.builtin "type.__call__" ⟨.ref C :: us, kw⟩)).units = A.units + 1 := by
 first | rfl | simp [Around.under, Code.cUnits, Code.frames, Code.isFrame]
theorem Room.make {k : Nat} {A : Around} (r : Room (k + 1) A) (C : Addr) (us : List Value) (kw : List (Str × Value)) : Room k (A.under (.builtin "type.__call__" ⟨.ref C :: us, kw⟩)) :=
 ⟨r.hd, by have := r.dp; rw [make_depth]; omega, by have := r.un; rw [make_units]; omega⟩
theorem Room.depth {k : Nat} {A : Around} (r : Room k A) : A.depth < recursionLimit := by have := r.dp; omega
theorem Room.units {k : Nat} {A : Around} (r : Room k A) : A.units + 64 < cLine := by have := r.un; omega
def tNil : TA := fun _ H Q => Q [] H
def tCons (ta : TE) (tr : TA) : TA := fun σ H Q => ta σ H fun x H1 => tr σ H1 fun xs H2 => Q (x :: xs) H2
section
variable {X : Cx} {e : Expr} {es : List Expr} {te : TE} {t : TA} {pos : Pos}
theorem pa_nil : PA X [] tNil := fun _ _ _ _ H Q I h => Calls.spliced_nil ⟨[], H, I, .nil, h⟩
theorem pa_cons (ha : PE X e te) (hr : PA X es t) (hs : starEach (e :: es) X.env = (false, eval e X.env) :: starEach es X.env := by rfl) : PA X (e :: es) (tCons te t) := by
 intro pos pins s σ H Q I h
 rw [hs]
 show wpAny _ _ (spliced ((false, eval e X.env) :: backTo pos (starEach es X.env))) _ _ s
 refine Calls.spliced_cons (thn (ha pins s σ H _ I h) fun u s1 ⟨x, H1, I1, r1, q1⟩ => ?_)
 exact thn (hr pos pins s1 σ H1 _ I1 q1) fun us s2 ⟨xs, H2, I2, r2, q2⟩ => ⟨x :: xs, H2, I2, .cons r1 r2, q2⟩
def tTup (t : TA) : TE := fun σ H Q => t σ H fun xs H1 => xs.length ≤ sizeLine ∧ ∀ p, H1 p = none → Q (.ref p) (upd H1 p (.tup xs))
def tLst (t : TA) : TE := fun σ H Q => t σ H fun xs H1 => xs.length ≤ sizeLine ∧ ∀ p, H1 p = none → Q (.ref p) (upd H1 p (.lst xs))
theorem pe_tup {x1} (h : PA X es t) : PE X (.Tuple es x1 pos) (tTup t) := by
 intro pins s σ H Q I hq
 refine wpAny_Tuple_spliced (thn (h pos pins s σ H _ I hq) fun us s1 ⟨xs, H1, I1, r, z, q⟩ => ⟨by rw [← r.length]; exact z, ?_⟩)
 have hf : H1 s1.heap.objs.size = none := I1.hok.fresh (Nat.le_refl _)
 refine ⟨.ref s1.heap.objs.size, upd H1 s1.heap.objs.size (.tup xs), I1.laid (t' := s1.toks) (fun b u e => Heap.get?_push_of_some _ e) (Nat.le_refl _) ?_, rfl, q _ hf⟩
 exact ⟨z, us, r, ⟨_, Heap.get?_push_size _ rfl, rfl, _, rfl⟩⟩
theorem pe_lst (h : PA X es t) : PE X (.List es pos) (tLst t) := by
 intro pins s σ H Q I hq
 refine wpAny_List_spliced (thn (h pos pins s σ H _ I hq) fun us s1 ⟨xs, H1, I1, r, z, q⟩ => ⟨by rw [← r.length]; exact z, ?_⟩)
 have hf : H1 s1.heap.objs.size = none := I1.hok.fresh (Nat.le_refl _)
 refine ⟨.ref s1.heap.objs.size, upd H1 s1.heap.objs.size (.lst xs), I1.laid (t' := s1.toks) (fun b u e => Heap.get?_push_of_some _ e) (Nat.le_refl _) ?_, rfl, q _ hf⟩
 exact ⟨z, us, 0, r, Heap.get?_push_size _ rfl⟩
end
abbrev Sp := List V → Hp → VK → XK → Prop
abbrev CXT := List Env → Hp → Shared → XK → Value → Shared → Prop
structure Env0 (P : Program) (w : World) (K : PySem.W.Frag) (mg : Str → Option Value) (base : Heap) (A : Around) (outer : List Env) (s : Shared) (H : Hp) : Prop where
 frames : A.frames = some outer
 mod : Mod K mg base
 bs : ∀ b o, base.get? b = some o → s.heap.get? b = some o ∧ H b = none
 bsz : base.objs.size ≤ s.heap.objs.size
 funs : s.heap.FunFrames base outer
 frf : ∀ b ∈ frs outer, H b = none
 hok : HOk P w H s.heap
 bare : AllBare s.gens
def CE (outer : List Env) (P : Program) (w : World) (H : Hp) (s : Shared) (Q : VK) (u : Value) (s' : Shared) : Prop :=
 ∃ v H', s'.os = s.os ∧ AllBare s'.gens ∧ Un (frs outer) [] H H' s.heap s'.heap ∧ HOk P w H' s'.heap ∧ RelV v u ∧ Q v H'
def CR (CX : CXT) (outer : List Env) (P : Program) (w : World) (H : Hp) (s : Shared) (Q : VK) (E : XK) (r : Result) (s' : Shared) : Prop :=
 match r with
 | .ok (.ret u) => CE outer P w H s Q u s'
 | .ok _ => False
 | .error e => CX outer H s E e s'
structure FnOk (P : Program) (w : World) (K : PySem.W.Frag) (mg : Str → Option Value) (base : Heap) (CX : CXT) (k : Nat) (f : Addr) (fd : FuncData) (ps : List Str) (sp : Sp) : Prop where
 len : ∀ vs H Q E, sp vs H Q E → vs.length = ps.length
 run : ∀ (A : Around) (outer : List Env) (s : Shared) (H : Hp) (args : Args) (us : List Value) (vs : List V) (Q : VK) (E : XK), Room k A → Env0 P w K mg base A outer s H → BindsTo s fd args (ps.zip us) → Vals vs us → sp vs H Q E →
  codeAny (model P w) A (.call (.ref f) args) (CR CX outer P w H s Q E) s
theorem Env0.make {P : Program} {w : World} {K : PySem.W.Frag} {mg : Str → Option Value} {base : Heap} {A : Around} {outer : List Env} {s : Shared} {H : Hp} (e : Env0 P w K mg base A outer s H) (C : Addr) (us : List Value) (kw : List (Str × Value)) :
  Env0 P w K mg base (A.under (.builtin "type.__call__" ⟨.ref C :: us, kw⟩)) outer s H := ⟨by first | exact e.frames | (simpa [Around.under, Code.envs, Code.isFrame, pushEnvs] using e.frames), e.mod, e.bs, e.bsz, e.funs, e.frf, e.hok, e.bare⟩
section
variable {X : Cx} {pins : List (Addr × Obj)} {σ : St} {H : Hp} {s s' : Shared}
theorem Inv.env0 (I : Inv X pins σ H s) : Env0 X.prog X.w X.K X.mg X.base X.A X.stack s H :=
 ⟨I.ok.frames, I.ok.mod, I.bs, Nat.le_trans I.ok.bsz I.sz, I.stack, I.stkFree, I.hok, I.bare⟩
theorem Inv.after {Q : VK} {u : Value} (I : Inv X pins σ H s) (h : CE X.stack X.prog X.w H s Q u s') : EP X pins σ Q u s' := by
 obtain ⟨v, H', os, bare, un, hok, r, q⟩ := h
 obtain ⟨hh, g, d, t, os'⟩ := s'
 obtain rfl : os' = s.os := os
 exact ⟨v, H', I.call (h' := hh) (g' := g) (d' := d) (t' := t) (ch := []) un hok bare (fun b z => absurd z (by simp)), r, q⟩
end
def tCall (sp : Sp) (dvs : List V) (E : XK) (t : TA) : TE := fun σ H Q => t σ H fun vs H1 => sp (vs ++ dvs) H1 Q E
def tMeth (C : Addr) (m : Str) (sp : Sp) (dvs : List V) (E : XK) (ta : TE) (t : TA) : TE := fun σ H Q => ta σ H fun x H1 => ∃ a dx fs, x = .ref a ∧ H1 a = some (.ins C dx fs) ∧ fs.lookup m = none ∧
 t σ H1 fun vs H2 => sp (x :: (vs ++ dvs)) H2 Q E
def tMake (C : Addr) (sp : Sp) (dvs : List V) (E : XK) (t : TA) : TE := fun σ H Q => t σ H fun vs H1 => ∀ x dx, H1 x = none → H1 dx = none → dx ≠ x →
 sp (.ref x :: (vs ++ dvs)) (upd (upd H1 dx (.own x)) x (.ins C dx [])) (fun v H2 => v = .non ∧ Q (.ref x) H2) E
def Binds (K : PySem.W.Frag) (fd : FuncData) (ps : List Str) (ds : List Value) : Prop :=
 ∀ (s : Shared) (us : List Value), K.In s.heap → (us ++ ds).length = ps.length → BindsTo s fd ⟨us, []⟩ (ps.zip (us ++ ds))
theorem Binds.all {K : PySem.W.Frag} {fd : FuncData} {ps : List Str} (h : ∀ us : List Value, us.length = ps.length → bindArgs fd ⟨us, []⟩ = pure (ps.zip us)) : Binds K fd ps [] := fun s us _ hl => by
 rw [List.append_nil] at hl ⊢
 exact .of_eq (h us hl)
def Passes (CX : CXT) (X : Cx) (E : XK) : Prop := ∀ (pins : List (Addr × Obj)) (σ : St) (H : Hp) (s : Shared) (e : Value) (s' : Shared), Inv X pins σ H s → CX X.stack H s E e s' → X.xe e s'
section
variable {X : Cx} {CX : CXT} {k : Nat} {f C : Addr} {fd : FuncData} {ps : List Str} {sp : Sp} {dvs : List V} {ds : List Value} {E : XK} {x m : Str} {p pos apos : Pos} {e o : Expr} {es : List Expr} {ta : TE} {t : TA}
theorem run_fn {pins : List (Addr × Obj)} {σ : St} {H : Hp} {s : Shared} {Q : VK} {us : List Value} {vs : List V} (F : FnOk X.prog X.w X.K X.mg X.base CX k f fd ps sp) (hr : Room k X.A) (hb : Binds X.K fd ps ds) (hd : Vals dvs ds) (hx : Passes CX X E)
  (I : Inv X pins σ H s) (r : Vals vs us) (h : sp (vs ++ dvs) H Q E) : wpAny (model X.prog X.w) X.A (call (.ref f) us) (EP X pins σ Q) X.xe s := by
 have r2 : Vals (vs ++ dvs) (us ++ ds) := r.append hd
 have hl : (us ++ ds).length = ps.length := by rw [← r2.length]; exact F.len _ _ _ _ h
 refine wpAny_call (codeAny_mono (F.run X.A X.stack s H ⟨us, []⟩ (us ++ ds) (vs ++ dvs) Q E hr I.env0 (hb s us I.kIn hl) r2 h) fun r s' hq => ?_)
 cases r with
 | error e => exact hx pins σ H s e s' I hq
 | ok fl =>
  cases fl with
  | ret u => exact I.after hq
  | next => exact False.elim hq
  | brk => exact False.elim hq
  | cont => exact False.elim hq
theorem pe_call (F : FnOk X.prog X.w X.K X.mg X.base CX k f fd ps sp) (hr : Room k X.A) (hg : Gl X x) (hm : X.mg x = some (.ref f)) (hk : PySem.W.keepIn X.K (.ref f) = true) (hb : Binds X.K fd ps ds) (hd : Vals dvs ds) (hx : Passes CX X E)
  (ha : PA X (e :: es) t) (hdb : (x == ("__debug__" : Str)) = false := by decide) (he : starEach (e :: es) X.env = (false, eval e X.env) :: starEach es X.env := by rfl) (hpl : (backTo pos (starEach es X.env)).any (·.1) = false := by rfl) :
  PE X (.Call (.Name x p) (e :: es) [] pos) (tCall sp dvs E t) := by
 intro pins s σ H Q I h
 refine wpAny_Call_Name_kw (ld_glob I hg hm ?_ hdb)
 refine PySem.W.callWith_K (h₀ := X.base) I.ok.mod.kin hk (thn (ha pos pins s σ H _ I h) fun us s1 ⟨vs, H1, I1, r, q⟩ => ⟨I1.kIn, ?_⟩) he hpl
 exact run_fn F hr hb hd hx I1 r q
theorem pe_meth {pl : Sem Bool} (he : PE X o ta) (c : Cls X.K C) (hm : Meth X.K C m f) (F : FnOk X.prog X.w X.K X.mg X.base CX k f fd ps sp) (hr : Room k X.A) (hb : Binds X.K fd ps ds) (hd : Vals dvs ds) (hx : Passes CX X E) (ha : PA X (e :: es) t)
  (hst : starEach (e :: es) X.env = (false, eval e X.env) :: starEach es X.env := by rfl) (hpl : (backTo pos (starEach es X.env)).any (·.1) = false := by rfl)
  (ht : eval (.Call (.Attribute o m apos) (e :: es) [] pos) X.env = (do
   let ov ← eval o X.env
   standAt apos.atName
   let (f, first) ← holding [ov] (getMethod ov m pl)
   callWith pos f first (backTo pos (starEach (e :: es) X.env)) (backToKw pos (keywordEach [] X.env))) := by rfl) :
  PE X (.Call (.Attribute o m apos) (e :: es) [] pos) (tMeth C m sp dvs E ta t) := by
 intro pins s σ H Q I h
 refine PySem.W.methodCall_KW (pl := pl) (thn (he pins s σ H _ I h) fun u s1 ⟨x, H1, I1, rx, a, dx, fs, ex, ea, l, q⟩ => ?_) ht
 subst ex
 obtain rfl : u = Value.ref a := rx
 refine getmeth_ok I1 ea c hm l ?_
 refine PySem.W.callWith_K (first := [.ref a]) (h₀ := X.base) I.ok.mod.kin hm.kp (thn (ha pos pins s1 σ H1 _ I1 q) fun us s2 ⟨vs, H2, I2, r, q2⟩ => ⟨I2.kIn, ?_⟩) hst hpl
 exact run_fn (us := .ref a :: us) (vs := .ref a :: vs) F hr hb hd hx I2 (.cons rfl r) q2
theorem pe_meth0 {pl : Sem Bool} (he : PE X o ta) (c : Cls X.K C) (hm : Meth X.K C m f) (F : FnOk X.prog X.w X.K X.mg X.base CX k f fd ps sp) (hr : Room k X.A) (hb : Binds X.K fd ps ds) (hd : Vals dvs ds) (hx : Passes CX X E)
  (ht : eval (.Call (.Attribute o m apos) [] [] pos) X.env = (do
   let ov ← eval o X.env
   standAt apos.atName
   let (f, first) ← holding [ov] (getMethod ov m pl)
   callWith pos f first (backTo pos (starEach [] X.env)) (backToKw pos (keywordEach [] X.env))) := by rfl) :
  PE X (.Call (.Attribute o m apos) [] [] pos) (tMeth C m sp dvs E ta tNil) := by
 intro pins s σ H Q I h
 refine PySem.W.methodCall_KW (pl := pl) (thn (he pins s σ H _ I h) fun u s1 ⟨x, H1, I1, rx, a, dx, fs, ex, ea, l, q⟩ => ?_) ht
 subst ex
 obtain rfl : u = Value.ref a := rx
 refine getmeth_ok I1 ea c hm l ?_
 exact PySem.W.callWith_K0 (first := [.ref a]) I1.kIn hm.kp (run_fn (us := [.ref a]) (vs := [.ref a]) F hr hb hd hx I1 (.cons rfl .nil) q)
structure Mk (K : PySem.W.Frag) (C f : Addr) : Prop where
 makes : PySem.W.makesIn K C = true
 init : PySem.W.findIn K (.ref C) "__init__" = some (some (.ref f))
 fn : PySem.W.isFn K (.ref f) = true
 kp : PySem.W.keepIn K (.ref C) = true
theorem run_make {pins : List (Addr × Obj)} {σ : St} {H : Hp} {s : Shared} {Q : VK} {us : List Value} {vs : List V} (M : Mk X.K C f) (F : FnOk X.prog X.w X.K X.mg X.base CX k f fd ps sp) (hr : Room (k + 1) X.A) (hb : Binds X.K fd ps ds) (hd : Vals dvs ds)
  (hx : Passes CX X E) (I : Inv X pins σ H s) (r : Vals vs us)
  (h : ∀ x dx, H x = none → H dx = none → dx ≠ x → sp (.ref x :: (vs ++ dvs)) (upd (upd H dx (.own x)) x (.ins C dx [])) (fun v H2 => v = .non ∧ Q (.ref x) H2) E) :
  wpAny (model X.prog X.w) X.A (call (.ref C) us) (EP X pins σ Q) X.xe s := by
 have hq := h (s.heap.objs.size + 1) s.heap.objs.size (I.hok.fresh (Nat.le_succ _)) (I.hok.fresh (Nat.le_refl _)) (Nat.ne_of_lt (Nat.lt_succ_self _))
 have I2 := Inv.made (C := C) I
 have r2 : Vals (V.ref (s.heap.objs.size + 1) :: (vs ++ dvs)) (Value.ref (s.heap.objs.size + 1) :: (us ++ ds)) := .cons rfl (r.append hd)
 have hl : (Value.ref (s.heap.objs.size + 1) :: us ++ ds).length = ps.length := by
  have e := r2.length
  rw [F.len _ _ _ _ hq] at e
  exact e.symm
 refine wpAny_call (make_map (f := f) I.kIn M.makes M.init (beq_iff_eq.mp M.fn) (codeAny_mono (F.run _ X.stack _ _ ⟨Value.ref (s.heap.objs.size + 1) :: us, []⟩ (Value.ref (s.heap.objs.size + 1) :: (us ++ ds)) _ _ E (hr.make C us [])
  (I2.env0.make C us []) (hb _ (Value.ref (s.heap.objs.size + 1) :: us) I2.kIn hl) r2 hq) fun r s' hq' => ?_))
 cases r with
 | error e => exact hx pins σ _ _ e s' I2 hq'
 | ok fl =>
  cases fl with
  | ret u =>
   obtain ⟨v, H', I3, rv, ev, q3⟩ := I2.after hq'
   subst ev
   exact ⟨rv, ⟨V.ref (s.heap.objs.size + 1), H', I3, rfl, q3⟩⟩
  | next => exact False.elim hq'
  | brk => exact False.elim hq'
  | cont => exact False.elim hq'
theorem pe_make (M : Mk X.K C f) (F : FnOk X.prog X.w X.K X.mg X.base CX k f fd ps sp) (hr : Room (k + 1) X.A) (hg : Gl X x) (hm : X.mg x = some (.ref C)) (hb : Binds X.K fd ps ds) (hd : Vals dvs ds) (hx : Passes CX X E)
  (ha : PA X (e :: es) t) (hdb : (x == ("__debug__" : Str)) = false := by decide) (he : starEach (e :: es) X.env = (false, eval e X.env) :: starEach es X.env := by rfl) (hpl : (backTo pos (starEach es X.env)).any (·.1) = false := by rfl) :
  PE X (.Call (.Name x p) (e :: es) [] pos) (tMake C sp dvs E t) := by
 intro pins s σ H Q I h
 refine wpAny_Call_Name_kw (ld_glob I hg hm ?_ hdb)
 refine PySem.W.callWith_K (h₀ := X.base) I.ok.mod.kin M.kp (thn (ha pos pins s σ H _ I h) fun us s1 ⟨vs, H1, I1, r, q⟩ => ⟨I1.kIn, ?_⟩) he hpl
 exact run_make M F hr hb hd hx I1 r q
end
section
variable {X : Cx} {CX : CXT} {k : Nat} {f C : Addr} {fd : FuncData} {ps ks : List Str} {sp : Sp} {E : XK} {x m : Str} {p pos apos kpos : Pos} {e o : Expr} {es : List Expr} {kws : List Keyword} {te ta : TE} {t tk : TA} {nm : Option Str}
variable {g : List Value → List Value → List Value} {gV : List V → List V → List V}
end
structure FnScope (N P : List Str) (sc : Scope) : Prop where
 kind : sc.kind = .function
 co : sc.isCoroutine = false
 gen : sc.isGenerator = false
 nd : N.Nodup
 pre : N.take P.length = P
 par : ∀ x ∈ P, sc.names.lookup x = some .local ∨ sc.names.lookup x = some .cell
 nofree : ∀ y ∈ sc.names, y.2 ≠ .free
theorem bindL_out {kindOf : Str → Option NameKind} {x : Str} : ∀ {binds : List (Str × Value)} {m : Str → Option Value}, (∀ v, (x, v) ∉ binds) → bindL kindOf binds m x = m x
 | [], _, _ => rfl
 | (n, v) :: r, m, h => by
  unfold bindL
  rw [bindL_out fun w hw => h w (List.mem_cons_of_mem _ hw)]
  split
  ·have : x ≠ n := by rintro rfl; exact h v List.mem_cons_self
   simp [this]
  ·rfl
theorem bindC_out {kindOf : Str → Option NameKind} {x : Str} : ∀ {binds : List (Str × Value)} {m : Str → Option Value}, (∀ v, (x, v) ∉ binds) → bindC kindOf binds m x = m x
 | [], _, _ => rfl
 | (n, v) :: r, m, h => by
  unfold bindC
  rw [bindC_out fun w hw => h w (List.mem_cons_of_mem _ hw)]
  split
  ·rfl
  ·have : x ≠ n := by rintro rfl; exact h v List.mem_cons_self
   simp [this]
theorem bindL_get {kindOf : Str → Option NameKind} {x : Str} {v : Value} : ∀ {P : List Str} {vs : List Value} {i : Nat} {m : Str → Option Value}, P.Nodup → P[i]? = some x → vs[i]? = some v → kindOf x = some .local →
  bindL kindOf (P.zip vs) m x = some v
 | [], _, _, _, _, h, _, _ => by simp at h
 | _ :: _, [], _, _, _, _, h, _ => by simp at h
 | p :: P, w :: vs, 0, m, nd, h1, h2, hk => by
  simp at h1 h2; subst h1; subst h2
  show bindL kindOf ((p, w) :: P.zip vs) m p = _
  unfold bindL
  rw [bindL_out fun v hv => (List.nodup_cons.mp nd).1 (List.of_mem_zip hv).1, if_pos hk]
  simp
 | p :: P, w :: vs, i + 1, m, nd, h1, h2, hk => by
  show bindL kindOf ((p, w) :: P.zip vs) m x = _
  unfold bindL
  exact bindL_get (i := i) (List.nodup_cons.mp nd).2 (by simpa using h1) (by simpa using h2) hk
theorem bindC_get {kindOf : Str → Option NameKind} {x : Str} {v : Value} : ∀ {P : List Str} {vs : List Value} {i : Nat} {m : Str → Option Value}, P.Nodup → P[i]? = some x → vs[i]? = some v → kindOf x ≠ some .local →
  bindC kindOf (P.zip vs) m x = some v
 | [], _, _, _, _, h, _, _ => by simp at h
 | _ :: _, [], _, _, _, _, h, _ => by simp at h
 | p :: P, w :: vs, 0, m, nd, h1, h2, hk => by
  simp at h1 h2; subst h1; subst h2
  show bindC kindOf ((p, w) :: P.zip vs) m p = _
  unfold bindC
  rw [bindC_out fun v hv => (List.nodup_cons.mp nd).1 (List.of_mem_zip hv).1, if_neg hk]
  simp
 | p :: P, w :: vs, i + 1, m, nd, h1, h2, hk => by
  show bindC kindOf ((p, w) :: P.zip vs) m x = _
  unfold bindC
  exact bindC_get (i := i) (List.nodup_cons.mp nd).2 (by simpa using h1) (by simpa using h2) hk
def start (N : List Str) (vs : List V) : St := vs.map some ++ List.replicate (N.length - vs.length) none
def cxOf (CX : CXT) (P : Program) (w : World) (K : PySem.W.Frag) (mg : Str → Option Value) (base : Heap) (N : List Str) (qual : Str) (scope : Scope) (f : Addr) (cd : Value) (A : Around) (outer : List Env) (s : Shared) (H : Hp) (E : XK) : Cx where
 prog := P
 w := w
 K := K
 mg := mg
 base := base
 A := A.deeper (envOfC qual scope s.heap.objs.size f cd)
 N := N
 s₀ := s
 H₀ := H
 env := envOfC qual scope s.heap.objs.size f cd
 outer := outer
 stack := envOfC qual scope s.heap.objs.size f cd :: outer
 ex := []
 calm := true
 fn := fun _ => true
 pn := []
 xe := fun e s' => wpAny (model P w) (A.deeper (envOfC qual scope s.heap.objs.size f cd)) (leaving (envOfC qual scope s.heap.objs.size f cd) e) (fun _ s'' => CX outer H s E e s'') (fun e' s'' => CX outer H s E e' s'') s'
theorem cell_has {sc : Scope} {n : Nat} {x : Str} (h : sc.names.lookup x = some .cell) : ∃ c, (cellsFrom n sc.names []).lookup x = some c := by
 have q := PySem.W.cellsFrom_some sc.names n [] (.inl h)
 exact Option.isSome_iff_exists.mp q
theorem inv_start {CX : CXT} {P : Program} {w : World} {K : PySem.W.Frag} {mg : Str → Option Value} {base : Heap} {N ps : List Str} {qual : Str} {scope : Scope} {f : Addr} {cd : Value} {A : Around} {outer : List Env} {s s1 : Shared} {H : Hp} {E : XK} {us : List Value} {vs : List V}
    (S : FnScope N ps scope) (hd : A.handled = none) (e0 : Env0 P w K mg base A outer s H) (hl : vs.length = ps.length) (r : Vals vs us)
    (x : InCallC s s.heap.objs.size (bindL (envOfC qual scope s.heap.objs.size f cd).kindOf (ps.zip us) fun _ => none) (cellsFrom (s.heap.objs.size + 1) scope.names []) (bindC (envOfC qual scope s.heap.objs.size f cd).kindOf (ps.zip us) fun _ => none) s1) :
    Inv (cxOf CX P w K mg base N qual scope f cd A outer s H E) [] (start N vs) H s1 := by
  have hpl : ps.length ≤ N.length := by have := congrArg List.length S.pre; rw [List.length_take] at this; omega
  obtain ⟨h1, tk, rfl, hk⟩ := x.done
  have noA : ∀ b : Addr, b ∉ (cxOf CX P w K mg base N qual scope f cd A outer s H E).ex := fun b z => absurd (show b ∈ ([] : List Addr) from z) (by simp)
  refine ⟨⟨e0.mod, S.kind, rfl, rfl, Nat.le_refl _, fun y z c h1 h2 => ?_, fun y hy => ?_, fun y c _ h => ?_, fun _ => hd, Around.frames_deeper e0.frames, .inr ⟨rfl, rfl⟩, fun b z => absurd z (noA b), e0.bs, e0.bsz, fun b _ _ => noA b, fun b z => absurd z (noA b), e0.funs, e0.frf⟩,
    rfl, e0.bare, Un.kept hk, ⟨_, x.toInCall.ns, fun i y v h1 h2 h3 => ?_⟩, fun y c h => ⟨_, x.cell y c h⟩, e0.hok.fresh (Nat.le_refl _), fun y c h => ?_, fun p hp => absurd (show p ∈ ([] : List (Addr × Obj)) from hp) (by simp), e0.hok.kept hk, ?_⟩
  · exact name_of_addr x.apart (PySem.mem_of_lookup h1) (PySem.mem_of_lookup h2)
  · have hy : scope.names.lookup y = some .cell ∨ scope.names.lookup y = some .free := hy
    rcases hy with hy | hy
    · exact cell_has hy
    · exact absurd rfl (S.nofree _ (PySem.mem_of_lookup hy))
  · exact Nat.le_of_lt (x.above y c (PySem.mem_of_lookup h))
  · have hi : i < vs.length := by
      unfold start at h2
      by_cases hi : i < vs.length
      · exact hi
      · rw [List.getElem?_append_right (by simpa using hi)] at h2
        rw [List.getElem?_replicate] at h2
        split at h2 <;> cases h2
    have ha : vs[i]? = some v := by
      unfold start at h2
      rw [List.getElem?_append_left (by simpa using hi), List.getElem?_map] at h2
      cases e : vs[i]? with
      | none => rw [e] at h2; cases h2
      | some a => rw [e] at h2; cases h2; rfl
    obtain ⟨u, hu, rv⟩ := r.get ha
    have hp : ps[i]? = some y := by
      rw [← S.pre, List.getElem?_take_of_lt (by omega)]; exact h1
    have ndP : ps.Nodup := by rw [← S.pre]; exact S.nd.sublist (List.take_sublist _ _)
    refine ⟨u, rv, ?_⟩
    rcases S.par y (List.mem_of_getElem? hp) with k | k
    · exact .inl ⟨k, bindL_get ndP hp hu k⟩
    · obtain ⟨c, e⟩ := cell_has (n := s.heap.objs.size + 1) k
      refine .inr ⟨.inl k, c, e, ?_⟩
      have q := x.cell y c e
      rw [bindC_get ndP hp hu (by show scope.names.lookup y ≠ _; rw [k]; decide)] at q
      exact q
  · exact e0.hok.fresh (Nat.le_of_lt (x.above y c (PySem.mem_of_lookup h)))
  · unfold start
    show _ = N.length
    rw [List.length_append, List.length_map, List.length_replicate]
    omega
theorem fn_of {CX : CXT} {P : Program} {w : World} {K : PySem.W.Frag} {mg : Str → Option Value} {base : Heap} {k : Nat} {f : Addr} {name qual : Str} {params : Arguments} {body : List Stmt} {scope : Scope} {dV kV doc pm cdv ct oc : Value} {an od : Option Addr}
  {osl : Array (Option Value)} {N ps : List Str} {sp : Sp} (lk : K.lookup f = some ⟨oc, od, .func (PySem.W.fnOf name qual params body scope dV kV doc pm an cdv ct), osl⟩) (hcd : PySem.W.codeIn K cdv qual = true) (S : FnScope N ps scope)
  (len : ∀ vs H Q E, sp vs H Q E → vs.length = ps.length)
  (hbody : ∀ (A : Around) (outer : List Env) (s : Shared) (H : Hp) (vs : List V) (Q : VK) (E : XK), Room k (A.deeper (envOfC qual scope s.heap.objs.size f cdv)) → sp vs H Q E →
   ∃ t, PSs (cxOf CX P w K mg base N qual scope f cdv A outer s H E) body t ∧ t { nx := fun _ H' => Q .non H', rt := Q } (start N vs) H) :
  FnOk P w K mg base CX (k + 1) f (PySem.W.fnOf name qual params body scope dV kV doc pm an cdv ct) ps sp := by
 refine ⟨len, fun A outer s H args us vs Q E hr e0 hb r hsp => ?_⟩
 have hl := len _ _ _ _ hsp
 have KX : K.In s.heap := e0.mod.kin.keeps fun b o e => (e0.bs b o e).1
 have lim : s.heap.NoLimit := e0.mod.nolimit.keeps fun b o e => (e0.bs b o e).1
 have hkind : ∀ y ∈ ps.zip us, scope.names.lookup y.1 = some .local ∨ (scope.names.lookup y.1 = some .cell ∧ ((cellsFrom (s.heap.objs.size + 1) scope.names []).lookup y.1).isSome = true) := fun ⟨n, v⟩ hy => by
  rcases S.par n (List.of_mem_zip hy).1 with q | q
  ·exact .inl q
  ·exact .inr ⟨q, PySem.W.cellsFrom_some _ _ _ (.inl q)⟩
 refine codeAny_call_function hr.depth (KX _ _ lk) rfl S.co S.gen rfl (PySem.W.codeRec_of KX hcd) (hb _ _ _ _ ?_)
 refine wpAny_newFunctionEnv_cells S.kind hkind fun env he s1 x => ?_
 subst he
 refine ⟨lim.keeps x.toInCall.keep, codeAny_func ?_⟩
 obtain ⟨t, ht, hq⟩ := hbody A outer s H vs Q E (hr.deeper _) hsp
 have I : Inv (cxOf CX P w K mg base N qual scope f cdv A outer s H E) [] (start N vs) H s1 := inv_start S hr.hd e0 hl r x
 refine wpAny_mono (ht [] s1 (start N vs) H _ I hq) (fun fl s' hs => ?_) fun e s' hs => hs
 have fin : ∀ {σ' : St} {H' : Hp} {v : V} {u : Value}, Inv (cxOf CX P w K mg base N qual scope f cdv A outer s H E) [] σ' H' s' → RelV v u → Q v H' → CE outer P w H s Q u s' :=
  fun {σ' H' v u} J rv q => ⟨v, H', J.os, J.bare, J.base, J.hok, rv, q⟩
 cases fl with
 | ret u =>
  obtain ⟨v, σ', H', J, rv, q⟩ := hs
  exact fin J rv q
 | next =>
  obtain ⟨σ', H', J, q⟩ := hs
  exact fin (v := V.non) (u := Value.none) J rfl q
 | brk =>
  obtain ⟨_, _, _, q⟩ := hs
  exact False.elim q
 | cont =>
  obtain ⟨_, _, _, q⟩ := hs
  exact False.elim q
end L2
namespace L2
open PySem PySem.Spec PyProof.Rows
section
variable {X : Cx} {x : Str} {p pos : Pos} {e : Expr} {es : List Expr} {t : TA} {id T : String} {r : List V → Hp → VK → Prop}
def tCB (r : List V → Hp → VK → Prop) (t : TA) : TE := fun σ H Q => t σ H fun vs H1 => r vs H1 Q
theorem pe_callB (hc : CallR X (.builtin id) r) (hg : Gl X x) (hm : X.mg x = none) (hv : bootBuiltins x = some (.builtin id)) (ha : PA X (e :: es) t) (hn : x ≠ "__name__" := by decide) (hdb : (x == ("__debug__" : Str)) = false := by decide)
  (he : starEach (e :: es) X.env = (false, eval e X.env) :: starEach es X.env := by rfl) (hpl : (backTo pos (starEach es X.env)).any (·.1) = false := by rfl) : PE X (.Call (.Name x p) (e :: es) [] pos) (tCB r t) := by
 intro pins s σ H Q I h
 refine wpAny_Call_Name_kw (ld_blt I hg hm hv ?_ hn hdb)
 exact PyProof.Rows.callWith_builtin1 (thn (ha pos pins s σ H _ I h) fun us s1 ⟨vs, H1, I1, r1, q1⟩ => hc pins s1 σ H1 vs us Q I1 r1 q1) he hpl
theorem pe_callTy (hc : CallR X (.type T) r) (hg : Gl X x) (hm : X.mg x = none) (hv : bootBuiltins x = some (.type T)) (ha : PA X (e :: es) t) (hn : x ≠ "__name__" := by decide) (hdb : (x == ("__debug__" : Str)) = false := by decide)
  (he : starEach (e :: es) X.env = (false, eval e X.env) :: starEach es X.env := by rfl) (hpl : (backTo pos (starEach es X.env)).any (·.1) = false := by rfl) : PE X (.Call (.Name x p) (e :: es) [] pos) (tCB r t) := by
 intro pins s σ H Q I h
 refine wpAny_Call_Name_kw (ld_blt I hg hm hv ?_ hn hdb)
 exact PyProof.Rows.callWith_type1 (thn (ha pos pins s σ H _ I h) fun us s1 ⟨vs, H1, I1, r1, q1⟩ => hc pins s1 σ H1 vs us Q I1 r1 q1) he hpl
end
end L2
namespace HT
open PySem PyProof.Rows
section
open PySem.SeqAt
open PySem.AutoSeq1 (wpAny_loadPart')
open PySem.MeetsSeq PySem.MeetsSeq2 PySem.MeetsSeq3
end
section
variable {prog : Program} {w : World} {A : Around} {E : Value → Shared → Prop} {s : Shared}
def sIx (n d : Nat) : Option Int → Nat
 | none => d
 | some v => if v < 0 then (v + (n : Int)).toNat else min v.toNat n
theorem sIx_none (n d : Nat) : sIx n d none = d := rfl
theorem sIx_nat (n d k : Nat) : sIx n d (some (k : Int)) = min k n := by
 show (if (k : Int) < 0 then ((k : Int) + (n : Int)).toNat else min (k : Int).toNat n) = min k n
 rw [if_neg (by omega), Int.toNat_natCast]
end
end HT
namespace L2
open PySem PySem.Spec PyProof.Rows
abbrev TO := St → Hp → (Option Int → Hp → Prop) → Prop
def PO (X : Cx) (e : Option Expr) (t : TO) : Prop :=
 ∀ (pins : List (Addr × Obj)) (s : Shared) (σ : St) (H : Hp) (Q : Option Int → Hp → Prop), Inv X pins σ H s → t σ H Q →
  wpAny (model X.prog X.w) X.A (evalPart e X.env) (fun u s' => ∃ o H', Inv X pins σ H' s' ∧ IsPart u o ∧ Q o H') X.xe s
def tNoPart : TO := fun _ H Q => Q none H
def tPart (t : TE) : TO := fun σ H Q => t σ H fun x H1 => ∃ i, x = .int i ∧ Q (some i) H1
section
variable {X : Cx} {e : Expr} {te : TE} {lo hi : Option Expr} {tl th : TO} {pos p2 : Pos}
theorem po_none : PO X none tNoPart := by
 intro pins s σ H Q I h
 rw [evalPart_none]
 exact wpAny_pure ⟨none, H, I, .none, h⟩
theorem po_some (h : PE X e te) : PO X (some e) (tPart te) := by
 intro pins s σ H Q I hw
 rw [evalPart_some]
 refine thn (h pins s σ H _ I hw) fun u s1 ⟨x, H1, I1, r1, q1⟩ => ?_
 obtain ⟨i, rfl, q⟩ := q1
 obtain ⟨t, rfl⟩ := r1
 exact ⟨some i, H1, I1, .int i t, q⟩
def SlR (X : Cx) (r : V → Option Int → Option Int → Hp → VK → Prop) : Prop :=
 ∀ (pins : List (Addr × Obj)) (s : Shared) (σ : St) (H : Hp) (x : V) (v vl vu : Value) (lo hi : Option Int) (sl : Addr) (Q : VK), Inv X pins σ H s → RelV x v → s.heap.IsSliceOf sl vl vu .none → IsPart vl lo → IsPart vu hi → r x lo hi H Q →
  ∃ T id, typeLookup (.type T) "__getitem__" = pure (some (.builtin id)) ∧ s.TypeIs v T ∧ wpAny (model X.prog X.w) X.A (getItem v (.ref sl)) (EP X pins σ Q) X.xe s
def tSl (r : V → Option Int → Option Int → Hp → VK → Prop) (te : TE) (tl th : TO) : TE := fun σ H Q => te σ H fun x H1 => tl σ H1 fun l H2 => th σ H2 fun u H3 => r x l u H3 Q
theorem pe_slice {r : V → Option Int → Option Int → Hp → VK → Prop} (hr : SlR X r) (he : PE X e te) (hl : PO X lo tl) (hu : PO X hi th) : PE X (.Subscript e (.Slice lo hi none p2) pos) (tSl r te tl th) := by
 intro pins s σ H Q I h
 refine Subscript_ (thn (he pins s σ H _ I h) fun v s1 ⟨x, H1, I1, r1, q1⟩ => ?_)
 refine wpAny_Slice (thn (hl pins s1 σ H1 _ I1 q1) fun vl s2 ⟨l, H2, I2, pl, q2⟩ => thn (hu pins s2 σ H2 _ I2 q2) fun vu s3 ⟨u, H3, I3, pu, q3⟩ => ?_)
 rw [evalPart_none]
 refine wpAny_pure ?_
 have I4 : Inv X pins σ H3 { s3 with heap := s3.heap.push { cls := .type "slice", data := .fields #[vl, vu, .none] } } := I3.kept (t' := s3.toks) fun b ob q => Heap.get?_push_of_some _ q
 obtain ⟨T, id, hT, ht, hg⟩ := hr pins { s3 with heap := s3.heap.push { cls := .type "slice", data := .fields #[vl, vu, .none] } } σ H3 x v vl vu l u s3.heap.objs.size Q I4 r1 (Heap.IsSliceOf.new ..) pl pu q3
 show wpAny (model X.prog X.w) X.A (subscriptTail e (.Slice lo hi none p2) v (.ref s3.heap.objs.size)) (EP X pins σ Q) X.xe { s3 with heap := s3.heap.push { cls := .type "slice", data := .fields #[vl, vu, .none] } }
 exact tail_any (ops := [.ref s3.heap.objs.size, v]) ht hT hg (by with_unfolding_all rfl)
def cutV (xs : List V) (lo hi : Option Int) : List V := (xs.drop (HT.sIx xs.length 0 lo)).take (HT.sIx xs.length xs.length hi - HT.sIx xs.length 0 lo)
theorem cutV_length (xs : List V) (lo hi : Option Int) : (cutV xs lo hi).length ≤ xs.length := by
 unfold cutV
 rw [List.length_take, List.length_drop]
 omega
end
end L2
namespace L2
open PySem PySem.Spec PyProof.Rows
def ixN (n : Nat) (i : Int) : Option Nat := if 0 ≤ i then (if i < n then some i.toNat else none) else if -(n : Int) ≤ i then some (i + n).toNat else none
def atI {α : Type} (xs : List α) (i : Int) : Option α := (ixN xs.length i).bind fun j => xs[j]?
theorem ixN_seq {n : Nat} {i : Int} {j : Nat} (h : ixN n i = some j) : seqIndex? i n = some j ∧ j < n ∧ -(n : Int) ≤ i ∧ i < n := by
 unfold ixN at h
 by_cases h0 : 0 ≤ i
 ·rw [if_pos h0] at h
  by_cases h1 : i < n
  ·rw [if_pos h1] at h
   have e : i.toNat = j := Option.some.inj h
   exact ⟨by rw [seqIndex_of h0 h1, e], by omega, by omega, h1⟩
  ·rw [if_neg h1] at h; cases h
 ·rw [if_neg h0] at h
  by_cases h1 : -(n : Int) ≤ i
  ·rw [if_pos h1] at h
   have e : (i + n).toNat = j := Option.some.inj h
   exact ⟨by rw [seqIndex_neg (by omega) h1, e], by omega, h1, by omega⟩
  ·rw [if_neg h1] at h; cases h
theorem atI_get {α : Type} {xs : List α} {i : Int} {v : α} (h : atI xs i = some v) : ∃ j, seqIndex? i xs.length = some j ∧ xs[j]? = some v ∧ j < xs.length ∧ -(xs.length : Int) ≤ i ∧ i < xs.length := by
 unfold atI at h
 cases e : ixN xs.length i with
 | none => rw [e] at h; cases h
 | some j =>
  rw [e] at h
  obtain ⟨h1, h2, h3, h4⟩ := ixN_seq e
  exact ⟨j, h1, h, h2, h3, h4⟩
theorem atI_nat {α : Type} {xs : List α} {j : Nat} {v : α} (h : xs[j]? = some v) : atI xs (j : Int) = some v := by
 have hj : j < xs.length := (List.getElem?_eq_some_iff.mp h).1
 have e : ixN xs.length (j : Int) = some j := by
  unfold ixN
  rw [if_pos (by omega), if_pos (by omega)]; simp
 unfold atI; rw [e]; exact h
theorem atI_last {α : Type} (xs : List α) (v : α) : atI (xs ++ [v]) (-1) = some v := by
 have hl : (xs ++ [v]).length = xs.length + 1 := by simp
 have e : ixN (xs ++ [v]).length (-1) = some xs.length := by
  unfold ixN
  rw [hl, if_neg (by decide), if_pos (by omega)]
  congr 1
  omega
 unfold atI
 rw [e]
 show (xs ++ [v])[xs.length]? = some v
 simp
def PlainIx (b : Expr) : Prop := ∀ o i, subscripted b false o i = operate [o, i] (getItem o i)
def IxR (X : Cx) (r : R2) : Prop :=
 ∀ (value slice : Expr) (pins : List (Addr × Obj)) (s : Shared) (σ : St) (H : Hp) (x y : V) (v u : Value) (Q : VK), Inv X pins σ H s → RelV x v → RelV y u → r x y H Q →
  subscripted slice false v u = operate [v, u] (getItem v u) → wpAny (model X.prog X.w) X.A (subscriptTail value slice v u) (EP X pins σ Q) X.xe s
def MtR (X : Cx) (id : String) (r : V → List V → Hp → VK → Prop) : Prop :=
 ∀ (pins : List (Addr × Obj)) (s : Shared) (σ : St) (H : Hp) (x : V) (xs : List V) (v : Value) (us : List Value) (Q : VK), Inv X pins σ H s → RelV x v → Vals xs us → r x xs H Q →
  wpAny (model X.prog X.w) X.A (call (.builtin id) (v :: us)) (EP X pins σ Q) X.xe s
section
variable {X : Cx} {a b : Expr} {ta tb : TE} {pos : Pos}
theorem IxR.or {r r' : R2} (h : IxR X r) (h' : IxR X r') : IxR X (fun x y H Q => r x y H Q ∨ r' x y H Q) := by
 intro value slice pins s σ H x y v u Q I rx ry q hs
 rcases q with q | q
 ·exact h value slice pins s σ H x y v u Q I rx ry q hs
 ·exact h' value slice pins s σ H x y v u Q I rx ry q hs
theorem pe_ix {r : R2} (hr : IxR X r) (ha : PE X a ta) (hb : PE X b tb) (hs : PlainIx b) : PE X (.Subscript a b pos) (tOp r ta tb) := by
 intro pins s σ H Q I h
 exact Subscript_ (binT ha hb I h fun v u s2 x y H2 I2 rx ry q => hr a b pins s2 σ H2 x y v u Q I2 rx ry q (hs _ _))
def rIxL (K : PySem.W.Frag) : R2 := fun x y H Q => ∃ p xs i v, x = .ref p ∧ y = .int i ∧ SqL K H p xs ∧ atI xs i = some v ∧ Q v H
def rIxT (K : PySem.W.Frag) : R2 := fun x y H Q => ∃ p xs i v, x = .ref p ∧ y = .int i ∧ SqT K H p xs ∧ atI xs i = some v ∧ Q v H
def rIxS : R2 := fun x y H Q => ∃ z i c, x = .str z ∧ y = .int i ∧ z.length ≤ sizeLine ∧ atI z.cps.toList i = some c ∧ Q (.str ⟨#[c]⟩) H
theorem ix_list : IxR X (rIxL X.K) := by
  intro value slice pins s σ H x y v u Q I rx ry h hs
  obtain ⟨p, xs, i, z, rfl, rfl, hq, he, q⟩ := h
  cases rx
  obtain ⟨t, rfl⟩ := ry
  obtain ⟨its, r, pl, hz⟩ := I.list hq
  obtain ⟨j, h1, h2, h3, h4, h5⟩ := atI_get he
  obtain ⟨w, ew, rw'⟩ := r.get h2
  have hl := r.length
  have hn := line63
  have fin : EP X pins σ Q w s := ⟨z, H, I, rw', q⟩
  by_cases h0 : 0 ≤ i
  · have hj : i.toNat = j := by
      rw [seqIndex_of h0 h5] at h1
      exact Option.some.inj h1
    exact item_listR pl.isList h0 (by omega) (by rw [hj]; simpa using ew) fin hs
  · have hj : (i + (its.toArray.size : Int)).toNat = j := by
      rw [seqIndex_neg (by omega) h4] at h1
      rw [List.size_toArray, ← hl]
      exact Option.some.inj h1
    exact subscriptTail_builtinR (x := w) pl.isList.typeIs slot_list_getitem.lookup
      (wpAny_getItem_list_neg (Q := fun r s' => r = w ∧ EP X pins σ Q r s') pl.isList (by omega) (by rw [List.size_toArray] <;> omega) (by omega) (by rw [hj]; simpa using ew) ⟨rfl, fin⟩) hs
theorem ix_tup : IxR X (rIxT X.K) := by
 intro value slice pins s σ H x y v u Q I rx ry h hs
 obtain ⟨p, xs, i, z, rfl, rfl, hq, he, q⟩ := h
 cases rx
 obtain ⟨t, rfl⟩ := ry
 obtain ⟨its, r, pl, hz⟩ := I.tuple hq
 obtain ⟨j, h1, h2, h3, h4, h5⟩ := atI_get he
 obtain ⟨w, ew, rw'⟩ := r.get h2
 have hl := r.length
 have hn := line63
 have fin : EP X pins σ Q w s := ⟨z, H, I, rw', q⟩
 exact subscriptTail_builtinR (x := w) pl.typeIs slot_tuple_getitem.lookup
  (getItem_tuple (j := j) (Q := fun r s' => r = w ∧ EP X pins σ Q r s') pl (by omega) (by omega) (by rw [List.size_toArray, ← hl]; exact h1) (by simpa using ew) ⟨rfl, fin⟩) hs
theorem ix_str : IxR X rIxS := by
 intro value slice pins s σ H x y v u Q I rx ry h hs
 obtain ⟨z, i, c, rfl, rfl, hz, he, q⟩ := h
 obtain ⟨t, rfl⟩ := rx
 obtain ⟨t', rfl⟩ := ry
 obtain ⟨j, h1, h2, h3, h4, h5⟩ := atI_get he
 have hl : z.cps.toList.length = z.length := by simp [Str.length]
 rw [hl] at h1 h4 h5
 have hn := line63
 exact tail_any (typeIs_str s z t) slot_str_getitem.lookup (getItem_str (c := c) (by
  have e1 : decide (i < -(2 ^ 63 : Int)) = false := decide_eq_false (by omega)
  have e2 : decide (i ≥ 2 ^ 63) = false := decide_eq_false (by omega)
  rw [e1, e2, Bool.or_false]) (by rw [h1]; simpa using h2) ⟨.str ⟨#[c]⟩, H, I.tok _, ⟨_, rfl⟩, q⟩) hs
def rIx (K : PySem.W.Frag) : R2 := fun x y H Q => rIxL K x y H Q ∨ rIxT K x y H Q ∨ rIxS x y H Q
theorem ix_seq : IxR X (rIx X.K) := ix_list.or (ix_tup.or ix_str)
theorem slice_bounds (lo hi : Option Int) (n : Nat) : (sliceBounds lo hi none n).1 = ((HT.sIx n 0 lo : Nat) : Int) ∧ (sliceBounds lo hi none n).2.1 = ((HT.sIx n n hi : Nat) : Int) ∧ (sliceBounds lo hi none n).2.2 = 1 := by
 refine ⟨?_, ?_, rfl⟩
 ·cases lo with
  | none => simp [sliceBounds, HT.sIx]
  | some i =>
   simp only [sliceBounds, HT.sIx, Option.getD_none, show (1 : Int) > 0 by decide, if_true]
   by_cases h : i < 0
   ·simp only [h, if_true] <;> omega
   ·simp only [h, if_false] <;> omega
 ·cases hi with
  | none => simp [sliceBounds, HT.sIx]
  | some i =>
   simp only [sliceBounds, HT.sIx, Option.getD_none, show (1 : Int) > 0 by decide, if_true]
   by_cases h : i < 0
   ·simp only [h, if_true] <;> omega
   ·simp only [h, if_false] <;> omega
theorem slicePick_cut (its : List Value) (lo hi : Option Int) : slicePick its.toArray lo hi none = ((its.drop (HT.sIx its.length 0 lo)).take (HT.sIx its.length its.length hi - HT.sIx its.length 0 lo)).toArray := by
 obtain ⟨h1, h2, h3⟩ := slice_bounds lo hi its.toArray.size
 unfold slicePick
 rw [h1, h2, h3]
 simp only [sliceRange_one, pick_run, List.size_toArray] <;> rfl
def rSlL (K : PySem.W.Frag) : V → Option Int → Option Int → Hp → VK → Prop := fun x lo hi H Q => ∃ a xs, x = .ref a ∧ SqL K H a xs ∧ ∀ p, H p = none → Q (.ref p) (upd H p (.lst (cutV xs lo hi)))
theorem sl_list : SlR X (rSlL X.K) := by
 intro pins s σ H x v vl vu lo hi sl Q I rx hs pl pu h
 obtain ⟨a, xs, rfl, hx, q⟩ := h
 cases rx
 obtain ⟨its, r, ht, hz⟩ := I.list hx
 have hlen := r.length
 refine ⟨"list", _, slot_list_getitem.lookup, ht.isList.typeIs, ?_⟩
 refine wpAny_getItem_list_slice ht.isList hs pl pu .none (by simp) ?_ (by rw [List.size_toArray] <;> omega)
 rw [slicePick_cut, ← hlen]
 refine ⟨.ref s.heap.objs.size, _, I.laid (t' := s.toks) (o := .lst (cutV xs lo hi)) (fun b ob q => Heap.get?_push_of_some _ q) (Nat.le_refl _) ?_, rfl, q _ (I.hok.fresh (Nat.le_refl _))⟩
 exact ⟨Nat.le_trans (cutV_length xs lo hi) hz, _, 0, (r.drop (HT.sIx xs.length 0 lo)).take (HT.sIx xs.length xs.length hi - HT.sIx xs.length 0 lo), Heap.get?_push_size _ rfl⟩
theorem call_len_seq : CallR X (.builtin "len") (fun xs H Q => ∃ p ys, xs = [.ref p] ∧ (SqL X.K H p ys ∨ SqT X.K H p ys) ∧ Q (.int ys.length) H) := by
 intro pins s σ H xs us Q I r h
 obtain ⟨p, ys, rfl, hq, q⟩ := h
 obtain ⟨u, rfl, rx⟩ := vals1 r
 cases rx
 have hn := line63
 rcases hq with hq | hq
 ·obtain ⟨its, r', pl, hz⟩ := I.list hq
  have hlen := r'.length
  exact Calls.call_len_list pl.isList (by simp only [List.size_toArray] <;> omega) ⟨.int ys.length, H, I.tok _, ⟨s.toks + 1, by rw [List.size_toArray, hlen]⟩, q⟩
 ·obtain ⟨its, r', pl, hz⟩ := I.tuple hq
  have hlen := r'.length
  exact len_tuple pl (by simp only [List.size_toArray] <;> omega) ⟨.int ys.length, H, I.tok _, ⟨s.toks + 1, by rw [List.size_toArray, hlen]⟩, q⟩
theorem call_list_of : CallR X (.type "list") (fun xs H Q => ∃ p ys, xs = [.ref p] ∧ (SqL X.K H p ys ∨ SqT X.K H p ys) ∧ ∀ l, H l = none → Q (.ref l) (upd H l (.lst ys))) := by
  intro pins s σ H xs us Q I r h
  obtain ⟨p, ys, rfl, hq, q⟩ := h
  obtain ⟨u, rfl, rx⟩ := vals1 r
  cases rx
  have fin : ∀ (its : List Value), Vals ys its → ys.length ≤ sizeLine → ∀ (h' : Heap) (c' : Nat), (∀ b o', s.heap.get? b = some o' → h'.get? b = some o') →
      h'.get? s.heap.objs.size = some { cls := .type "list", dict := none, data := .seq its.toArray c', slots := #[] } → EP X pins σ Q (.ref s.heap.objs.size) { s with heap := h' } := fun its r' hz h' c' kp e =>
    ⟨.ref s.heap.objs.size, _, I.laid (t' := s.toks) kp (Nat.le_refl _) (show ObjOk X.prog X.w _ h' _ (.lst ys) from ⟨hz, its, c', r', e⟩), rfl, q _ (I.hok.fresh (Nat.le_refl _))⟩
  rcases hq with hq | hq
  · obtain ⟨its, r', pl, hz⟩ := I.list hq
    have hlen := r'.length
    obtain ⟨o, ho, hc, n, hd⟩ := pl.isList
    exact call_list_seq p (.inl rfl) ho hc hd (fun h' c' kp e => fin its r' hz h' c' kp e) (by simp only [List.size_toArray] <;> omega)
  · obtain ⟨its, r', pl, hz⟩ := I.tuple hq
    have hlen := r'.length
    obtain ⟨o, ho, hc, n, hd⟩ := pl
    exact call_list_seq p (.inr rfl) ho hc hd (fun h' c' kp e => fin its r' hz h' c' kp e) (by simp only [List.size_toArray] <;> omega)
theorem call_tuple_of : CallR X (.type "tuple") (fun xs H Q => ∃ p ys, xs = [.ref p] ∧ ((SqL X.K H p ys ∧ ∀ l, H l = none → Q (.ref l) (upd H l (.tup ys))) ∨ (SqT X.K H p ys ∧ Q (.ref p) H))) := by
 intro pins s σ H xs us Q I r h
 obtain ⟨p, ys, rfl, h⟩ := h
 obtain ⟨u, rfl, rx⟩ := vals1 r
 cases rx
 rcases h with ⟨hq, q⟩ | ⟨hq, q⟩
 ·obtain ⟨its, r', pl, hz⟩ := I.list hq
  have hlen := r'.length
  refine call_tuple_list pl.isList (fun h' kp => ?_) (by simp only [List.size_toArray] <;> omega)
  have I1 : Inv X pins σ H { s with heap := h' } := I.kept (t' := s.toks) kp
  have I2 : Inv X pins σ (upd H h'.objs.size (.tup ys)) { s with heap := h'.push { cls := .type "tuple", data := .seq its.toArray } } :=
   I1.laid (t' := s.toks) (fun b o e => Heap.get?_push_of_some _ e) (Nat.le_refl _) (show ObjOk X.prog X.w _ _ _ (.tup ys) from ⟨hz, its, r', IsTup.new _ _⟩)
  exact ⟨.ref h'.objs.size, _, I2, rfl, q _ (I1.hok.fresh (Nat.le_refl _))⟩
 ·obtain ⟨its, r', pl, hz⟩ := I.tuple hq
  exact call_tuple_same pl ⟨.ref p, H, I, rfl, q⟩
def tyV (K : PySem.W.Frag) (T : String) (x : V) (H : Hp) : Prop := match x with
  | .str _ => T = "str"
  | .int _ => T = "int"
  | .ref p => (T = "list" ∧ ∃ xs, SqL K H p xs) ∨ (T = "tuple" ∧ ∃ o, K.lookup p = some o ∧ o.cls = .type "tuple" ∧ o.dict = none) ∨
      (T = "dict" ∧ ((∃ kvs, H p = some (.dK kvs)) ∨ ∃ kvs, H p = some (.dT kvs))) ∨ (T = "set" ∧ ∃ S n, H p = some (.set S n))
  | _ => False
theorem tyV_is {pins : List (Addr × Obj)} {σ : St} {H : Hp} {s : Shared} {T : String} {x : V} {v : Value} (I : Inv X pins σ H s) (r : RelV x v) (ty : tyV X.K T x H) :
    s.TypeIs v T ∧ ∀ a, v = .ref a → ∃ ob, s.heap.get? a = some ob ∧ ob.dict = none := by
  cases x with
  | str z =>
    obtain ⟨t, rfl⟩ := r
    cases (show T = "str" from ty)
    exact ⟨typeIs_str s z t, fun _ e => nomatch e⟩
  | int i =>
    obtain ⟨t, rfl⟩ := r
    cases (show T = "int" from ty)
    exact ⟨typeIs_int s i t, fun _ e => nomatch e⟩
  | ref p =>
    cases r
    rcases ty with ⟨rfl, xs, hq⟩ | ⟨rfl, o, hk, hc, hd⟩ | ⟨rfl, hk⟩ | ⟨rfl, S, n, hk⟩
    · obtain ⟨its, _, pl, _⟩ := I.list hq
      refine ⟨pl.isList.typeIs, fun a e => ?_⟩
      cases e
      obtain ⟨o, n, e, c, hd, _⟩ := pl
      exact ⟨o, e, hd⟩
    · refine ⟨⟨o, I.kIn p o hk, hc⟩, fun a e => ?_⟩
      cases e
      exact ⟨o, I.kIn _ o hk, hd⟩
    · have z : ∃ o, s.heap.get? p = some o ∧ o.ExactDict := by
        rcases hk with ⟨kvs, hk⟩ | ⟨kvs, hk⟩
        · obtain ⟨_, _, _, _, o, _, _, e, ex, _⟩ := I.hok p _ hk
          exact ⟨o, e, ex⟩
        · obtain ⟨_, _, _, _, o, _, _, e, ex, _⟩ := I.hok p _ hk
          exact ⟨o, e, ex⟩
      obtain ⟨o, e, ex⟩ := z
      refine ⟨⟨o, e, ex.1⟩, fun a e2 => ?_⟩
      cases e2
      exact ⟨o, e, ex.2.1⟩
    · obtain ⟨o, _, _, _, e, ex, _⟩ := I.hok p _ hk
      refine ⟨⟨o, e, ex.1⟩, fun a e2 => ?_⟩
      cases e2
      exact ⟨o, e, ex.2.1⟩
  | _ => exact False.elim ty
def tBM0 (K : PySem.W.Frag) (T : String) (r : V → List V → Hp → VK → Prop) (to : TE) : TE := fun σ H Q => to σ H fun x H1 => tyV K T x H1 ∧ r x [] H1 Q
def tBM (K : PySem.W.Frag) (T : String) (r : V → List V → Hp → VK → Prop) (to : TE) (t : TA) : TE := fun σ H Q => to σ H fun x H1 => tyV K T x H1 ∧ t σ H1 fun xs H2 => r x xs H2 Q
variable {o e : Expr} {es : List Expr} {to : TE} {t : TA} {name : Str} {apos cpos : Pos} {T id : String} {r : V → List V → Hp → VK → Prop}
theorem pe_bm0 (pa : PlainAttrs T) (slot : Slot T name id) (hty : typeOf (.builtin id) = pure (.type "method_descriptor")) (hm : MtR X id r) (ho : PE X o to)
  (hbase : attributeBase o name X.env (eval o X.env) = eval o X.env := by rfl) (hline : (apos.endLine == cpos.line) = true := by rfl) : PE X (.Call (.Attribute o name apos) [] [] cpos) (tBM0 X.K T r to) := by
 intro pins s σ H Q I h
 refine wpAny_Call_method0_late hbase hline (thn (ho pins s σ H _ I h) fun v s1 ⟨x, H1, I1, r1, ty, q1⟩ => ?_)
 obtain ⟨h1, h2⟩ := tyV_is I1 r1 ty
 exact ⟨T, id, pa, slot, hty, h1, h2, Calls.callWith_builtin rfl (PySem.evalArgs_none (hm pins s1 σ H1 x [] v [] Q I1 r1 .nil q1))⟩
theorem pe_bm (pa : PlainAttrs T) (slot : Slot T name id) (hty : typeOf (.builtin id) = pure (.type "method_descriptor")) (hm : MtR X id r) (ho : PE X o to) (ha : PA X (e :: es) t)
  (hbase : attributeBase o name X.env (eval o X.env) = eval o X.env := by rfl)
  (hfew : ((backTo cpos (starEach (e :: es) X.env)).all (fun x => !x.1) && (backToKw cpos (keywordEach [] X.env)).all (fun x => x.1.isSome)
   && decide ((e :: es).length + ([] : List Keyword).length + (if ([] : List Keyword).isEmpty then 0 else 1) < 30)) = true := by rfl)
  (hline : (apos.endLine == cpos.line) = true := by rfl) (hs : starEach (e :: es) X.env = (false, eval e X.env) :: starEach es X.env := by rfl) (hplain : (backTo cpos (starEach es X.env)).any (·.1) = false := by rfl) :
  PE X (.Call (.Attribute o name apos) (e :: es) [] cpos) (tBM X.K T r to t) := by
 intro pins s σ H Q I h
 refine wpAny_Call_method_late hbase hfew hline rfl (thn (ho pins s σ H _ I h) fun v s1 ⟨x, H1, I1, r1, ty, q1⟩ => ?_)
 obtain ⟨h1, h2⟩ := tyV_is I1 r1 ty
 refine ⟨T, id, pa, slot, hty, h1, h2, ?_⟩
 have hA := ha cpos pins s1 σ H1 _ I1 q1
 rw [hs] at hA ⊢
 refine Calls.callWith_builtin (by show (false || (backTo cpos (starEach es X.env)).any (·.1)) = false; rw [hplain] <;> rfl) (Calls.evalArgs_plain ?_)
 exact thn hA fun us s2 ⟨vs, H2, I2, r2, q2⟩ => hm pins s2 σ H2 x vs v us Q I2 r1 r2 q2
/- xs.append(e), list.index on a module's tuple .. are MtR facts of 06m -/
end
end L2
namespace L2
open PySem PySem.Spec PyProof.Rows
def MtM (X : Cx) (id : String) (r : V → List V → Hp → VK → Prop) : Prop :=
 ∀ (pins : List (Addr × Obj)) (s : Shared) (σ : St) (H : Hp) (x : V) (xs : List V) (v : Value) (us : List Value) (Q : VK), Inv X pins σ H s → RelV x v → Vals xs us → r x xs H Q →
  wpAny (model X.prog X.w) X.A (call (.builtin id) (v :: us)) (EP X pins σ Q) X.xe s
theorem Vals.one : ∀ {x : V} {us : List Value}, Vals [x] us → ∃ u, us = [u] ∧ RelV x u
 | _, _, .cons r .nil => ⟨_, rfl, r⟩
theorem Vals.two : ∀ {x y : V} {us : List Value}, Vals [x, y] us → ∃ u v, us = [u, v] ∧ RelV x u ∧ RelV y v
 | _, _, _, .cons r (.cons q .nil) => ⟨_, _, rfl, r, q⟩
theorem Vals.zero : ∀ {us : List Value}, Vals [] us → us = []
 | _, .nil => rfl
section
variable {X : Cx} {pins : List (Addr × Obj)} {σ : St} {H : Hp} {s : Shared} {l b : Addr} {xs ys zs : List V}
theorem Inv.lset {its its' : List Value} {n : Nat} {f : Array Value → Array Value} {t' : Nat} (I : Inv X pins σ H s) (hH : H l = some (.lst xs))
  (e : s.heap.get? l = some { cls := .type "list", data := .seq its.toArray n }) (hf : f its.toArray = its'.toArray) (hv : Vals ys its') (hz : ys.length ≤ sizeLine) :
  Inv X pins σ (upd H l (.lst ys)) { s with heap := s.heap.update l (Obj.mapSeq f), toks := t' } := by
 have q := PySem.IsL.update e f
 rw [hf] at q
 refine I.write (x := l) (e := l) (by rw [hH]; exact trivial) (.inl rfl) (fun b' u hb hu => (Heap.get?_update_other s.heap (Obj.mapSeq f) (Ne.symm hb)).trans hu) ⟨_, q⟩ ?_
 exact ⟨hz, its', _, hv, q⟩
theorem Inv.lstM (I : Inv X pins σ H s) (hH : H l = some (.lst xs)) : xs.length ≤ sizeLine ∧ ∃ (its : List Value) (n : Nat), Vals xs its ∧ xs.length = its.length ∧ s.heap.get? l = some { cls := .type "list", data := .seq its.toArray n } := by
 obtain ⟨z, its, n, r, e⟩ := I.hok l _ hH
 exact ⟨z, its, n, r, r.length, e⟩
end
section
variable {X : Cx}
def rAppend : V → List V → Hp → VK → Prop := fun x vs H Q => ∃ l xs y, x = .ref l ∧ vs = [y] ∧ H l = some (.lst xs) ∧ xs.length < sizeLine ∧ Q .non (upd H l (.lst (xs ++ [y])))
theorem mt_append : MtM X "list.append" rAppend := by
 intro pins s σ H x vs v us Q I rx rv h
 obtain ⟨l, xs, y, rfl, rfl, hH, hz, q⟩ := h
 cases rx
 obtain ⟨u, rfl, ru⟩ := rv.one
 obtain ⟨z, its, n, r, hl, e⟩ := I.lstM hH
 refine call_meets F.slot_list_append ⟨_, e, rfl⟩ F.entry_list_append (F.args_list_append_2 _ _) (PySem.list_append l its.toArray n u (by rw [List.size_toArray]; omega)) ⟨e, ?_⟩
 refine ⟨.non, _, I.lset (its' := its ++ [u]) hH e (by simp) (r.append (.cons ru .nil)) ?_, rfl, q⟩
 rw [List.length_append, List.length_singleton]
 omega
def rClear : V → List V → Hp → VK → Prop := fun x vs H Q => ∃ l xs, x = .ref l ∧ vs = [] ∧ H l = some (.lst xs) ∧ Q .non (upd H l (.lst []))
theorem mt_clear : MtM X "list.clear" rClear := by
 intro pins s σ H x vs v us Q I rx rv h
 obtain ⟨l, xs, rfl, rfl, hH, q⟩ := h
 cases rx
 have hus := rv.zero
 subst hus
 obtain ⟨z, its, n, r, hl, e⟩ := I.lstM hH
 refine call_meets F.slot_list_clear ⟨_, e, rfl⟩ F.entry_list_clear (F.args_list_clear_1 _) (AutoSeq1.list_clear_list_0 l its.toArray n (by rw [List.size_toArray]; omega)) ⟨e, ?_⟩
 exact ⟨.non, _, I.lset (its' := []) (ys := []) hH e rfl .nil (Nat.zero_le _), rfl, q⟩
end
section
variable {prog : Program} {w : World} {A : Around} {E : Value → Shared → Prop} {s : Shared}
set_option maxRecDepth 100000 in
end
section
variable {X : Cx}
end
end L2
namespace Att
open PySem PySem.W PySem.Calls PyProof.Rows
theorem ints_of_wellAll {P : Params} {h : Heap} : ∀ (ns : List Int) (vs : List Value), WellAll P h vs (ns.map WData.int) → IntsAre vs ns := by
 intro ns
 induction ns with
 | nil =>
  intro vs w
  rw [List.map_nil] at w
  cases w
  exact .nil
 | cons n ns ih =>
  intro vs w
  rw [List.map_cons] at w
  cases w with
  | cons a b =>
   cases a
   exact .cons _ _ (ih _ b)
theorem script_of {l : OpenLaw} {n : Nat} (hn : l.most = some n) {P : Params} {h : Heap} {args : List WData} {vals : List Value}
  (hpre : l.row.toRowW.claim.pre args = true) (hwl : WellAll P h vals args) :
  ∃ a vs ns, vals = [Value.ref a] ∧ args = [WData.list (ns.map WData.int)] ∧ h.get? a = some { cls := .type "list", data := .seq vs.toArray } ∧ IntsAre vs ns ∧ ns.length ≤ n := by
 have hsh : WShape.hasAll [] args [.list .int] = true := (pre_splitW hpre).1
 have hc : l.pre.holds [] { args := args } = true := (pre_splitW hpre).2
 obtain ⟨d, r, rfl, h1, h2⟩ := hasAllW_cons hsh
 obtain rfl := hasAllW_nil h2
 obtain ⟨xs, rfl, h3⟩ := hasW_list h1
 obtain ⟨ns, rfl⟩ := items_int h3
 have hlen : ns.length ≤ n := by
  unfold OpenLaw.pre at hc
  have h4 : (WTm.not (.lt (.lit (.int (n : Int))) (.len (.arg 0)))).holds [] { args := [.list (ns.map .int)] } = true := by
   have h4 := (holds_andW hc).1
   rw [hn] at h4
   exact h4
  have h5 := condW_of h4 (w_not (w_lt w_lit (w_len_list (w_arg rfl))))
  rw [List.length_map] at h5
  refine Nat.le_of_not_lt fun q => ?_
  have q' : (n : Int) < ((ns.length : Nat) : Int) := by omega
  first
   | (rw [decide_eq_true q'] at h5; exact absurd h5 (by decide))
   | (simp at h5; omega)
 cases hwl with
 | cons w1 w2 =>
  cases w2
  cases w1 with
  | list ho hall => exact ⟨_, _, ns, rfl, rfl, ho, ints_of_wellAll ns _ hall, hlen⟩
theorem post_true (l : OpenLaw) (args : List WData) : l.row.toRowW.claim.post args (.bool true) args = true :=
 postW_of (r := l.row.toRowW) (X := (true == true))
  (show WShape.has [] (.bool true) .bool = true by first | rfl | decide | simp [WShape.has, WShape.arms, WShape.armsAll])
  (show (WTm.eq .res (.lit (.bool true))).value [] { args := args, res := some (.bool true), after := args } = some (.bool (true == true)) from w_eq_bool (w_res rfl) w_lit) rfl
theorem attach_call {l : OpenLaw} {n : Nat} {q : Program} {loose : List Str} {XP : (Str → Option Value) → Heap → Prop} {YP : World → Heap → Prop} {d : DefRec}
  (hn : l.most = some n) (hdf : d.params.defaults = [])
  (call : ∀ (w : World) (s₀ s₁ : Shared) (mg mb : Str → Option Value) (fa : Addr) (o : Obj) (pm cd doc : Value) (a : Addr) (vs : List Value) (ns : List Int),
   Ground q loose [] XP w s₀ mg mb s₁.heap → YP w s₁.heap →
   s₁.heap.get? fa = some o → o.data = .func (docDef d.name d.params d.body d.scope pm cd doc) → s₁.heap.CodeRec cd d.name → mg d.name = some (.ref fa) →
   s₁.heap.get? a = some { cls := .type "list", data := .seq vs.toArray } → IntsAre vs ns → ns.length ≤ n → s₁.gens = #[] →
   codeAny (model l.prog w) callerA (.call (.ref fa) ⟨[.ref a], []⟩) (fun r s' => r = .ok (.ret (.bool true)) ∧ OldK s₁.heap s'.heap ∧ s'.os = s₁.os ∧ AllBare s'.gens) s₁) :
  WalkO q loose XP YP l.row.toRowW d [] (fun f vs => PySem.call f vs) := by
 intro w s₀ s₁ mg mb G Y fa o pm cd doc dV kV ho hd hcd hD hmg hg args vals as hpre hlay hrd hwl hlo
 obtain rfl : dV = .none := Dflts.none hD hdf
 obtain rfl : kV = .none := Dflts.noKw hD
 obtain ⟨a, vs, ns, rfl, rfl, hobj, hints, hlen⟩ := script_of hn hpre hwl
 refine enter_call (codeAny_mono (call w s₀ s₁ mg mb fa o pm cd doc a vs ns G Y ho (fd_plain hd) hcd hmg hobj hints hlen hg) fun r s' hq => ?_)
 obtain ⟨rfl, h2, h3, h4⟩ := hq
 exact ⟨.inl ⟨.bool true, .bool true, [], rfl, fun _ => rfl, .bool true, post_true l _, fun _ => ⟨List.Pairwise.nil, fun _ hm => (nomatch hm)⟩⟩, h2, h3, h4⟩
section
variable {prog : Program} {w : World} {A : Around} {E : Value → Shared → Prop} {s : Shared} {K : Frag}
def ledger (h : Heap) (L d : Addr) : List (Addr × Obj) := (List.range h.objs.size).filterMap fun a => if a = L ∨ a = d then none else (h.get? a).map fun o => (a, o)
end
end Att
namespace L2
open PySem PySem.Spec PyProof.Rows
theorem vals_ints : ∀ {vs : List Value} {ns : List Int}, IntsAre vs ns → Vals (ns.map V.int) vs
 | _, _, .nil => .nil
 | _, _, .cons n t h => .cons ⟨t, rfl⟩ (vals_ints h)
def Only (H : Hp) : Prop := ∀ b, H b = none ∨ ∃ o xs, H b = some (.frz o (.lst xs))
theorem law_call {P : Program} {w : World} {K : PySem.W.Frag} {mg mb : Str → Option Value} {CX : CXT} {k : Nat} {fa a : Addr} {fd : FuncData} {x : Str} {sp : Sp} {s₁ : Shared} {vs : List Value} {ns : List Int}
    (KX : K.In s₁.heap) (hns : s₁.heap.Ns mainGlobals mg) (hb : s₁.heap.Ns builtinsNs mb) (hbb : ∀ x : Str, x ≠ "__name__" → mb x = bootBuiltins x) (hlim : s₁.heap.NoLimit) (hg : s₁.gens = #[])
    (ha : s₁.heap.get? a = some { cls := .type "list", data := .seq vs.toArray }) (hi : IntsAre vs ns) (hl : ns.length ≤ sizeLine) (hr : Room k callerA)
    (F : ∀ base : Heap, K.In base → base.Ns mainGlobals mg → FnOk P w K mg base CX k fa fd [x] sp) (hbind : ∀ (s : Shared) (u : Value), BindsTo s fd ⟨[u], []⟩ [(x, u)])
    (hsp : ∀ H : Hp, Only H → SqL K H a (ns.map V.int) → sp [.ref a] H (fun v _ => v = .bl true) fun _ _ _ => False)
    (hCX : ∀ H e s', CX [] H s₁ (fun _ _ _ => False) e s' → False) :
    codeAny (model P w) callerA (.call (.ref fa) ⟨[.ref a], []⟩) (fun r s' => r = .ok (.ret (.bool true)) ∧ OldK s₁.heap s'.heap ∧ s'.os = s₁.os ∧ AllBare s'.gens) s₁ := by
  have rv := vals_ints hi
  have lenV := hi.length
  -- from an abstract heap in which nothing but the script may be tracked
  have core : ∀ H : Hp, Only H → SqL K H a (ns.map V.int) → HOk P w H s₁.heap → (∀ b, H b ≠ none → b = a) → (H a ≠ none → K.lookup a = none) →
      codeAny (model P w) callerA (.call (.ref fa) ⟨[.ref a], []⟩) (fun r s' => r = .ok (.ret (.bool true)) ∧ OldK s₁.heap s'.heap ∧ s'.os = s₁.os ∧ AllBare s'.gens) s₁ := by
    intro H hO hS hok hA hK
    have base_of : ∀ {b : Addr} {o : Obj}, s₁.heap.get? b = some o → H b = none → (hidT s₁.heap H).get? b = some o := fun e n => hidT_get e n
    have noA : ∀ {b : Addr} {o : Obj} {es : Array DictEntry} {ep : Nat}, s₁.heap.get? b = some o → o.data = .dict es ep → H b = none := fun {b o es ep} e d => by
      cases q : H b with
      | none => rfl
      | some u =>
        have e' : b = a := hA b (by rw [q]; simp)
        subst e'
        rw [ha] at e; cases e
        have d' : Data.seq vs.toArray _ = Data.dict es ep := d
        cases d'
    have nsK : ∀ {b : Addr} {m : Str → Option Value}, s₁.heap.Ns b m → (hidT s₁.heap H).Ns b m := fun {b m} ⟨o, es, ep, e, d, r⟩ => ⟨o, es, ep, base_of e (noA e d), d, r⟩
    have hKb : K.In (hidT s₁.heap H) := fun b o e => base_of (KX b o e) (by
      cases q : H b with
      | none => rfl
      | some u =>
        have e' : b = a := hA b (by rw [q]; simp)
        subst e'
        rw [hK (by rw [q]; simp)] at e; cases e)
    have hM : Mod K mg (hidT s₁.heap H) := ⟨hKb, nsK hns, ⟨mb, nsK hb, hbb⟩, let ⟨mc, h1, h2⟩ := hlim; ⟨mc, nsK h1, h2⟩⟩
    have e0 : Env0 P w K mg (hidT s₁.heap H) callerA [] s₁ H := ⟨rfl, hM, fun b o e => of_hidT e, Nat.le_of_eq (hidT_size _ _), trivial, fun b hb => absurd (show b ∈ ([] : List Addr) from hb) (by simp), hok, .of_eq hg⟩
    refine codeAny_mono ((F _ hKb (nsK hns)).run callerA [] s₁ H ⟨[.ref a], []⟩ [.ref a] [.ref a] _ _ hr e0 (hbind s₁ (.ref a)) (.cons rfl .nil) (hsp H hO hS)) fun r s' h => ?_
    cases r with
    | error e => exact (hCX H e s' h).elim
    | ok fl =>
      cases fl with
      | next => exact False.elim h
      | brk => exact False.elim h
      | cont => exact False.elim h
      | ret u =>
        obtain ⟨v, H', os, bare, un, hok', r', q⟩ := h
        have q' : v = .bl true := q
        subst q'
        obtain rfl : u = Value.bool true := r'
        refine ⟨rfl, OldK.of_keep fun b o e => ?_, os, bare⟩
        cases q : H b with
        | none => exact un.keep b o e q (by intro z; exact absurd (show b ∈ ([] : List Addr) from z) (by simp)) (by simp)
        | some u =>
          rcases hO b with z | ⟨ob, xs, z⟩
          · rw [q] at z; cases z
          · have z2 := un.frzs b ob _ z
            obtain ⟨e1, _⟩ := hok b _ z
            obtain ⟨e2, _⟩ := hok' b _ z2
            rw [e] at e1; cases e1
            exact e2
  cases hk : K.lookup a with
  | some o =>
    -- the script is one of the module's own objects
    have e := KX a o hk
    rw [ha] at e
    cases e
    refine core (fun _ => none) (fun _ => .inl rfl) (.inr ⟨_, vs.toArray, _, hk, rfl, rfl, rfl, by rw [List.size_toArray, lenV]; exact hl, by simpa using rv⟩) (fun b u z => by have z' : (none : Option HO) = some u := z; cases z') (fun b z => absurd rfl z) fun z => absurd rfl z
  | none =>
    refine core (fun b => if b = a then some (.frz { cls := .type "list", data := .seq vs.toArray } (.lst (ns.map V.int))) else none) (fun b => ?_) (.inl (.inr ⟨{ cls := .type "list", data := .seq vs.toArray }, if_pos rfl⟩)) (fun b u z => ?_) (fun b z => ?_) fun _ => hk
    · by_cases hb : b = a
      · exact .inr ⟨_, _, if_pos hb⟩
      · exact .inl (if_neg hb)
    · by_cases hb : b = a
      · have z' := (if_pos hb).symm.trans z
        cases z'
        subst hb
        exact ⟨ha, by rw [List.length_map]; exact hl, vs, _, rv, ha⟩
      · have z' := (if_neg hb).symm.trans z
        cases z'
    · by_cases hb : b = a
      · exact hb
      · exact absurd (if_neg hb) z
end L2
namespace L2
open PySem PySem.Spec PyProof.Rows
abbrev KOf {K : PySem.W.Frag} {h : Heap} (_ : K.In h) : PySem.W.Frag := K
theorem walk_of {l : PySem.W.OpenLaw} {n k : Nat} {q : Program} {loose : List Str} {XP : (Str → Option Value) → Heap → Prop} {YP : World → Heap → Prop} {d : DefRec} {K : Params → PySem.W.Frag} {CX : World → CXT} {sp : World → Sp} {x : Str}
  (hn : l.most = some n) (hn2 : n ≤ sizeLine) (hdf : d.params.defaults = []) (hr : Room k callerA)
  (hY : ∀ (w : World) (h : Heap), YP w h → (K w.params).In h)
  (F : ∀ (w : World) (mg : Str → Option Value) (fa : Addr) (h : Heap), (K w.params).In h → h.Ns mainGlobals mg → mg d.name = some (.ref fa) →
   ∃ fd : FuncData, (∀ (s : Shared) (u : Value), BindsTo s fd ⟨[u], []⟩ [(x, u)]) ∧
    ∀ base : Heap, (K w.params).In base → base.Ns mainGlobals mg → FnOk l.prog w (K w.params) mg base (CX w) k fa fd [x] (sp w))
  (hsp : ∀ (w : World) (H : Hp) (a : Addr) (ns : List Int), ns.length ≤ n → Only H → SqL (K w.params) H a (ns.map V.int) → sp w [.ref a] H (fun v _ => v = .bl true) fun _ _ _ => False)
  (hCX : ∀ (w : World) (H : Hp) (s : Shared) (e : Value) (s' : Shared), CX w [] H s (fun _ _ _ => False) e s' → False) :
  PySem.W.WalkO q loose XP YP l.row.toRowW d [] (fun f vs => PySem.call f vs) := by
 refine Att.attach_call hn hdf fun w s₀ s₁ mg mb fa o pm cd doc a vs ns G Y ho hd hcd hmg hobj hints hlen hg => ?_
 have KX := hY w _ Y
 obtain ⟨fd, hb, hF⟩ := F w mg fa _ KX G.T.g hmg
 exact law_call KX G.T.g G.T.b G.T.builtins G.T.nolimit hg hobj hints (Nat.le_trans hlen hn2) hr hF hb (fun H hO hS => hsp w H a ns hlen hO hS) fun H e s' => hCX w H s₁ e s'
theorem walk_ofK {l : PySem.W.OpenLaw} {n k : Nat} {q : Program} {loose : List Str} {XP : (Str → Option Value) → Heap → Prop} {YP : World → Heap → Prop} {d : DefRec} {K : Params → PySem.W.Frag} {CX : CXT} {sp : PySem.W.Frag → Sp} {x : Str}
  (hn : l.most = some n) (hn2 : n ≤ sizeLine) (hdf : d.params.defaults = []) (hr : Room k callerA)
  (hY : ∀ (w : World) (h : Heap), YP w h → (K w.params).In h)
  (F : ∀ (w : World) (mg : Str → Option Value) (fa : Addr) (h : Heap), (K w.params).In h → h.Ns mainGlobals mg → mg d.name = some (.ref fa) →
   ∃ fd : FuncData, (∀ (s : Shared) (u : Value), BindsTo s fd ⟨[u], []⟩ [(x, u)]) ∧
    ∀ base : Heap, (K w.params).In base → base.Ns mainGlobals mg → FnOk l.prog w (K w.params) mg base CX k fa fd [x] (sp (K w.params)))
  (hsp : ∀ (K : PySem.W.Frag) (H : Hp) (a : Addr) (ns : List Int), ns.length ≤ n → Only H → SqL K H a (ns.map V.int) → sp K [.ref a] H (fun v _ => v = .bl true) fun _ _ _ => False)
  (hCX : ∀ (H : Hp) (s : Shared) (e : Value) (s' : Shared), CX [] H s (fun _ _ _ => False) e s' → False) :
  PySem.W.WalkO q loose XP YP l.row.toRowW d [] (fun f vs => PySem.call f vs) :=
 walk_of (K := K) (CX := fun _ => CX) (sp := fun w => sp (K w.params)) hn hn2 hdf hr hY F (fun w H a ns h1 h2 h3 => hsp (K w.params) H a ns h1 h2 h3) fun _ H s e s' => hCX H s e s'
end L2
/- THE LAST THEOREM (shape; LID, My.* are yours):
   My.Adr: a structure of the addresses that your layer names (classes, functions); My.Txt K t: a structure (Prop) of the equations over K;
   My.txt_mk : {K} {implicit addresses ..} (e1 : nsIn K mainGlobals "law" = some (some (.ref f))) (e2 : K.lookup f = some ⟨oc, od, .func (fnOf "law" "law" params body scope dV kV doc pm an cdv ct), sl⟩) (e3 : codeIn K cdv "law" = true) .. : ∃ t, My.Txt K t
set_option maxRecDepth 100000 in
set_option maxHeartbeats 0 in
theorem PySem.Challenge.cw_LID_holds : PySem.Challenge.rw_LID.Holds := by
 w_on; o_law; k_head; (case hw => w_witness2)
 k_fill
 refine L2.walk_of (l := PySem.Challenge.rw_LID) (n := 63) (k := 40) (x := "script") (CX := fun w => ..) (sp := fun _ => My.sp_law) rfl (by decide) rfl ⟨rfl, by decide, by decide⟩ (fun w h Y => PySem.W.kIn_of Y) ?F ?S ?C
 case F =>
  intro w mg fa h KX G hmg
  have T : ∃ t, My.Txt (L2.KOf KX) t := by
   dsimp only [L2.KOf]                          -- K must stand as «<heap const> w.params» for k_is
   refine' My.txt_mk ?e1 ?e2 ?e3 ..
   (case e1 => PySem.W.k_is)                    -- in the order: a name -> its address -> its object -> its parts
   (case e2 => PySem.W.k_is)
   ..
  obtain ⟨t, T⟩ := T
  have e0 := hmg.symm.trans (PySem.W.mg_of KX G T.law)
  cases e0                                       -- fa is the law's own address
  exact ⟨_, fun s u => .of_eq rfl, fun base kb nb => My.law_fn T kb nb⟩     -- if «.of_eq rfl» comes too early: refine' ⟨_, ?b, fun base kb nb => My.law_fn T kb nb⟩; exact fun s u => .of_eq rfl
 case S => exact fun w H a ns hl hO hS => ..
 case C => exact ..
(the tactic k_is has no namespace: write k_is) -/
namespace L2
open PySem PySem.Spec PyProof.Rows
def inClass (s : Stmt) (j : Nat) : Stmt := match s with
 | .ClassDef _ _ _ body _ _ _ _ _ _ _ => body.getD j (.Pass ⟨0, 0, 0, 0⟩)
 | _ => .Pass ⟨0, 0, 0, 0⟩
def defArgs (s : Stmt) : Arguments := match s with
 | .FunctionDef _ a _ _ _ _ _ _ _ _ => a
 | _ => { posonlyargs := [], args := [], vararg := none, kwonlyargs := [], kw_defaults := [], kwarg := none, defaults := [] }
def defBody (s : Stmt) : List Stmt := match s with
 | .FunctionDef _ _ b _ _ _ _ _ _ _ => b
 | _ => []
def defScope (s : Stmt) : Scope := match s with
 | .FunctionDef _ _ _ _ _ _ sc _ _ _ => sc
 | _ => { kind := .function, names := [], isGenerator := false, isCoroutine := false }
abbrev CX0 : CXT := fun _ _ _ _ _ _ => False
abbrev E0 : XK := fun _ _ _ => False
theorem pass0 {X : Cx} : Passes CX0 X E0 := fun _ _ _ _ _ _ _ h => h.elim
structure Fun (K : PySem.W.Frag) (x qual : Str) (st : Stmt) (f : Addr) (fd : FuncData) : Prop where
 ex : ∃ (oc : Value) (od : Option Addr) (kV doc pm : Value) (an : Option Addr) (cdv ct : Value) (osl : Array (Option Value)),
  fd = PySem.W.fnOf x qual (defArgs st) (defBody st) (defScope st) .none kV doc pm an cdv ct ∧ K.lookup f = some ⟨oc, od, .func fd, osl⟩ ∧ PySem.W.codeIn K cdv qual = true
 kp : PySem.W.keepIn K (.ref f) = true
section
variable {P : Program} {w : World} {K : PySem.W.Frag} {mg : Str → Option Value} {base : Heap}
theorem Fun.ok {x qual : Str} {st : Stmt} {f : Addr} {fd : FuncData} {N ps : List Str} {k : Nat} {sp : Sp} (F : Fun K x qual st f fd) (S : FnScope N ps (defScope st)) (len : ∀ vs H Q E, sp vs H Q E → vs.length = ps.length)
  (hbody : ∀ (cdv : Value) (A : Around) (outer : List Env) (s : Shared) (H : Hp) (vs : List V) (Q : VK) (E : XK), Room k (A.deeper (envOfC qual (defScope st) s.heap.objs.size f cdv)) → sp vs H Q E →
   ∃ t, PSs (cxOf CX0 P w K mg base N qual (defScope st) f cdv A outer s H E).nox (defBody st) t ∧ t { nx := fun _ H' => Q .non H', rt := Q } (start N vs) H) : FnOk P w K mg base CX0 (k + 1) f fd ps sp := by
 obtain ⟨oc, od, kV, doc, pm, an, cdv, ct, osl, rfl, lk, hcd⟩ := F.ex
 refine fn_of lk hcd S len fun A outer s H vs Q E hr hsp => ?_
 obtain ⟨t, h, q⟩ := hbody cdv A outer s H vs Q E hr hsp
 exact ⟨t, h.nox, q⟩
theorem Fun.binds {x qual : Str} {st : Stmt} {f : Addr} {fd : FuncData} {ps : List Str} (F : Fun K x qual st f fd)
  (h : ∀ (kV doc pm : Value) (an : Option Addr) (cdv ct : Value) (us : List Value), us.length = ps.length → bindArgs (PySem.W.fnOf x qual (defArgs st) (defBody st) (defScope st) .none kV doc pm an cdv ct) ⟨us, []⟩ = pure (ps.zip us)) : Binds K fd ps [] := by
 obtain ⟨oc, od, kV, doc, pm, an, cdv, ct, osl, rfl, lk, hcd⟩ := F.ex
 exact .all (h kV doc pm an cdv ct)
theorem fun_mk {x qual : Str} {st : Stmt} {f : Addr} {oc : Value} {od an : Option Addr} {osl : Array (Option Value)} {kV doc pm cdv ct : Value} (l : K.lookup f = some ⟨oc, od, .func (PySem.W.fnOf x qual (defArgs st) (defBody st) (defScope st) .none kV doc pm an cdv ct), osl⟩)
  (c : PySem.W.codeIn K cdv qual = true) (k : PySem.W.keepIn K (.ref f) = true) : Fun K x qual st f (PySem.W.fnOf x qual (defArgs st) (defBody st) (defScope st) .none kV doc pm an cdv ct) := ⟨⟨oc, od, kV, doc, pm, an, cdv, ct, osl, rfl, l, c⟩, k⟩
end
theorem hu_of {A : Around} {k : Nat} (hr : Room k A) : A.units + 1 < cLine := Nat.lt_of_le_of_lt (Nat.add_le_add_left (by decide : 1 ≤ 64) _) hr.units
theorem small1000 {n : Nat} (h : n ≤ 1000) : n < sizeLine := Nat.lt_of_le_of_lt h (by decide)
section
variable {X : Cx}
theorem pv (i : Nat) {x : Str} {pos : Pos} (hN : X.N[i]? = some x := by rfl) (hv : Vis X.env.scope x := by first | exact Or.inl rfl | exact Or.inr (Or.inl rfl) | exact Or.inr (Or.inr rfl)) (hd : (x == ("__debug__" : Str)) = false := by decide)
  (hcd : (x == ("__classdict__" : Str)) = false := by decide) : PE X (.Name x pos) (tVar i) := pe_var hN hv hd hcd
end
theorem iteF {A B : Prop} (h : B) : if false = true then A else B := by
 rw [if_neg Bool.false_ne_true]
 exact h
theorem iteT {A B : Prop} (h : A) : if true = true then A else B := by
 rw [if_pos rfl]
 exact h
theorem ite2 {c A B : Prop} [Decidable c] (h1 : c → A) (h2 : ¬ c → B) : if c then A else B := by
 by_cases h : c
 ·rw [if_pos h]
  exact h1 h
 ·rw [if_neg h]
  exact h2 h
def Same (H H' : Hp) : Prop := ∀ b o, H b = some o → H' b = some o
theorem Same.refl (H : Hp) : Same H H := fun _ _ h => h
theorem Same.trans {H H1 H2 : Hp} (a : Same H H1) (b : Same H1 H2) : Same H H2 := fun c o h => b c o (a c o h)
theorem Same.free {H H' : Hp} (e : Same H H') {l : Addr} (h : H' l = Option.none) : H l = Option.none := by
 cases q : H l with
 | none => rfl
 | some o =>
  rw [e l o q] at h
  cases h
theorem Same.seq {K : PySem.W.Frag} {H H' : Hp} {a : Addr} {xs : List V} (e : Same H H') (h : SqL K H a xs) : SqL K H' a xs := by
 rcases h with (h | ⟨o, h⟩) | h
 ·exact .inl (.inl (e _ _ h))
 ·exact .inl (.inr ⟨o, e _ _ h⟩)
 ·exact .inr h
end L2
set_option Elab.async false
set_option maxRecDepth 100000
namespace L2
open PySem PySem.Spec PyProof.Rows
def closOf (cells : List (Str × Addr)) : List (Str × NameKind) → List (Str × Addr) → List (Str × Addr)
 | [], acc => acc
 | (n, k) :: r, acc => closOf cells r (if k == .free then (n, (cells.lookup n).getD 0) :: acc else acc)
theorem closureFor_of {scope : Scope} {env : Env} (h : ∀ x ∈ scope.names, x.2 = .free → ∃ c, env.cells.lookup x.1 = some c) : closureFor scope env = pure (closOf env.cells scope.names []) := by
 unfold closureFor
 generalize hn : scope.names = names at h ⊢
 clear hn
 generalize ([] : List (Str × Addr)) = acc
 induction names generalizing acc with
 | nil => simp [closOf]
 | cons x r ih =>
  obtain ⟨n, k⟩ := x
  have ih' := fun a => ih (fun x hx => h x (List.mem_cons_of_mem _ hx)) a
  simp only [List.forIn_cons, bind_pure] at ih' ⊢
  by_cases hk : k = .free
  ·obtain ⟨c, hc⟩ := h (n, k) List.mem_cons_self hk
   subst hk
   have hcl : cellOf env n = pure c := by simp only [cellOf, hc]
   simp only [beq_self_eq_true, if_true, hcl, hc, pure_bind, closOf, Option.getD_some]
   simpa using ih' _
  ·have hb : (k == NameKind.free) = false := by simpa using hk
   simp only [hb, Bool.false_eq_true, if_false, pure_bind, closOf]
   simpa using ih' _
theorem closOf_look {cells : List (Str × Addr)} {y : Str} {c : Addr} : ∀ {names : List (Str × NameKind)} {acc : List (Str × Addr)}, (∀ x ∈ names, x.2 = .free → ∃ c, cells.lookup x.1 = some c) → (acc.lookup y = some c → cells.lookup y = some c) →
  (closOf cells names acc).lookup y = some c → cells.lookup y = some c
 | [], _, _, ha, e => ha e
 | (n, k) :: r, acc, h, ha, e => by
  unfold closOf at e
  refine closOf_look (names := r) (fun x hx => h x (List.mem_cons_of_mem _ hx)) (fun e' => ?_) e
  by_cases hk : k = .free
  ·obtain ⟨d, hd⟩ := h (n, k) List.mem_cons_self hk
   subst hk
   simp only [beq_self_eq_true, if_true, hd, Option.getD_some, List.lookup_cons] at e'
   cases q : y == n with
   | true =>
    rw [q] at e'
    have : y = n := by simpa using q
    subst this
    exact hd.trans e'
   | false => rw [q] at e'; exact ha e'
  ·have hb : (k == NameKind.free) = false := by simpa using hk
   simp only [hb, Bool.false_eq_true, if_false] at e'
   exact ha e'
theorem closOf_has {cells : List (Str × Addr)} {y : Str} : ∀ {names : List (Str × NameKind)} {acc : List (Str × Addr)}, ((y, NameKind.free) ∈ names ∨ ∃ c, acc.lookup y = some c) → ∃ c, (closOf cells names acc).lookup y = some c
 | [], _, h => by simpa [closOf] using h
 | (n, k) :: r, acc, h => by
  unfold closOf
  refine closOf_has (names := r) ?_
  rcases h with h | ⟨c, h⟩
  ·rcases List.mem_cons.mp h with e | e
   ·cases e
    right
    simp
   ·exact .inl e
  ·right
   by_cases hk : (k == NameKind.free) = true
   ·rw [if_pos hk, List.lookup_cons]
    cases y == n
    ·exact ⟨c, h⟩
    ·exact ⟨_, rfl⟩
   ·rw [if_neg hk]
    exact ⟨c, h⟩
end L2
set_option Elab.async false
set_option maxRecDepth 100000
namespace L2
open PySem PySem.Spec PyProof.Rows
def PTs (X : Cx) (ifs : List Expr) (t : TT) : Prop :=
 ∀ (pins : List (Addr × Obj)) (s : Shared) (σ : St) (H : Hp) (Q : Bool → Hp → Prop), Inv X pins σ H s → t σ H Q →
  wpAny (model X.prog X.w) X.A (forIn ifs true fun c r => if r = true then do let ok ← isTrue c X.env (eval c X.env); pure (ForInStep.yield ok) else pure (ForInStep.yield r)) (TP X pins σ Q) X.xe s
def tTrue : TT := fun _ H Q => Q true H
theorem pts_nil {X : Cx} : PTs X [] tTrue := fun _ _ _ H _ I h => wpAny_tests_nil ⟨H, I, h⟩
def Cx.block (X : Cx) (scope : Scope) (N : List Str) (s : Shared) (H : Hp) (fp : List Addr) : Cx where
 prog := X.prog
 w := X.w
 K := X.K
 mg := X.mg
 base := X.base
 A := X.A
 N := N
 s₀ := s
 H₀ := H
 env := compEnvC scope (closOf X.env.cells scope.names []) s.heap.objs.size X.env
 outer := X.stack
 stack := X.stack
 ex := fp
 fn := fun _ => false
 calm := X.calm
 pn := []
 xe := fun _ _ => False
def isCl : Option NameKind → Bool
 | some .cell => true
 | some .free => true
 | _ => false
theorem isCl_iff {k : Option NameKind} (h : isCl k = true) : k = some .cell ∨ k = some .free := by
 unfold isCl at h
 split at h
 ·exact .inl rfl
 ·exact .inr rfl
 ·cases h
structure CompOk (X : Cx) (scope : Scope) (N : List Str) (cap : List (Option Nat)) : Prop where
 kind : scope.kind = .function
 nocell : (scope.names.all fun y => !(y.2 == .cell)) = true
 loc : (scope.names.all fun y => !(y.2 == .local) || (scope.names.lookup y.1 == some .local)) = true
 fre : (scope.names.all fun y => !(y.2 == .free) || isCl (X.env.kindOf y.1)) = true
 len : cap.length = N.length
 cap : ((cap.zip N).all fun p => match p.1 with | none => true | some j => (X.N[j]? == some p.2) && isCl (X.env.kindOf p.2) && isCl ((relabel scope X.env).names.lookup p.2)) = true
def capS (cap : List (Option Nat)) (σ : St) : St := cap.map fun o => match o with | none => none | some j => (σ[j]?).join
section
variable {X : Cx} {pins : List (Addr × Obj)} {σ : St} {H : Hp} {s : Shared} {fp : List Addr} {scope : Scope} {N : List Str} {cap : List (Option Nat)}
theorem CompOk.freeH (c : CompOk X scope N cap) (ok : X.Ok) : ∀ x ∈ scope.names, x.2 = .free → ∃ a, X.env.cells.lookup x.1 = some a := fun x hx hf => by
 have := List.all_eq_true.mp c.fre x hx
 rw [hf] at this
 simp only [beq_self_eq_true, Bool.not_true, Bool.false_or] at this
 exact ok.has x.1 (isCl_iff this)
theorem relabel_look {scope : Scope} {env : Env} {y : Str} (h : (relabel scope env).names.lookup y = some .cell ∨ (relabel scope env).names.lookup y = some .free) (nc : ∀ z ∈ scope.names, z.2 ≠ .cell) : (y, NameKind.free) ∈ scope.names := by
 unfold relabel at h
 dsimp only at h
 generalize scope.names = names at h nc
 induction names with
 | nil => simp at h
 | cons z r ih =>
  obtain ⟨n, k⟩ := z
  have nc' : ∀ z ∈ r, z.2 ≠ .cell := fun z hz => nc z (List.mem_cons_of_mem _ hz)
  rw [List.map_cons, List.lookup_cons] at h
  have nck := nc (n, k) List.mem_cons_self
  dsimp only at h nck
  by_cases hc : (k == NameKind.free && env.scope.kind == .function && env.kindOf n == some .cell) = true
  ·rw [if_pos hc] at h
   dsimp only at h
   have hk : k = .free := by
    simp only [Bool.and_eq_true, beq_iff_eq] at hc
    exact hc.1.1
   cases q : y == n with
   | true => rw [show y = n from by simpa using q, hk]; exact List.mem_cons_self
   | false => rw [q] at h; exact List.mem_cons_of_mem _ (ih h nc')
  ·rw [if_neg hc] at h
   dsimp only at h
   cases q : y == n with
   | true =>
    rw [q] at h
    rcases h with h | h
    ·cases h; exact absurd rfl nck
    ·cases h; rw [show y = n from by simpa using q]; exact List.mem_cons_self
   | false => rw [q] at h; exact List.mem_cons_of_mem _ (ih h nc')
theorem CompOk.nc (c : CompOk X scope N cap) : ∀ z ∈ scope.names, z.2 ≠ .cell := fun z hz e => by
 have := List.all_eq_true.mp c.nocell z hz
 rw [e] at this
 exact absurd this (by decide)
theorem CompOk.lc (c : CompOk X scope N cap) : ∀ x ∈ scope.names, x.2 = .local → scope.names.lookup x.1 = some .local := fun x hx e => by
 have := List.all_eq_true.mp c.loc x hx
 rw [e] at this
 simpa using this
theorem block_ok (c : CompOk X scope N cap) (I : Inv X pins σ H s) (hf : ∀ b ∈ fp, FpOk X pins H b) (hlt : ∀ b ∈ fp, b < s.heap.objs.size) : (X.block scope N s H fp).Ok := by
 have lk : ∀ {y : Str} {a : Addr}, (closOf X.env.cells scope.names []).lookup y = some a → X.env.cells.lookup y = some a := fun e => closOf_look (c.freeH I.ok) (fun z => by simp at z) e
 refine ⟨I.ok.mod, c.kind, I.ok.glob, I.ok.blt, Nat.le_refl _, fun x y a h1 h2 => I.ok.inj x y a (lk h1) (lk h2), fun x hx => closOf_has (.inl (relabel_look hx c.nc)), fun x a h => absurd h (by simp [Cx.block]), I.ok.hd, I.ok.frames, .inl rfl, fun b hb => ⟨?_, fun x a h => (hf b hb).2.2.2.2.1 x a (lk h)⟩, I.bs, Nat.le_trans I.ok.bsz I.sz, fun b o e hb => ?_, fun b hb z => ?_, I.stack, I.stkFree⟩
 ·exact Nat.ne_of_lt (hlt b hb)
 ·rcases (hf b hb).2.2.2.1 with z | z
  ·exact I.ok.noex b o e z
  ·exact absurd (Nat.lt_of_lt_of_le (Heap.lt_size (I.ok.bs b o e).1) z) (Nat.lt_irrefl _)
 ·rcases List.mem_cons.mp (I.stkSub b z) with e | e
  ·exact (hf b hb).2.1 e
  ·exact (hf b hb).2.2.1 e
theorem capS_get {i : Nat} {v : V} (h : (capS cap σ)[i]? = some (some v)) : ∃ j, cap[i]? = some (some j) ∧ σ[j]? = some (some v) := by
 unfold capS at h
 rw [List.getElem?_map] at h
 cases q : cap[i]? with
 | none => rw [q] at h; cases h
 | some o =>
  rw [q] at h
  cases o with
  | none => cases h
  | some j =>
   refine ⟨j, rfl, ?_⟩
   have h' : (σ[j]?).join = some v := Option.some.inj h
   cases q2 : σ[j]? with
   | none => rw [q2] at h'; cases h'
   | some o =>
    rw [q2] at h'
    have : o = some v := h'
    rw [this]
theorem block_inv (c : CompOk X scope N cap) (I : Inv X pins σ H s) (hf : ∀ b ∈ fp, FpOk X pins H b) (hlt : ∀ b ∈ fp, b < s.heap.objs.size) {h1 : Heap} {t1 : Nat} (hns : h1.Ns s.heap.objs.size (fun x => ([] : List (Str × Value)).reverse.lookup x))
  (hsb : Heap.SameBut s.heap.objs.size (s.heap.push { cls := .type (if (some X.env : Option Env).isSome then "dict" else "frame"), data := .dict #[] }) h1) : Inv (X.block scope N s H fp) [] (capS cap σ) H { s with heap := h1, toks := t1 } := by
 have lk : ∀ {y : Str} {a : Addr}, (closOf X.env.cells scope.names []).lookup y = some a → X.env.cells.lookup y = some a := fun e => closOf_look (c.freeH I.ok) (fun z => by simp at z) e
 have keep : ∀ b o, s.heap.get? b = some o → h1.get? b = some o := fun b o e => (hsb.2 b (Nat.ne_of_lt (Heap.lt_size e))).trans (Heap.get?_push_of_some _ e)
 have cellK : ∀ {a : Addr} {v : Option Value}, s.heap.IsCell a v → h1.IsCell a v := fun ⟨o, e, d⟩ => ⟨o, keep _ _ e, d⟩
 refine ⟨block_ok c I hf hlt, rfl, I.bare, Un.kept keep, ⟨_, hns, fun i x v h1 h2 h3 => ?_⟩, fun x a e => ?_, I.hok.fresh (Nat.le_refl _), fun x a e => I.freeC x a (lk e), fun p hp => absurd (show p ∈ ([] : List (Addr × Obj)) from hp) (by simp), I.hok.kept keep, ?_⟩
 ·obtain ⟨j, hc, hs⟩ := capS_get h2
  have hN : N[i]? = some x := h1
  have hz : (cap.zip N)[i]? = some (some j, x) := by rw [List.getElem?_zip_eq_some]; exact ⟨hc, hN⟩
  have := List.all_eq_true.mp c.cap _ (List.mem_of_getElem? hz)
  simp only [Bool.and_eq_true, beq_iff_eq] at this
  obtain ⟨⟨e1, e2⟩, e3⟩ := this
  obtain ⟨m, hn, hl⟩ := I.loc
  have hk := isCl_iff e2
  obtain ⟨u, r, l⟩ := hl j x v e1 hs (by rcases hk with z | z; exact .inr (.inl z); exact .inr (.inr z))
  refine ⟨u, r, ?_⟩
  rcases l with ⟨l, _⟩ | ⟨_, a, ea, ca⟩
  ·rw [l] at hk; rcases hk with z | z <;> cases z
  ·have hk' := isCl_iff e3
   obtain ⟨a', ha'⟩ := closOf_has (cells := X.env.cells) (acc := []) (.inl (relabel_look hk' c.nc))
   have : a' = a := Option.some.inj ((lk ha').symm.trans ea)
   subst this
   exact .inr ⟨hk', a', ha', cellK ca⟩
 ·obtain ⟨v, hv⟩ := I.cell x a (lk e)
  exact ⟨v, cellK hv⟩
 ·unfold capS
  rw [List.length_map]
  exact c.len
end
end L2
set_option Elab.async false
set_option maxRecDepth 100000
namespace L2
open PySem PySem.Spec PyProof.Rows
theorem compLoop_go {prog : Program} {w : World} {A : Around} {R : Result → Shared → Prop} {s : Shared} {elt target iter : Expr} {ifs : List Expr} {scope : Scope} {pos : Pos} {it acc : Value} {env : Env} (J : Nat → Shared → Prop)
    (turn : ∀ n s, J n s → wpAny (model prog w) A (pyNext it) (fun r s₁ => match r with
      | none => R (.ok .next) s₁
      | some v => wpAny (model prog w) A (letOwnedTupleGo target it v) (fun _ s₀ => wpAny (model prog w) A (assign target env v) (fun _ s₂ =>
          wpAny (model prog w) A (forIn ifs true fun c r => if r = true then do let ok ← isTrue c env (eval c env); pure (ForInStep.yield ok) else pure (ForInStep.yield r)) (fun ok s₃ =>
            if ok = true then wpAny (model prog w) A (eval elt env) (fun x s₄ =>
              wpAny (model prog w) A (call (.builtin "list.append") [acc, x]) (fun _ s₅ => ∃ m, m < n ∧ J m s₅) (fun _ _ => False) s₄) (fun _ _ => False) s₃
            else ∃ m, m < n ∧ J m s₃) (fun _ _ => False) s₂) (fun _ _ => False) s₀) (fun _ _ => False) s₁) (fun _ _ => False) s)
    (n : Nat) (h : J n s) :
    codeAny (model prog w) A (.compLoop (.ListComp elt [⟨target, iter, ifs, 0⟩] scope pos) 0 it acc env) R s := by
  refine codeAny_loop rfl J (fun n s hI => ?_) n h
  show wpAny _ A ((compTurn (.ListComp elt [⟨target, iter, ifs, 0⟩] scope pos) 0 it acc env).onRaise (fun x => do noteFrame x env; theTreesLotGoes x)) _ _ s
  refine wpAny_noted ?_
  rw [compTurn_list]
  refine wpAny_bind (wpAny_standAt (wpAny_bind (wpAny_mono (turn n s hI) (fun r s₁ h₁ => ?_) fun _ _ h' => h'.elim)))
  cases r with
  | none => exact wpAny_pure h₁
  | some v =>
    refine wpAny_bind (wpAny_mono h₁ (fun _ s₀ h₀ => ?_) fun _ _ h' => h'.elim)
    refine wpAny_bind (wpAny_mono h₀ (fun _ s₂ h₂ => wpAny_bind (wpAny_mono h₂ (fun ok s₃ h₃ => ?_) fun _ _ h' => h'.elim)) fun _ _ h' => h'.elim)
    cases ok with
    | false => exact wpAny_pure ⟨rfl, h₃⟩
    | true =>
      exact wpAny_bind (wpAny_bind (wpAny_mono h₃ (fun x s₄ h₄ => wpAny_bind (wpAny_mono h₄ (fun _ s₅ h₅ => wpAny_pure (wpAny_pure ⟨rfl, h₅⟩)) fun _ _ h' => h'.elim)) fun _ _ h' => h'.elim))
def tComp (wi : TI) (g : TG) (tt : TT) (te : TE) (cap : List (Option Nat)) : TE := fun σ H Q => wi σ H fun J H1 => ∀ l, H1 l = none →
 ∃ (n : Nat) (Pv : Nat → List V → St → Hp → Prop), Pv 0 [] (capS cap σ) (upd H1 l (.lst [])) ∧
  (∀ i ys σ' H', i < n → Pv i ys σ' H' → J.go i H' ∧ ∀ x H2, J.yld i H' x H2 → g x σ' H2 fun σ3 H3 => tt σ3 H3 fun b H4 =>
   if b = true then te σ3 H4 fun y H5 => H5 l = some (.lst ys) ∧ ys.length < sizeLine ∧ Pv (i + 1) (ys ++ [y]) σ3 (upd H5 l (.lst (ys ++ [y]))) else Pv (i + 1) ys σ3 H4) ∧
  ∀ ys σ' H', Pv n ys σ' H' → J.stop n H' ∧ Q (.ref l) H'
section
variable {X : Cx} {elt tg iter : Expr} {ifs : List Expr} {scope : Scope} {pos : Pos} {N : List Str} {cap : List (Option Nat)} {wi : TI} {g : TG} {tt : TT} {te : TE}
theorem comp_run {U : Value → Addr → Shared → Prop} (hc : X.calm = true) (c : CompOk X scope N cap) (hi : PI X tg iter wi) (hg : ∀ s H fp, PG (X.block scope N s H fp) tg g) (ht : ∀ s H fp, PTs (X.block scope N s H fp) ifs tt)
    (he : ∀ s H fp, PE (X.block scope N s H fp) elt te)
    {pins : List (Addr × Obj)} {s : Shared} {σ : St} {H : Hp} {Q : VK} (I : Inv X pins σ H s) (h : tComp wi g tt te cap σ H Q)
    (hU : ∀ (l C : Addr) (H' : Hp) (s' : Shared), Inv X pins σ H' s' → (∃ m, s'.heap.Ns C m) → FpOk X pins H' C → Q (.ref l) H' → U (.ref l) C s')
    {RR : Value → Addr → Result → Shared → Prop} (hRR : ∀ a C s', U a C s' → RR a C (.ok .next) s') :
    wpAny (model X.prog X.w) X.A (eval iter X.env) (fun x s₁ => wpAny (model X.prog X.w) X.A (pyIter x) (fun it s₂ => wpAny (model X.prog X.w) X.A (newList []) (fun acc s₃ =>
      wpAny (model X.prog X.w) X.A (newFunctionEnv scope X.env.globals (closOf X.env.cells scope.names []) [] X.env.qual none .none (some X.env)) (fun cenv s₄ =>
        codeAny (model X.prog X.w) X.A (.compStart (.ListComp elt [⟨tg, iter, ifs, 0⟩] scope pos) 0 it acc { cenv with scope := relabel scope X.env }) (RR acc cenv.locals) s₄) X.xe s₃) X.xe s₂) X.xe s₁) X.xe s := by
  refine thn (hi pins s σ H _ I h) fun v s1 h1 => thn h1 fun itv s2 h2 => ?_
  obtain ⟨it, fp, tn, J, H2, e, I2, T, st2, f2, hq⟩ := h2
  subst e
  have hl : H2 s2.heap.objs.size = none := I2.hok.fresh (Nat.le_refl _)
  obtain ⟨n, Pv, p0, step, fin⟩ := hq _ hl
  refine wpAny_newObj_type ?_ (by show 0 ≤ sizeLine; exact Nat.zero_le _)
  have I3 : Inv X pins σ (upd H2 s2.heap.objs.size (.lst [])) { s2 with heap := s2.heap.push { cls := .type "list", data := .seq ([] : List Value).toArray } } :=
    I2.laid (t' := s2.toks) (fun b u e => Heap.get?_push_of_some _ e) (Nat.le_refl _) ⟨Nat.zero_le _, [], _, .nil, Heap.get?_push_size _ rfl⟩
  generalize hs3 : ({ s2 with heap := s2.heap.push { cls := .type "list", data := .seq ([] : List Value).toArray } } : Shared) = s3 at I3 ⊢
  have k23 : ∀ b o, s2.heap.get? b = some o → s3.heap.get? b = some o := fun b o e => by rw [← hs3]; exact Heap.get?_push_of_some _ e
  have fplt2 : ∀ b ∈ fp, b < s2.heap.objs.size := fun b hb => let ⟨o, e, _⟩ := T.obj _ _ st2 b hb; Heap.lt_size e
  have sz23 : s2.heap.objs.size ≤ s3.heap.objs.size := by rw [← hs3]; show _ ≤ (s2.heap.push _).objs.size; rw [Heap.size_push]; exact Nat.le_succ _
  have fplt : ∀ b ∈ fp, b < s3.heap.objs.size := fun b hb => Nat.lt_of_lt_of_le (fplt2 b hb) sz23
  have f3 : ∀ b ∈ fp, FpOk X pins (upd H2 s2.heap.objs.size (.lst [])) b := fun b hb => ⟨by rw [upd_ne (Nat.ne_of_lt (fplt2 b hb))]; exact (f2 b hb).1, (f2 b hb).2⟩
  have st3 : tn 0 s3.heap := T.keep _ _ _ st2 fun b hb o e => k23 b o e
  refine wpAny_newFunctionEnv c.nc (by intro y hy; simp at hy) (fun h4 hns hsb => ?_) c.kind
  have I4 := block_inv (t1 := s3.toks + ([] : List (Str × Value)).length) c I3 f3 fplt hns hsb
  have st4 : tn 0 h4 := T.keep _ _ _ st3 fun b hb o e => (hsb.2 b (Nat.ne_of_lt (fplt b hb))).trans (Heap.get?_push_of_some _ e)
  generalize hY : X.block scope N s3 (upd H2 s2.heap.objs.size (.lst [])) fp = Y at I4
  have yP : Y.prog = X.prog := by rw [← hY]; rfl
  have yw : Y.w = X.w := by rw [← hY]; rfl
  have yK : Y.K = X.K := by rw [← hY]; rfl
  have yA : Y.A = X.A := by rw [← hY]; rfl
  have yx : Y.xe = fun _ _ => False := by rw [← hY]; rfl
  have yc : Y.calm = true := by rw [← hY]; exact hc
  have yex : Y.ex = fp := by rw [← hY]; rfl
  have yfs : Y.fs = frs X.stack := by rw [← hY]; rfl
  have yH : Y.H₀ = upd H2 s2.heap.objs.size (.lst []) := by rw [← hY]; rfl
  have ys : Y.s₀ = s3 := by rw [← hY]; rfl
  have yC : Y.env.locals = s3.heap.objs.size := by rw [← hY]; rfl
  have yenv : compEnvC scope (closOf X.env.cells scope.names []) s3.heap.objs.size X.env = Y.env := by rw [← hY]; rfl
  have yg := hg s3 (upd H2 s2.heap.objs.size (.lst [])) fp
  have yt := ht s3 (upd H2 s2.heap.objs.size (.lst [])) fp
  have ye := he s3 (upd H2 s2.heap.objs.size (.lst [])) fp
  have ypn : Y.pn = [] := by rw [← hY]; rfl
  have ycl : Y.env.cells = closOf X.env.cells scope.names [] := by rw [← hY]; rfl
  rw [hY] at yg yt ye
  have lk : ∀ {y : Str} {a : Addr}, Y.env.cells.lookup y = some a → X.env.cells.lookup y = some a := fun e => by rw [ycl] at e; exact closOf_look (c.freeH I.ok) (fun z => by simp at z) e
  have stat : ∀ {H' : Hp}, (∀ b ∈ fp, H' b = none) → ∀ b ∈ fp, FpOk Y [] H' b := fun hn b hb => by
    refine ⟨hn b hb, by rw [yC]; exact Nat.ne_of_lt (fplt b hb), ?_, .inl (by rw [yex]; exact hb), fun x a e => (f2 b hb).2.2.2.2.1 x a (lk e), fun p hp => ?_⟩
    · rw [yfs]
      intro z
      rcases List.mem_cons.mp (I2.stkSub b z) with e | e
      · exact (f2 b hb).2.1 e
      · exact (f2 b hb).2.2.1 e
    · rw [ypn] at hp
      exact absurd hp (by simp)
  -- the end
  have done : ∀ {σ' : St} {H' : Hp} {s' : Shared}, Inv Y [] σ' H' s' → Q (.ref s2.heap.objs.size) H' → U (.ref s2.heap.objs.size) s3.heap.objs.size s' := fun {σ' H' s'} J' q => by
    have un := J'.base
    rw [yfs, yex, yH, ys] at un
    have J3 := I3.call' (s' := s') (ch := fp) (by rw [J'.os, ys]) un (by have := J'.hok; rw [yP, yw] at this; exact this) J'.bare fun b hb => ⟨(f3 b hb).2.2.2.1, (f3 b hb).2.1, (f3 b hb).2.2.2.2.1, (f3 b hb).2.2.2.2.2⟩
    have hCn : H' s3.heap.objs.size = none := by have := J'.free; rw [yC] at this; exact this
    have hne : s3.heap.objs.size ≠ X.env.locals := Nat.ne_of_gt I3.lt
    have hcl : ∀ x a, X.env.cells.lookup x = some a → a ≠ s3.heap.objs.size := fun x a e => let ⟨_, o, ho, _⟩ := I3.cell x a e; Nat.ne_of_lt (Heap.lt_size ho)
    have hpn : ∀ p ∈ X.pn ++ pins, p.1 ≠ s3.heap.objs.size := fun p hp => Nat.ne_of_lt (Heap.lt_size (I3.pin p hp).1)
    obtain ⟨m, hn, _⟩ := J'.loc
    rw [yC] at hn
    exact hU _ _ H' s' J3 ⟨m, hn⟩ ⟨hCn, hne, I3.nofs (Nat.le_refl _), .inr I3.sz, hcl, hpn⟩ q
  have loop : ∀ s5 : Shared, s5 = { s3 with heap := h4, toks := s3.toks + ([] : List (Str × Value)).length } →
      codeAny (model X.prog X.w) X.A (.compLoop (.ListComp elt [⟨tg, iter, ifs, 0⟩] scope pos) 0 (.ref it) (.ref s2.heap.objs.size) Y.env) (RR (.ref s2.heap.objs.size) s3.heap.objs.size) s5 := by
    rintro s5 rfl
    refine compLoop_go (fun k s' => ∃ i ys σ' H', Inv Y [] σ' H' s' ∧ tn i s'.heap ∧ (∀ b ∈ fp, H' b = none) ∧ i ≤ n ∧ k = n - i ∧ Pv i ys σ' H') ?_ n ⟨0, [], _, _, I4, st4, fun b hb => (f3 b hb).1, Nat.zero_le _, rfl, p0⟩
    rintro k s6 ⟨i, zs, σ6, H6, I6, st6, fr6, hin, rfl, pv6⟩
    by_cases hlt : i < n
    · obtain ⟨go, stp⟩ := step i zs σ6 H6 hlt pv6
      have q := T.item Y yP yw yK yc i [] s6 σ6 H6 (fun _ _ => False) I6 (stat fr6) st6 go
      rw [yA] at q
      refine thn q fun r s7 ⟨u, hr, h7⟩ => ?_
      subst hr
      refine thn h7 fun _ s8 ⟨x, H8, I8, r8, y8, st8, fr8⟩ => ?_
      have I8' := I8.pinned (stat fr8) (T.obj _ _ st8)
      have q := yg _ s8 σ6 H8 x u _ I8' r8 (stp x H8 y8)
      rw [yP, yw, yA, yx] at q
      refine thn q fun _ s9 ⟨σ9, H9, I9, q9⟩ => ?_
      have q := yt _ s9 σ9 H9 _ I9 q9
      rw [yP, yw, yA, yx] at q
      refine thn q fun b s10 ⟨H10, I10, q10⟩ => ?_
      have again : ∀ {ws : List V} {σ' : St} {H' : Hp} {s' : Shared}, Inv Y ([] ++ pinsAt fp s8.heap) σ' H' s' → Pv (i + 1) ws σ' H' → ∃ m, m < n - i ∧ ∃ i ys σ' H', Inv Y [] σ' H' s' ∧ tn i s'.heap ∧ (∀ b ∈ fp, H' b = none) ∧ i ≤ n ∧ m = n - i ∧ Pv i ys σ' H' := fun {ws σ' H' s'} J' p' => by
        refine ⟨n - (i + 1), by omega, i + 1, ws, σ', H', J'.unpinned, T.keep _ _ _ st8 fun b hb o e => (J'.pin (b, o) (List.mem_append_right _ (List.mem_append_right _ (mem_pinsAt hb e)))).1, fun b hb => ?_, hlt, rfl, p'⟩
        obtain ⟨o, e, d⟩ := T.obj _ _ st8 b hb
        exact (J'.pin (b, o) (List.mem_append_right _ (List.mem_append_right _ (mem_pinsAt hb e)))).2.1
      cases b with
      | false => exact again I10 q10
      | true =>
        have q10 := (if_pos (α := Prop) rfl).mp q10
        have q := ye _ s10 σ9 H10 _ I10 q10
        rw [yP, yw, yA, yx] at q
        refine iteT ?_
        refine thn q fun xv s11 ⟨y, H11, I11, r11, hl11, hz, p11⟩ => ?_
        have q := mt_append (X := Y) _ s11 σ9 H11 (.ref s2.heap.objs.size) [y] _ [xv] (fun _ H' => Pv (i + 1) (zs ++ [y]) σ9 H') I11 rfl (.cons r11 .nil) ⟨_, _, _, rfl, rfl, hl11, hz, p11⟩
        rw [yP, yw, yA, yx] at q
        exact thn q fun _ s12 ⟨_, H12, I12, _, p12⟩ => again I12 p12
    · have e : i = n := by omega
      subst e
      obtain ⟨stop, q⟩ := fin zs σ6 H6 pv6
      have qd := T.done Y yP yw yK yc i [] s6 σ6 H6 (fun _ _ => False) I6 (stat fr6) st6 stop
      rw [yA] at qd
      refine thn qd fun r s7 ⟨hr, I7⟩ => ?_
      subst hr
      exact hRR _ _ _ (done I7 q)
  show codeAny _ _ (.compStart _ 0 (.ref it) _ (compEnvC scope (closOf X.env.cells scope.names []) s3.heap.objs.size X.env)) (RR (.ref s2.heap.objs.size) s3.heap.objs.size) _
  rw [yenv]
  exact codeAny_compStart_list (loop _ rfl) (T.self X.A 0 _ _ _ st4 (loop _ rfl))
theorem FpOk.turned {pins : List (Addr × Obj)} {σ : St} {H : Hp} {s : Shared} {C : Addr} {h' : Heap} (f : FpOk X pins H C) (I : Inv X pins σ H s) (sb : Heap.SameBut C s.heap h') : Inv X pins σ H { s with heap := h' } :=
 I.turned (t' := s.toks) (fun b o hb e => (sb.2 b hb).trans e) f.1 f.2.1 f.2.2.2.1 f.2.2.2.2.1 f.2.2.2.2.2
theorem pe_comp (hc : X.calm = true) (c : CompOk X scope N cap) (hi : PI X tg iter wi) (hg : ∀ s H fp, PG (X.block scope N s H fp) tg g) (ht : ∀ s H fp, PTs (X.block scope N s H fp) ifs tt)
  (he : ∀ s H fp, PE (X.block scope N s H fp) elt te) (hs : ∀ x, foldedSetIterable iter X.env x = pure x := by intro _; rfl) : PE X (.ListComp elt [⟨tg, iter, ifs, 0⟩] scope pos) (tComp wi g tt te cap) := by
 intro pins s σ H Q I h
 rw [eval_ListComp]
 refine wpAny_comprehension_free rfl hs (closureFor_of (c.freeH I.ok)) c.kind c.lc ?_
 exact comp_run (U := fun a C s' => ∃ m, s'.heap.Ns C m ∧ ∀ h', Heap.SameBut C s'.heap h' → EP X pins σ Q a { s' with heap := h' }) hc c hi hg ht he I h
  (fun l C H' s' I' ⟨m, hn⟩ f q => ⟨m, hn, fun h' sb => ⟨.ref l, H', f.turned I' sb, rfl, q⟩⟩) fun a C s' u => u
end
end L2
set_option Elab.async false
set_option maxRecDepth 100000
namespace L2
open PySem PySem.Spec PyProof.Rows
section
variable {X : Cx}
theorem call_isinst : CallR X (.builtin "isinstance") (fun xs H Q => ∃ x n t b, xs = [x, .ty n] ∧ TyOf X.K H x t ∧ PySem.W.kitOne X.K t (.type n) = some b ∧ Q (.bl b) H) := by
 intro pins s σ H xs us Q I r h
 obtain ⟨x, n, t, b, rfl, ty, e, q⟩ := h
 obtain ⟨u, v, rfl, ru, rv⟩ := r.two
 cases (show v = Value.type n from rv)
 exact isinst_ok I ru ty e fun tk => ⟨.bl b, H, I.tok tk, rfl, q⟩
theorem in1_hd {A : Around} (h : A.handled = none) : A.in1.handled = none := h
theorem vals_getD {its : List Value} {bs : List Bool} (r : Vals (bs.map V.bl) its) {i : Nat} {v : Value} (e : its[i]? = some v) : v = .bool (bs.getD i false) := by
 have hl := r.length
 rw [List.length_map] at hl
 have hi : i < its.length := (List.getElem?_eq_some_iff.mp e).1
 have hb : (bs.map V.bl)[i]? = some (V.bl (bs.getD i false)) := by
  rw [List.getElem?_map, List.getD_eq_getElem?_getD, List.getElem?_eq_getElem (by omega)]
  rfl
 obtain ⟨u, hu, ru⟩ := r.get hb
 rw [e] at hu
 cases hu
 exact ru
theorem range_all (bs : List Bool) : (List.range bs.length).all (fun i => bs.getD i false) = bs.all id := by
 rw [Bool.eq_iff_iff]
 simp only [List.all_eq_true, List.mem_range, id]
 constructor
 ·intro h b hb
  obtain ⟨i, hi, rfl⟩ := List.mem_iff_getElem.mp hb
  have := h i hi
  rwa [List.getD_eq_getElem?_getD, List.getElem?_eq_getElem hi] at this
 ·intro h i hi
  rw [List.getD_eq_getElem?_getD, List.getElem?_eq_getElem hi]
  exact h _ (List.getElem_mem hi)
theorem call_all_bl (hc : X.calm = true) : CallR X (.builtin "all") (fun xs H Q => ∃ (p : Addr) (bs : List Bool), xs = [.ref p] ∧ SqL X.K H p (bs.map V.bl) ∧ Q (.bl (bs.all id)) H) := by
 intro pins s σ H xs us Q I r h
 obtain ⟨p, bs, rfl, hp, q⟩ := h
 obtain ⟨u, rfl, ru⟩ := r.one
 cases (show u = Value.ref p from ru)
 obtain ⟨its, rv, pl, hz⟩ := I.list hp
 have hh := in1_hd (I.ok.hd hc)
 have hlt : p < s.heap.objs.size := let ⟨o, ho, _⟩ := pl.isList; Heap.lt_size ho
 refine call_all_walk (wpAny_pyIter_list pl.isList ?_)
 refine ⟨s.heap.objs.size, _, _, _, _, _, fun i => bs.getD i false, rfl, Walks.list hh s.heap.objs.size p (Nat.ne_of_lt hlt) its.toArray, ⟨⟨_, Heap.get?_push_size _ rfl, rfl, rfl⟩, pl.isList.push _⟩, fun i v s' Q' E' hP hQ => ?_, fun h' tk hk => ?_⟩
 ·have := vals_getD rv (i := i) (v := v) (by simpa using hP)
  subst this
  exact wpAny_truthy_bool hQ
 ·have hl := rv.length
  rw [List.length_map] at hl
  refine ⟨.bl (bs.all id), H, I.kept (h' := h') (t' := tk) fun b o e => hk b o (by simpa using Nat.ne_of_lt (Heap.lt_size e)) (Heap.get?_push_of_some _ e), ?_, q⟩
  show _ = _
  rw [List.size_toArray, ← hl, range_all]
end
end L2
set_option Elab.async false
set_option maxRecDepth 100000
namespace L2
open PySem PySem.Spec PyProof.Rows
mutual
def Rep (H : Hp) : PyData → V → Prop
 | .none, v => v = .non
 | .bool b, v => v = .bl b
 | .int i, v => v = .int i
 | .str x, v => v = .str x
 | .list ds, v => ∃ a xs, v = .ref a ∧ H a = some (.lst xs) ∧ RepL H ds xs
 | .tuple ds, v => ∃ a xs, v = .ref a ∧ H a = some (.tup xs) ∧ RepL H ds xs
 | .dict _, _ => False
def RepL (H : Hp) : List PyData → List V → Prop
 | [], xs => xs = []
 | d :: ds, xs => ∃ x r, xs = x :: r ∧ Rep H d x ∧ RepL H ds r
end
mutual
theorem Rep.mono {H H' : Hp} (s : Same H H') : ∀ {d : PyData} {v : V}, Rep H d v → Rep H' d v
 | .none, _, h => by simpa [Rep] using h
 | .bool _, _, h => by simpa [Rep] using h
 | .int _, _, h => by simpa [Rep] using h
 | .str _, _, h => by simpa [Rep] using h
 | .list ds, _, h => by
  simp only [Rep] at h ⊢
  obtain ⟨a, xs, e, h1, h2⟩ := h
  exact ⟨a, xs, e, s _ _ h1, RepL.mono s h2⟩
 | .tuple ds, _, h => by
  simp only [Rep] at h ⊢
  obtain ⟨a, xs, e, h1, h2⟩ := h
  exact ⟨a, xs, e, s _ _ h1, RepL.mono s h2⟩
 | .dict _, _, h => by simp only [Rep] at h
theorem RepL.mono {H H' : Hp} (s : Same H H') : ∀ {ds : List PyData} {xs : List V}, RepL H ds xs → RepL H' ds xs
 | [], _, h => by simpa [RepL] using h
 | d :: ds, _, h => by
  simp only [RepL] at h ⊢
  obtain ⟨x, r, e, h1, h2⟩ := h
  exact ⟨x, r, e, Rep.mono s h1, RepL.mono s h2⟩
end
section
variable {X : Cx} {pins : List (Addr × Obj)} {σ : St} {H : Hp} {s : Shared}
mutual
theorem Rep.reads (I : Inv X pins σ H s) : ∀ {d : PyData} {v : V} {u : Value}, Rep H d v → RelV v u → ∃ as, Reads s.heap u d as
 | .none, _, _, h, r => by simp only [Rep] at h; subst h; cases r; exact ⟨_, .none⟩
 | .bool _, _, _, h, r => by simp only [Rep] at h; subst h; cases r; exact ⟨_, .bool _⟩
 | .int _, _, _, h, r => by simp only [Rep] at h; subst h; obtain ⟨t, rfl⟩ := r; exact ⟨_, .int _ _⟩
 | .str _, _, _, h, r => by simp only [Rep] at h; subst h; obtain ⟨t, rfl⟩ := r; exact ⟨_, .str _ _⟩
 | .list ds, _, _, h, r => by
  simp only [Rep] at h
  obtain ⟨a, xs, rfl, h1, h2⟩ := h
  cases (show _ = Value.ref a from r)
  obtain ⟨its, rv, pl, _⟩ := I.list (SqL.of h1)
  obtain ⟨as, ra⟩ := RepL.reads I h2 rv
  obtain ⟨o, n, e, c, _, d⟩ := pl
  exact ⟨_, .list e c d (by simpa using ra)⟩
 | .tuple ds, _, _, h, r => by
  simp only [Rep] at h
  obtain ⟨a, xs, rfl, h1, h2⟩ := h
  cases (show _ = Value.ref a from r)
  obtain ⟨its, rv, pl, _⟩ := I.tuple (SqT.of h1)
  obtain ⟨as, ra⟩ := RepL.reads I h2 rv
  obtain ⟨o, e, c, n, d⟩ := pl
  exact ⟨_, .tuple e c d (by simpa using ra)⟩
 | .dict _, _, _, h, _ => by simp only [Rep] at h
theorem RepL.reads (I : Inv X pins σ H s) : ∀ {ds : List PyData} {xs : List V} {us : List Value}, RepL H ds xs → Vals xs us → ∃ as, ReadsAll s.heap us ds as
 | [], _, _, h, r => by simp only [RepL] at h; subst h; cases r; exact ⟨_, .nil⟩
 | d :: ds, _, _, h, r => by
  simp only [RepL] at h
  obtain ⟨x, t, rfl, h1, h2⟩ := h
  cases r with
  | cons r1 r2 =>
   obtain ⟨as, a1⟩ := Rep.reads I h1 r1
   obtain ⟨bs, a2⟩ := RepL.reads I h2 r2
   exact ⟨_, .cons a1 a2⟩
end
end
def rEqD (neg : Bool) : R2 := fun x y H Q => ∃ d e, Rep H d x ∧ Rep H e y ∧ SeqAt.shaped d = true ∧ SeqAt.shaped e = true ∧ Q (.bl (if neg then !PyData.eqv d e else PyData.eqv d e)) H
section
variable {X : Cx}
theorem op_eqD (hu : X.A.units + 64 < cLine) : OpR X (compareOp .Eq) (rEqD false) := by
 intro pins s σ H x y v u Q I rx ry h
 obtain ⟨d, e, h1, h2, s1, s2, q⟩ := h
 obtain ⟨as, r1⟩ := h1.reads I rx
 obtain ⟨bs, r2⟩ := h2.reads I ry
 exact eq_dataH r1 r2 s1 s2 hu ⟨.bl _, H, I, rfl, q⟩
theorem op_neD (hu : X.A.units + 64 < cLine) : OpR X (compareOp .NotEq) (rEqD true) := by
 intro pins s σ H x y v u Q I rx ry h
 obtain ⟨d, e, h1, h2, s1, s2, q⟩ := h
 obtain ⟨as, r1⟩ := h1.reads I rx
 obtain ⟨bs, r2⟩ := h2.reads I ry
 exact ne_dataH r1 r2 s1 s2 hu ⟨.bl _, H, I, rfl, q⟩
end
def tyD : PyData → String
 | .none => "NoneType"
 | .bool _ => "bool"
 | .int _ => "int"
 | .str _ => "str"
 | .list _ => "list"
 | .tuple _ => "tuple"
 | .dict _ => "dict"
theorem Rep.ty {K : PySem.W.Frag} {H : Hp} {d : PyData} {v : V} (h : Rep H d v) : TyOf K H v (.type (tyD d)) := by
 cases d with
 | none => simp only [Rep] at h; subst h; exact .non
 | bool b => simp only [Rep] at h; subst h; exact .bl b
 | int b => simp only [Rep] at h; subst h; exact .int b
 | str b => simp only [Rep] at h; subst h; exact .str b
 | list ds => simp only [Rep] at h; obtain ⟨a, xs, rfl, e, _⟩ := h; exact .lst e
 | tuple ds => simp only [Rep] at h; obtain ⟨a, xs, rfl, e, _⟩ := h; exact .tup e
 | dict _ => simp only [Rep] at h
def isD (T : String) : PyData → Bool
 | .none => T == "NoneType"
 | .bool _ => T == "bool" || T == "int"
 | .int _ => T == "int"
 | .str _ => T == "str"
 | .list _ => T == "list"
 | .tuple _ => T == "tuple"
 | .dict _ => T == "dict"
theorem kit_bool {K : PySem.W.Frag} (d : PyData) : PySem.W.kitOne K (.type (tyD d)) (.type "bool") = some (isD "bool" d) := by cases d <;> kernel_rfl
theorem kit_int {K : PySem.W.Frag} (d : PyData) : PySem.W.kitOne K (.type (tyD d)) (.type "int") = some (isD "int" d) := by cases d <;> kernel_rfl
theorem kit_str {K : PySem.W.Frag} (d : PyData) : PySem.W.kitOne K (.type (tyD d)) (.type "str") = some (isD "str" d) := by cases d <;> kernel_rfl
theorem kit_list {K : PySem.W.Frag} (d : PyData) : PySem.W.kitOne K (.type (tyD d)) (.type "list") = some (isD "list" d) := by cases d <;> kernel_rfl
theorem kit_tuple {K : PySem.W.Frag} (d : PyData) : PySem.W.kitOne K (.type (tyD d)) (.type "tuple") = some (isD "tuple" d) := by cases d <;> kernel_rfl
end L2
set_option Elab.async false
set_option maxRecDepth 100000
namespace L2
open PySem PySem.Spec PyProof.Rows
theorem Inv.turnedL {X : Cx} {pins : List (Addr × Obj)} {σ : St} {H : Hp} {s : Shared} {h' : Heap} {t' : Nat} {ch : List Addr} {T : Addr} {o : HO} (I : Inv X pins σ H s) (k : ∀ b o, b ∉ ch → s.heap.get? b = some o → h'.get? b = some o)
  (f : ∀ b ∈ ch, FpOk X pins H b) (there : ∀ b ∈ ch, ∃ o, h'.get? b = some o) (hT : s.heap.objs.size ≤ T) (new : ObjOk X.prog X.w (upd H T o) h' T o) : Inv X pins σ (upd H T o) { s with heap := h', toks := t' } := by
 have nit : ∀ b u, H b = some u → b ∉ ch := fun b u e z => by rw [(f b z).1] at e; cases e
 have ltT : ∀ b ob, s.heap.get? b = some ob → b ≠ T := fun b ob e => Nat.ne_of_lt (Nat.lt_of_lt_of_le (Heap.lt_size e) hT)
 have hTn : H T = none := I.hok.fresh hT
 have neT : ∀ b u, H b = some u → b ≠ T := fun b u e => ne_of_none e hTn
 refine I.step (g' := s.gens) (d' := s.drawn) (ch := ch) (fun b hb => ⟨(f b hb).2.2.2.1, (f b hb).2.1, (f b hb).2.2.2.2.1, (f b hb).2.2.2.2.2⟩) (fun b o _ _ hc e _ => k b o hc e) (fun b o _ _ hc e _ => ⟨o.slots, k b o hc e⟩) (fun b o _ e n => by rw [upd_ne (ltT b o e)]; exact n)
  (fun b o hc e => ⟨o, k b o hc e⟩) (fun b _ e => by rw [upd_ne (neT b _ e)]; exact e) (fun b _ _ e => by rw [upd_ne (neT b _ e)]; exact e) (fun b ps e => ⟨#[], by rw [upd_ne (neT b _ e), e]; simp⟩) (fun m hm => ?_) (fun b u e => ?_) I.bare
 ·obtain ⟨ob, es, ep, ho, r⟩ := hm
  exact ⟨ob, es, ep, k _ ob (fun z => (f _ z).2.1 rfl) ho, r⟩
 ·by_cases hb : b = T
  ·subst hb
   rw [upd_same] at e
   cases e
   exact new
  ·rw [upd_ne hb] at e
   refine (I.hok b u e).stay (fun c v hc q => k c v ?_ q) (fun q e' => ?_) fun a q e' => ?_
   ·rcases hc with z | z
    ·rw [z]; exact nit b u e
    ·exact nit c _ z
   ·rw [upd_ne (neT _ _ e')]; exact e'
   ·rw [upd_ne (neT _ _ e')]; exact e'
def Itz (K : PySem.W.Frag) (a b : Addr) : It :=
  ⟨fun i H => ∃ xs ys x y, SqL K H a xs ∧ SqL K H b ys ∧ xs[i]? = some x ∧ ys[i]? = some y,
   fun i H v H' => ∃ T, v = .ref T ∧ H T = none ∧ ∀ xs ys, SqL K H a xs → SqL K H b ys → ∃ x y, xs[i]? = some x ∧ ys[i]? = some y ∧ H' = upd H T (.tup [x, y]),
   fun i H => ∃ xs ys, SqL K H a xs ∧ SqL K H b ys ∧ (xs.length ≤ i ∨ ys.length ≤ i)⟩
theorem turn_zip {P : Program} {w : World} {K : PySem.W.Frag} {elts : List Expr} {kt : Nat} {pt : Pos} {a b n : Addr} (ha : a < n) (hb : b < n) :
    Turn P w K (.Tuple elts kt pt) (Itz K a b) [n + 4, n + 2, n + 3, n, n + 1] (n + 4) (fun i h => IsZip h (n + 4) (n + 2) (n + 3) .none ∧ IsPair h (n + 2) (.ref n) (.ref (n + 1)) ∧ (∃ x y, IsPair h (n + 3) x y) ∧ h.IsListIter n a i ∧ h.IsListIter (n + 1) b i) where
  mem := by simp
  obj := fun i h st c hc => by
    obtain ⟨z1, z2, ⟨x, y, z3⟩, ⟨o4, e4, c4, d4⟩, ⟨o5, e5, c5, d5⟩⟩ := st
    simp only [List.mem_cons, List.not_mem_nil, or_false] at hc
    rcases hc with rfl | rfl | rfl | rfl | rfl
    · exact ⟨_, z1, fun v z => by cases z⟩
    · exact ⟨_, z2, fun v z => by cases z⟩
    · exact ⟨_, z3, fun v z => by cases z⟩
    · exact ⟨_, e4, fun v z => by rw [d4] at z; cases z⟩
    · exact ⟨_, e5, fun v z => by rw [d5] at z; cases z⟩
  keep := fun i h h' st k => by
    obtain ⟨z1, z2, ⟨x, y, z3⟩, z4, z5⟩ := st
    exact ⟨k _ (by simp) _ z1, k _ (by simp) _ z2, ⟨x, y, k _ (by simp) _ z3⟩, z4.at fun o e => k _ (by simp) o e, z5.at fun o e => k _ (by simp) o e⟩
  item := by
    intro X hP hw hK hc i pins s σ H E I hf st hg
    subst hP hw hK
    obtain ⟨xs, ys, x, y, hqa, hqb, hx, hy⟩ := hg
    obtain ⟨its, rv, p, hz⟩ := I.list hqa
    obtain ⟨jts, rw', p', hz'⟩ := I.list hqb
    obtain ⟨u, hu, ru⟩ := rv.get hx
    obtain ⟨u', hu', ru'⟩ := rw'.get hy
    obtain ⟨z1, z2, ⟨x0, y0, z3⟩, z4, z5⟩ := st
    have D : ZipApart (n + 4) (n + 2) (n + 3) n (n + 1) a b := PyProof.Rows.zipApart_new ha hb
    have ltz : n + 4 < s.heap.objs.size := Heap.lt_size z1
    refine wpAny_pyNext_zip_item D z1 z2 z3 z4 z5 p.isList p'.isList (x := u) (y := u') (by simpa using hu) (by simpa using hu') fun h' a1 a2 a3 a4 a5 a6 hk => ?_
    refine ⟨_, rfl, wpAny_letOwnedTupleGo_zip (s := { s with heap := h' }) a1 fun h2 b1 hs => ?_⟩
    have neT : ∀ {c : Addr}, c ≤ n + 4 → c ≠ s.heap.objs.size := fun h => Nat.ne_of_lt (Nat.lt_of_le_of_lt h ltz)
    have kk : ∀ c o, c ∉ [n + 4, n + 3, n, n + 1] → s.heap.get? c = some o → h2.get? c = some o := fun c o hc e => by
      simp only [List.mem_cons, List.not_mem_nil, or_false, not_or] at hc
      exact (hs.2 c hc.1).trans (hk c o hc.1 hc.2.1 hc.2.2.1 hc.2.2.2 e)
    have q2 : h2.get? (n + 2) = _ := kk _ _ (by simp only [List.mem_cons, List.not_mem_nil, or_false, not_or]; exact ⟨D.TIz, D.TITO, D.TIi1, D.TIi2⟩) z2
    have q3 : h2.get? (n + 3) = _ := (hs.2 _ D.TOz).trans a2
    obtain ⟨o4, e4, c4⟩ := a3
    obtain ⟨o5, e5, c5⟩ := a4
    have q4 : h2.get? n = _ := (hs.2 _ D.i1z).trans e4
    have q5 : h2.get? (n + 1) = _ := (hs.2 _ D.i2z).trans e5
    have qT : h2.get? s.heap.objs.size = _ := (hs.2 _ (Ne.symm (neT (Nat.le_refl _)))).trans a5
    have sub : ∀ c ∈ [n + 4, n + 3, n, n + 1], c ∈ [n + 4, n + 2, n + 3, n, n + 1] := fun c hc => by
      simp only [List.mem_cons, List.not_mem_nil, or_false] at hc ⊢
      rcases hc with e | e | e | e
      · exact .inl e
      · exact .inr (.inr (.inl e))
      · exact .inr (.inr (.inr (.inl e)))
      · exact .inr (.inr (.inr (.inr e)))
    have I1 : Inv X pins σ (upd H s.heap.objs.size (.tup [x, y])) { s with heap := h2, toks := s.toks } := I.turnedL (ch := [n + 4, n + 3, n, n + 1]) kk (fun c hc => hf c (sub c hc)) (fun c hc => by
        simp only [List.mem_cons, List.not_mem_nil, or_false] at hc
        rcases hc with rfl | rfl | rfl | rfl
        · exact ⟨_, b1⟩
        · exact ⟨_, q3⟩
        · exact ⟨_, q4⟩
        · exact ⟨_, q5⟩) (Nat.le_refl _) ⟨by show 2 ≤ sizeLine; decide, [u, u'], .cons ru (.cons ru' .nil), _, qT, rfl, _, rfl⟩
    refine ⟨.ref s.heap.objs.size, _, I1, rfl, ⟨_, rfl, I.hok.fresh (Nat.le_refl _), fun vs ws hv hw => ?_⟩, ⟨b1, q2, ⟨_, _, q3⟩, ⟨_, q4, c4⟩, ⟨_, q5, c5⟩⟩, fun c hc => ?_⟩
    · rw [I.list_inj hv hqa, I.list_inj hw hqb]
      exact ⟨x, y, hx, hy, rfl⟩
    · have hle : c ≤ n + 4 := by
        simp only [List.mem_cons, List.not_mem_nil, or_false] at hc
        rcases hc with rfl | rfl | rfl | rfl | rfl
        · exact Nat.le_refl _
        · exact Nat.le_add_right (n + 2) 2
        · exact Nat.le_add_right (n + 3) 1
        · exact Nat.le_add_right _ 4
        · exact Nat.le_add_right (n + 1) 3
      rw [upd_ne (neT hle)]
      exact (hf c hc).1
  done := by
    intro X hP hw hK hc i pins s σ H E I hf st hg
    subst hP hw hK
    obtain ⟨xs, ys, hqa, hqb, hl⟩ := hg
    obtain ⟨its, rv, p, hz⟩ := I.list hqa
    obtain ⟨jts, rw', p', hz'⟩ := I.list hqb
    obtain ⟨z1, z2, ⟨x0, y0, z3⟩, z4, z5⟩ := st
    have D : ZipApart (n + 4) (n + 2) (n + 3) n (n + 1) a b := PyProof.Rows.zipApart_new ha hb
    have l1 := rv.length
    have l2 := rw'.length
    refine wpAny_pyNext_zip_end (I.ok.hd hc) D z1 z2 z3 z4 z5 p.isList p'.isList ?_ fun h' hk => ⟨rfl, ?_⟩
    · rcases hl with h | h
      · exact .inl (by simp; omega)
      · exact .inr (by simp; omega)
    · have fp : ∀ c ∈ [n + 4, n + 3, n, n + 1], FpOk X pins H c := fun c hc => hf c (by
        simp only [List.mem_cons, List.not_mem_nil, or_false] at hc ⊢
        rcases hc with e | e | e | e
        · exact .inl e
        · exact .inr (.inr (.inl e))
        · exact .inr (.inr (.inr (.inl e)))
        · exact .inr (.inr (.inr (.inr e))))
      have kk : ∀ c o, c ∉ [n + 4, n + 3, n, n + 1] → s.heap.get? c = some o → h'.get? c = some o := fun c o hc e => by
        simp only [List.mem_cons, List.not_mem_nil, or_false, not_or] at hc
        exact hk c o hc.1 hc.2.1 hc.2.2.1 hc.2.2.2 e
      have nit : ∀ c u, H c = some u → c ∉ [n + 4, n + 3, n, n + 1] := fun c u e z => by rw [(fp c z).1] at e; cases e
      refine I.step (g' := s.gens) (d' := s.drawn) (t' := s.toks) (ch := [n + 4, n + 3, n, n + 1]) (fun c hc => ⟨(fp c hc).2.2.2.1, (fp c hc).2.1, (fp c hc).2.2.2.2.1, (fp c hc).2.2.2.2.2⟩) (fun c o _ _ hc e _ => kk c o hc e) (fun c o _ _ hc e _ => ⟨o.slots, kk c o hc e⟩) (fun _ _ _ _ n => n)
        (fun c o hc e => ⟨o, kk c o hc e⟩) (fun _ _ e => e) (fun _ _ _ e => e) (fun _ ps e => ⟨#[], by rw [e]; simp⟩) (fun m hm => ?_) (fun c u e => ?_) I.bare
      · obtain ⟨ob, es, ep, ho, r⟩ := hm
        exact ⟨ob, es, ep, kk _ ob (fun z => (fp _ z).2.1 rfl) ho, r⟩
      · refine (I.hok c u e).stay (fun d v hd q => kk d v ?_ q) (fun _ e' => e') fun _ _ e' => e'
        rcases hd with z | z
        · rw [z]; exact nit c u e
        · exact nit d _ z
  self := fun _ _ _ _ _ st h => wpAny_pyIter_zip st.1 h
section
variable {X : Cx} {elts : List Expr} {kt : Nat} {pt : Pos}
end
end L2
set_option Elab.async false
set_option maxRecDepth 100000
namespace L2
open PySem PySem.Spec PyProof.Rows
section
variable {σ : St} {H : Hp} {Q : VK} {D : Ends} {QB : Bool → Hp → Prop} {QA : List V → Hp → Prop}
theorem rd_next (h : D.nx σ H) : tNext D σ H := h
theorem rd_asg {te : TE} {g : TG} (h : te σ H fun x H1 => g x σ H1 D.nx) : tAsg te g D σ H := h
theorem rd_name {i : Nat} {v : V} {Q : St → Hp → Prop} (h : Q (σ.set i (some v)) H) : gName i v σ H Q := h
theorem rd_ret {te : TE} (h : te σ H D.rt) : tRet te D σ H := h
theorem rd_drop {te : TE} (h : te σ H fun _ H1 => D.nx σ H1) : tDrop te D σ H := h
theorem rd_ifS {c : TT} {t u : TS} (h : c σ H fun b H1 => if b = true then t D σ H1 else u D σ H1) : tIfS c t u D σ H := h
theorem rd_tB {t : TE} (h : t σ H fun x H1 => ∃ c, x = .bl c ∧ QB c H1) : tB t σ H QB := h
theorem rd_tTest {t : TE} (h : t σ H fun x H1 => ∃ c, x = .bl c ∧ QB c H1) : tTest t σ H QB := h
theorem rd_exbl {b : Bool} {P : Bool → Prop} (h : P b) : ∃ c, V.bl b = V.bl c ∧ P c := ⟨b, rfl, h⟩
theorem rd_exref {a : Addr} {P : Addr → Prop} (h : P a) : ∃ c, V.ref a = V.ref c ∧ P c := ⟨a, rfl, h⟩
theorem rd_exint {i : Int} {P : Int → Prop} (h : P i) : ∃ c, V.int i = V.int c ∧ P c := ⟨i, rfl, h⟩
theorem rd_var {i : Nat} {v : V} (e : σ[i]? = some (some v)) (h : Q v H) : tVar i σ H Q := ⟨v, e, h⟩
theorem rd_c {v : V} (h : Q v H) : tC v σ H Q := h
theorem rd_op {r : R2} {ta tb : TE} (h : ta σ H fun x H1 => tb σ H1 fun y H2 => r x y H2 Q) : tOp r ta tb σ H Q := h
theorem rd_un {r : V → Hp → VK → Prop} {ta : TE} (h : ta σ H fun x H1 => r x H1 Q) : tUn r ta σ H Q := h
theorem rd_andV {ta tb : TE} (h : ta σ H fun x H1 => ∃ c, x = .bl c ∧ if c = true then tb σ H1 Q else Q (.bl false) H1) : tAndV ta tb σ H Q := h
theorem rd_notV {ta : TE} (h : ta σ H fun x H1 => ∃ c, x = .bl c ∧ Q (.bl (!c)) H1) : tNotV ta σ H Q := h
theorem rd_and {t u : TT} (h : t σ H fun c H1 => if c = true then u σ H1 QB else QB false H1) : tAnd t u σ H QB := h
theorem rd_or {t u : TT} (h : t σ H fun c H1 => if c = true then QB true H1 else u σ H1 QB) : tOr t u σ H QB := h
theorem rd_not {t : TT} (h : t σ H fun c H1 => QB (!c) H1) : tNot t σ H QB := h
theorem rd_if {t : TT} {ta tb : TE} (h : t σ H fun c H1 => if c = true then ta σ H1 Q else tb σ H1 Q) : tIf t ta tb σ H Q := h
theorem rd_true (h : QB true H) : tTrue σ H QB := h
theorem rd_I0 {g : Int → Int → V} {i j : Int} (h : Q (g i j) H) : rI0 g (.int i) (.int j) H Q := ⟨i, j, rfl, rfl, h⟩
theorem rd_I {C : Int → Int → Prop} {g : Int → Int → V} {i j : Int} (c : C i j) (h : Q (g i j) H) : rI C g (.int i) (.int j) H Q := ⟨i, j, rfl, rfl, c, h⟩
theorem rd_U {g : Int → V} {i : Int} (h : Q (g i) H) : rU g (.int i) H Q := ⟨i, rfl, h⟩
theorem rd_eqI {i j : Int} (h : Q (.bl (decide (i = j))) H) : rEq (.int i) (.int j) H Q := ⟨rfl, by
 rw [dec_int, Int.instDecidableEq.eq_def] <;> first | exact h | (simpa [dec_int] using h)⟩
theorem rd_neI {i j : Int} (h : Q (.bl (!decide (i = j))) H) : rNe (.int i) (.int j) H Q := ⟨rfl, by
 have e : decide (V.int i = V.int j) = decide (i = j) := by by_cases z : i = j <;> simp [z]
 rw [e]; exact h⟩
theorem rd_eqS {i j : Str} (h : Q (.bl (decide (i = j))) H) : rEq (.str i) (.str j) H Q := ⟨rfl, by
 have e : decide (V.str i = V.str j) = decide (i = j) := by by_cases z : i = j <;> simp [z]
 rw [e]; exact h⟩
theorem rd_eqB {i j : Bool} (h : Q (.bl (decide (i = j))) H) : rEq (.bl i) (.bl j) H Q := ⟨rfl, by
 have e : decide (V.bl i = V.bl j) = decide (i = j) := by by_cases z : i = j <;> simp [z]
 rw [e]; exact h⟩
theorem rd_neB {i j : Bool} (h : Q (.bl (!decide (i = j))) H) : rNe (.bl i) (.bl j) H Q := ⟨rfl, by
 have e : decide (V.bl i = V.bl j) = decide (i = j) := by by_cases z : i = j <;> simp [z]
 rw [e]; exact h⟩
theorem rd_ixL {K : PySem.W.Frag} {p : Addr} {xs : List V} {i : Int} {v : V} (h : SqL K H p xs) (e : atI xs i = some v) (q : Q v H) : rIxL K (.ref p) (.int i) H Q := ⟨p, xs, i, v, rfl, rfl, h, e, q⟩
theorem rd_ixT {K : PySem.W.Frag} {p : Addr} {xs : List V} {i : Int} {v : V} (h : SqT K H p xs) (e : atI xs i = some v) (q : Q v H) : rIxT K (.ref p) (.int i) H Q := ⟨p, xs, i, v, rfl, rfl, h, e, q⟩
theorem rd_ixsL {K : PySem.W.Frag} {p : Addr} {xs : List V} {i : Int} {v : V} (h : SqL K H p xs) (e : atI xs i = some v) (q : Q v H) : rIx K (.ref p) (.int i) H Q := .inl (rd_ixL h e q)
theorem rd_ixsT {K : PySem.W.Frag} {p : Addr} {xs : List V} {i : Int} {v : V} (h : SqT K H p xs) (e : atI xs i = some v) (q : Q v H) : rIx K (.ref p) (.int i) H Q := .inr (.inl (rd_ixT h e q))
theorem rd_chain {r r' : R2} {ta tb tc : TE} (h : ta σ H fun x H1 => tb σ H1 fun y H2 => r x y H2 fun z H3 => ∃ k, z = .bl k ∧ if k = true then tc σ H3 fun y' H4 => r' y y' H4 Q else Q (.bl false) H3) : tChain r r' ta tb tc σ H Q := h
theorem rd_call {sp : Sp} {dvs : List V} {E : XK} {t : TA} (h : t σ H fun vs H1 => sp (vs ++ dvs) H1 Q E) : tCall sp dvs E t σ H Q := h
theorem rd_nil (h : QA [] H) : tNil σ H QA := h
theorem rd_cons {ta : TE} {tr : TA} (h : ta σ H fun x H1 => tr σ H1 fun xs H2 => QA (x :: xs) H2) : tCons ta tr σ H QA := h
theorem rd_CB {r : List V → Hp → VK → Prop} {t : TA} (h : t σ H fun vs H1 => r vs H1 Q) : tCB r t σ H Q := h
theorem rd_tup {t : TA} (h : t σ H fun xs H1 => xs.length ≤ sizeLine ∧ ∀ p, H1 p = none → Q (.ref p) (upd H1 p (.tup xs))) : tTup t σ H Q := h
theorem rd_lst {t : TA} (h : t σ H fun xs H1 => xs.length ≤ sizeLine ∧ ∀ p, H1 p = none → Q (.ref p) (upd H1 p (.lst xs))) : tLst t σ H Q := h
end
end L2
set_option Elab.async false
set_option maxRecDepth 100000
namespace L2
open PySem PySem.Spec PyProof.Rows
theorem kit_ii {K : PySem.W.Frag} : PySem.W.kitOne K (.type "int") (.type "int") = some true := by kernel_rfl
theorem kit_ib {K : PySem.W.Frag} : PySem.W.kitOne K (.type "int") (.type "bool") = some false := by kernel_rfl
section
variable {X : Cx} {K : PySem.W.Frag} {H : Hp} {Q : VK} {σ : St}
def rIsi (K : PySem.W.Frag) : List V → Hp → VK → Prop := fun xs H Q => ∃ x n t b, xs = [x, .ty n] ∧ TyOf K H x t ∧ PySem.W.kitOne K t (.type n) = some b ∧ Q (.bl b) H
theorem cI_isinst : CallR X (.builtin "isinstance") (rIsi X.K) := call_isinst
theorem rd_isi {x : V} {n : String} {t : Value} {b : Bool} (ty : TyOf K H x t) (e : PySem.W.kitOne K t (.type n) = some b) (h : Q (.bl b) H) : rIsi K [x, .ty n] H Q := ⟨x, n, t, b, rfl, ty, e, h⟩
def rLen (K : PySem.W.Frag) : List V → Hp → VK → Prop := fun xs H Q => ∃ p ys, xs = [.ref p] ∧ (SqL K H p ys ∨ SqT K H p ys) ∧ Q (.int ys.length) H
theorem cI_len : CallR X (.builtin "len") (rLen X.K) := call_len_seq
theorem rd_lenL {p : Addr} {ys : List V} (h : H p = some (.lst ys)) (q : Q (.int ys.length) H) : rLen K [.ref p] H Q := ⟨p, ys, rfl, .inl (SqL.of h), q⟩
theorem rd_lenT {p : Addr} {ys : List V} (h : H p = some (.tup ys)) (q : Q (.int ys.length) H) : rLen K [.ref p] H Q := ⟨p, ys, rfl, .inr (SqT.of h), q⟩
def rAll (K : PySem.W.Frag) : List V → Hp → VK → Prop := fun xs H Q => ∃ (p : Addr) (bs : List Bool), xs = [.ref p] ∧ SqL K H p (bs.map V.bl) ∧ Q (.bl (bs.all id)) H
theorem cI_all (hc : X.calm = true) : CallR X (.builtin "all") (rAll X.K) := call_all_bl hc
theorem rd_all {p : Addr} {bs : List Bool} (h : H p = some (.lst (bs.map V.bl))) (q : Q (.bl (bs.all id)) H) : rAll K [.ref p] H Q := ⟨p, bs, rfl, SqL.of h, q⟩
def rAbs : List V → Hp → VK → Prop := fun xs H Q => ∃ i, xs = [.int i] ∧ Q (.int (if i < 0 then -i else i)) H
theorem cI_abs : CallR X (.builtin "abs") rAbs := call_abs
theorem rd_abs {i : Int} (q : Q (.int (if i < 0 then -i else i)) H) : rAbs [.int i] H Q := ⟨i, rfl, q⟩
def rMin2 : List V → Hp → VK → Prop := fun xs H Q => ∃ i j, xs = [.int i, .int j] ∧ Q (.int (if j < i then j else i)) H
theorem cI_min2 (hc : X.calm = true) : CallR X (.builtin "min") rMin2 := call_min2 hc
theorem rd_min2 {i j : Int} (q : Q (.int (if j < i then j else i)) H) : rMin2 [.int i, .int j] H Q := ⟨i, j, rfl, q⟩
def rList (K : PySem.W.Frag) : List V → Hp → VK → Prop := fun xs H Q => ∃ p ys, xs = [.ref p] ∧ (SqL K H p ys ∨ SqT K H p ys) ∧ ∀ l, H l = none → Q (.ref l) (upd H l (.lst ys))
theorem cI_list : CallR X (.type "list") (rList X.K) := call_list_of
theorem rd_listL {p : Addr} {ys : List V} (h : H p = some (.lst ys)) (q : ∀ l, H l = none → Q (.ref l) (upd H l (.lst ys))) : rList K [.ref p] H Q := ⟨p, ys, rfl, .inl (SqL.of h), q⟩
def rTuple (K : PySem.W.Frag) : List V → Hp → VK → Prop := fun xs H Q => ∃ p ys, xs = [.ref p] ∧ ((SqL K H p ys ∧ ∀ l, H l = none → Q (.ref l) (upd H l (.tup ys))) ∨ (SqT K H p ys ∧ Q (.ref p) H))
theorem cI_tuple : CallR X (.type "tuple") (rTuple X.K) := call_tuple_of
theorem rd_tupleL {p : Addr} {ys : List V} (h : H p = some (.lst ys)) (q : ∀ l, H l = none → Q (.ref l) (upd H l (.tup ys))) : rTuple K [.ref p] H Q := ⟨p, ys, rfl, .inl ⟨SqL.of h, q⟩⟩
def rFld (K : PySem.W.Frag) (f : Str) : V → Hp → VK → Prop := fun x H1 Q => ∃ a C dx fs v, x = .ref a ∧ H1 a = some (.ins C dx fs) ∧ Cls K C ∧ NoAttr K C f ∧ fs.lookup f = some v ∧ Q v H1
theorem rd_fld {ta : TE} {f : Str} (h : ta σ H fun x H1 => rFld K f x H1 Q) : tFld K ta f σ H Q := h
theorem rd_fldv {f : Str} {a C dx : Addr} {fs : List (Str × V)} {v : V} (h : H a = some (.ins C dx fs)) (c : Cls K C) (n : NoAttr K C f) (l : fs.lookup f = some v) (q : Q v H) : rFld K f (.ref a) H Q := ⟨a, C, dx, fs, v, rfl, h, c, n, l, q⟩
def rMeth (C : Addr) (m : Str) : V → Hp → Prop → Prop := fun x H1 q => ∃ a dx fs, x = .ref a ∧ H1 a = some (.ins C dx fs) ∧ fs.lookup m = none ∧ q
theorem rd_meth {C : Addr} {m : Str} {sp : Sp} {dvs : List V} {E : XK} {ta : TE} {t : TA} (h : ta σ H fun x H1 => rMeth C m x H1 (t σ H1 fun vs H2 => sp (x :: (vs ++ dvs)) H2 Q E)) : tMeth C m sp dvs E ta t σ H Q := h
theorem rd_methv {C a dx : Addr} {m : Str} {fs : List (Str × V)} {q : Prop} (h : H a = some (.ins C dx fs)) (l : fs.lookup m = none) (hq : q) : rMeth C m (.ref a) H q := ⟨a, dx, fs, rfl, h, l, hq⟩
theorem rd_make {C : Addr} {sp : Sp} {dvs : List V} {E : XK} {t : TA} (h : t σ H fun vs H1 => ∀ x dx, H1 x = none → H1 dx = none → dx ≠ x →
 sp (.ref x :: (vs ++ dvs)) (upd (upd H1 dx (.own x)) x (.ins C dx [])) (fun v H2 => v = .non ∧ Q (.ref x) H2) E) : tMake C sp dvs E t σ H Q := h
def rBM (K : PySem.W.Frag) (T : String) : V → Hp → Prop → Prop := fun x H1 q => tyV K T x H1 ∧ q
theorem rd_bm {T : String} {r : V → List V → Hp → VK → Prop} {to : TE} {t : TA} (h : to σ H fun x H1 => rBM K T x H1 (t σ H1 fun xs H2 => r x xs H2 Q)) : tBM K T r to t σ H Q := h
theorem rd_bm0 {T : String} {r : V → List V → Hp → VK → Prop} {to : TE} (h : to σ H fun x H1 => rBM K T x H1 (r x [] H1 Q)) : tBM0 K T r to σ H Q := h
theorem rd_bmL {l : Addr} {xs : List V} {q : Prop} (h : H l = some (.lst xs)) (hq : q) : rBM K "list" (.ref l) H q := ⟨.inl ⟨rfl, _, SqL.of h⟩, hq⟩
theorem rd_append {l : Addr} {xs : List V} {y : V} (h : H l = some (.lst xs)) (z : xs.length < sizeLine) (q : Q .non (upd H l (.lst (xs ++ [y])))) : rAppend (.ref l) [y] H Q := ⟨l, xs, y, rfl, rfl, h, z, q⟩
theorem rd_clear {l : Addr} {xs : List V} (h : H l = some (.lst xs)) (q : Q .non (upd H l (.lst []))) : rClear (.ref l) [] H Q := ⟨l, xs, rfl, rfl, h, q⟩
theorem rd_sl {r : V → Option Int → Option Int → Hp → VK → Prop} {te : TE} {tl th : TO} (h : te σ H fun x H1 => tl σ H1 fun l H2 => th σ H2 fun u H3 => r x l u H3 Q) : tSl r te tl th σ H Q := h
theorem rd_nopart {Q : Option Int → Hp → Prop} (h : Q none H) : tNoPart σ H Q := h
theorem rd_part {t : TE} {Q : Option Int → Hp → Prop} (h : t σ H fun x H1 => ∃ i, x = .int i ∧ Q (some i) H1) : tPart t σ H Q := h
theorem rd_slL {a : Addr} {xs : List V} {lo hi : Option Int} (h : H a = some (.lst xs)) (q : ∀ p, H p = none → Q (.ref p) (upd H p (.lst (cutV xs lo hi)))) : rSlL K (.ref a) lo hi H Q := ⟨a, xs, rfl, SqL.of h, q⟩
def ForW (J : It) (g : TG) (tb : TS) (D : Ends) (σ : St) (H1 : Hp) : Prop := ∃ W : Nat → Nat → St → Hp → Prop, (∃ m, W 0 m σ H1) ∧ ∀ i m σ H, W i m σ H →
 (J.stop i H ∧ D.nx σ H) ∨ (J.go i H ∧ ∃ N : St → Hp → Prop, (∀ σ' H', N σ' H' → ∃ m', m' < m ∧ W (i + 1) m' σ' H') ∧ ∀ x H', J.yld i H x H' → g x σ H' fun σ2 H2 => tb { D with nx := N, ct := N, bk := D.nx } σ2 H2)
theorem rd_for {wi : TI} {g : TG} {tb : TS} {D : Ends} (h : wi σ H fun J H1 => ForW J g tb D σ H1) : tFor wi g tb D σ H := h
theorem forW_list {a : Addr} {xs : List V} {g : TG} {tb : TS} {D : Ends} (Pv : Nat → St → Hp → Prop) (h0 : Pv 0 σ H) (hl : ∀ i σ H, i ≤ xs.length → Pv i σ H → SqL K H a xs)
  (hs : ∀ i x σ H, xs[i]? = some x → Pv i σ H → g x σ H fun σ2 H2 => tb { D with nx := Pv (i + 1), ct := Pv (i + 1), bk := D.nx } σ2 H2) (hd : ∀ σ H, Pv xs.length σ H → D.nx σ H) : ForW (Itl K a) g tb D σ H := for_list Pv h0 hl hs hd
theorem forW_range {lo : Int} {n : Nat} {g : TG} {tb : TS} {D : Ends} (Pv : Nat → St → Hp → Prop) (h0 : Pv 0 σ H)
  (hs : ∀ i σ H, i < n → Pv i σ H → g (.int (lo + i)) σ H fun σ2 H2 => tb { D with nx := Pv (i + 1), ct := Pv (i + 1), bk := D.nx } σ2 H2) (hd : ∀ σ H, Pv n σ H → D.nx σ H) : ForW (Itr lo n) g tb D σ H := for_range Pv h0 hs hd
theorem rd_rng1 {ta : TA} {R : It → Hp → Prop} (h : ta σ H fun vs H1 => ∃ j : Int, vs = [.int j] ∧ -(2 ^ 62) ≤ j ∧ j < 2 ^ 62 ∧ R (Itr 0 j.toNat) H1) : iRng1 ta σ H R := h
theorem rd_ilist {tl : TE} {R : It → Hp → Prop} (h : tl σ H fun x H1 => ∃ a, x = .ref a ∧ (∃ xs, SqL K H1 a xs) ∧ R (Itl K a) H1) : iList K tl σ H R := h
end
theorem atI_ints {zs : List Int} {i : Int} (h0 : 0 ≤ i) (h1 : i < zs.length) : atI (zs.map V.int) i = some (.int (zs.getD i.toNat 0)) := by
 obtain ⟨k, rfl⟩ : ∃ k : Nat, i = (k : Int) := ⟨i.toNat, by omega⟩
 refine atI_nat ?_
 have hk : k < zs.length := by omega
 simp [hk]
theorem Same.new {H : Hp} {p : Addr} {o : HO} (h : H p = none) : Same H (upd H p o) := fun b u e => by rw [upd_ne (ne_of_none e h)]; exact e
theorem Same.later {H0 H : Hp} {p : Addr} {o : HO} (s : Same H0 H) (h : H0 p = none) : Same H0 (upd H p o) := fun b u e => by rw [upd_ne (ne_of_none e h)]; exact s b u e
end L2
set_option Elab.async false
set_option maxRecDepth 100000
namespace L2
open PySem PySem.Spec PyProof.Rows
theorem iteTA {b : Bool} {A B : Prop} (h : if b = true then A else B) : if (true && b) = true then A else B := by rw [Bool.true_and]; exact h
theorem iteNN {b : Bool} {A B : Prop} (h : if b = true then B else A) : if (!b) = true then A else B := by cases b <;> exact h
section
variable {prog : Program} {w : World} {A : Around} {E : Value → Shared → Prop} {s : Shared}
end
def CompW (J : It) (g : TG) (tt : TT) (te : TE) (cap : List (Option Nat)) (l : Addr) (σ : St) (H1 : Hp) (Q : VK) : Prop :=
 ∃ (n : Nat) (Pv : Nat → List V → St → Hp → Prop), Pv 0 [] (capS cap σ) (upd H1 l (.lst [])) ∧
  (∀ i ys σ' H', i < n → Pv i ys σ' H' → J.go i H' ∧ ∀ x H2, J.yld i H' x H2 → g x σ' H2 fun σ3 H3 => tt σ3 H3 fun b H4 =>
   if b = true then te σ3 H4 fun y H5 => H5 l = some (.lst ys) ∧ ys.length < sizeLine ∧ Pv (i + 1) (ys ++ [y]) σ3 (upd H5 l (.lst (ys ++ [y]))) else Pv (i + 1) ys σ3 H4) ∧
  ∀ ys σ' H', Pv n ys σ' H' → J.stop n H' ∧ Q (.ref l) H'
section
variable {K : PySem.W.Frag} {σ : St} {H : Hp} {Q : VK} {te : TE} {cap : List (Option Nat)} {l : Addr}
theorem rd_comp {wi : TI} {g : TG} {tt : TT} (h : wi σ H fun J H1 => ∀ l, H1 l = none → CompW J g tt te cap l σ H1 Q) : tComp wi g tt te cap σ H Q := h
theorem take_succ_map {α β : Type} (F : α → β) (xs : List α) (i : Nat) {x : α} (h : xs[i]? = some x) : (xs.take (i + 1)).map F = (xs.take i).map F ++ [F x] := by
 rw [List.take_add_one, h, List.map_append]
 rfl
theorem compW_list {a : Addr} {xs : List V} (F : V → V) (hs : SqL K H a xs) (hz : xs.length ≤ 1000) (hl : H l = none)
  (step : ∀ x o H' (Q' : VK), x ∈ xs → Same H H' → (∀ H5, Same H' H5 → Q' (F x) H5) → te (((capS (none :: cap) σ).set 0 o).set 0 (some x)) H' Q')
  (fin : ∀ H', Same H H' → H' l = some (.lst (xs.map F)) → Q (.ref l) H') : CompW (Itl K a) (gName 0) tTrue te (none :: cap) l σ H Q := by
 refine ⟨xs.length, fun i ys σ' H' => ys = (xs.take i).map F ∧ (∃ o, σ' = (capS (none :: cap) σ).set 0 o) ∧ Same H H' ∧ H' l = some (.lst ys), ⟨rfl, ⟨none, rfl⟩, Same.new hl, upd_same⟩, ?_, ?_⟩
 ·rintro i ys σ' H' hi ⟨rfl, ⟨o, rfl⟩, s, e⟩
  refine ⟨⟨xs, xs[i], s.seq hs, by simp [hi]⟩, fun x H2 y => ?_⟩
  obtain ⟨e2, y⟩ := y
  subst e2
  have hx := y xs (s.seq hs)
  refine rd_name (rd_true (iteT ?_))
  refine step x o H2 _ (List.mem_of_getElem? hx) s fun H5 s5 => ⟨s5 _ _ e, ?_, ?_⟩
  ·rw [List.length_map, List.length_take]
   exact small1000 (by omega)
  ·exact ⟨(take_succ_map F xs i hx).symm, ⟨_, List.set_set ..⟩, (s.trans s5).later hl, upd_same⟩
 ·rintro ys σ' H' ⟨rfl, _, s, e⟩
  rw [List.take_of_length_le (Nat.le_refl _)] at e
  exact ⟨⟨xs, s.seq hs, Nat.le_refl _⟩, fin H' s e⟩
theorem compW_range {n : Nat} (F : Nat → V) (hz : n ≤ 1000) (hl : H l = none)
  (step : ∀ i o H' (Q' : VK), i < n → Same H H' → (∀ H5, Same H' H5 → Q' (F i) H5) → te (((capS (none :: cap) σ).set 0 o).set 0 (some (.int ((0 : Int) + (i : Nat))))) H' Q')
  (fin : ∀ H', Same H H' → H' l = some (.lst ((List.range n).map F)) → Q (.ref l) H') : CompW (Itr 0 n) (gName 0) tTrue te (none :: cap) l σ H Q := by
 refine ⟨n, fun i ys σ' H' => ys = (List.range i).map F ∧ (∃ o, σ' = (capS (none :: cap) σ).set 0 o) ∧ Same H H' ∧ H' l = some (.lst ys), ⟨rfl, ⟨none, rfl⟩, Same.new hl, upd_same⟩, ?_, ?_⟩
 ·rintro i ys σ' H' hi ⟨rfl, ⟨o, rfl⟩, s, e⟩
  refine ⟨hi, fun x H2 y => ?_⟩
  obtain ⟨e2, rfl⟩ := y
  subst e2
  refine rd_name (rd_true (iteT ?_))
  refine step i o H2 _ hi s fun H5 s5 => ⟨s5 _ _ e, ?_, ?_⟩
  ·rw [List.length_map, List.length_range]
   exact small1000 (by omega)
  ·refine ⟨?_, ⟨_, List.set_set ..⟩, (s.trans s5).later hl, upd_same⟩
   rw [List.range_succ, List.map_append]
   rfl
 ·rintro ys σ' H' ⟨rfl, _, s, e⟩
  exact ⟨Nat.le_refl _, fin H' s e⟩
def rSFld (K : PySem.W.Frag) (f : Str) (y x : V) (H2 : Hp) (k : Hp → Prop) : Prop := ∃ a C dx fs, x = .ref a ∧ H2 a = some (.ins C dx fs) ∧ Cls K C ∧ NoAttr K C f ∧ fs.length < 1000 ∧ k (upd H2 a (.ins C dx (putF f y fs)))
theorem rd_sfld {D : Ends} {ta tv : TE} {f : Str} (h : tv σ H fun y H1 => ta σ H1 fun x H2 => rSFld K f y x H2 fun H3 => D.nx σ H3) : sFld K ta tv f D σ H := h
theorem rd_sfldv {f : Str} {y : V} {k : Hp → Prop} {a C dx : Addr} {fs : List (Str × V)} (h : H a = some (.ins C dx fs)) (c : Cls K C) (n : NoAttr K C f) (z : fs.length < 1000) (q : k (upd H a (.ins C dx (putF f y fs)))) : rSFld K f y (.ref a) H k := ⟨a, C, dx, fs, rfl, h, c, n, z, q⟩
def WhileW (c : TT) (tb : TS) (D : Ends) (σ : St) (H : Hp) : Prop := ∃ W : Nat → St → Hp → Prop, (∃ m, W m σ H) ∧ ∀ m σ H, W m σ H →
 c σ H fun b H1 => if b = true then ∃ N : St → Hp → Prop, (∀ σ' H', N σ' H' → ∃ m', m' < m ∧ W m' σ' H') ∧ tb { D with nx := N, ct := N, bk := D.nx } σ H1 else D.nx σ H1
theorem rd_while {D : Ends} {c : TT} {tb : TS} (h : WhileW c tb D σ H) : tWhile c tb D σ H := h
theorem rd_aug {D : Ends} {i : Nat} {te : TE} {ti : TIp} {x : V} (e : σ[i]? = some (some x)) (h : te σ H fun y H1 => ti x y H1 fun z H2 => D.nx (σ.set i (some z)) H2) : tAug i te ti D σ H := ⟨x, e, h⟩
theorem rd_ipI {f : Int → Int → Int} {i j : Int} (h : Q (.int (f i j)) H) : ipI f (.int i) (.int j) H Q := ⟨i, j, rfl, rfl, h⟩
theorem rd_gtup {n : Nat} {tt : TGs} {a : Addr} {xs : List V} {QS : St → Hp → Prop} (h : H a = some (.tup xs)) (hl : xs.length = n) (q : tt xs σ H QS) : gTup K n tt (.ref a) σ H QS := ⟨a, xs, rfl, SqT.of h, hl, q⟩
theorem rd_gcons {tg : TG} {u : TGs} {v : V} {r : List V} {QS : St → Hp → Prop} (h : tg v σ H fun σ' H' => u r σ' H' QS) : gCons tg u (v :: r) σ H QS := ⟨v, r, rfl, h⟩
theorem rd_gnil {QS : St → Hp → Prop} (h : QS σ H) : gNil [] σ H QS := ⟨rfl, h⟩
end
section
variable {X : Cx} (K : PySem.W.Frag) (h : X.K = K)
include h
theorem ix_listK : IxR X (rIxL K) := h ▸ ix_list
theorem ix_tupK : IxR X (rIxT K) := h ▸ ix_tup
theorem ix_seqK : IxR X (rIx K) := h ▸ ix_seq
theorem cI_isinstK : CallR X (.builtin "isinstance") (rIsi K) := h ▸ cI_isinst
theorem cI_lenK : CallR X (.builtin "len") (rLen K) := h ▸ cI_len
theorem cI_allK (hc : X.calm = true) : CallR X (.builtin "all") (rAll K) := h ▸ cI_all hc
theorem cI_listK : CallR X (.type "list") (rList K) := h ▸ cI_list
theorem cI_tupleK : CallR X (.type "tuple") (rTuple K) := h ▸ cI_tuple
theorem sl_listK : SlR X (rSlL K) := h ▸ sl_list
theorem pe_fldK {e : Expr} {ta : TE} {f : Str} {pos : Pos} (he : PE X e ta) (hb : attributeBase e f X.env (eval e X.env) = eval e X.env) : PE X (.Attribute e f pos) (tFld K ta f) := h ▸ pe_fld he hb
end
theorem cutV_drop {zs : List Int} {k : Nat} : cutV (zs.map V.int) (some (k : Int)) none = (zs.drop k).map V.int := by
 unfold cutV
 rw [HT.sIx_none, HT.sIx_nat, List.length_map]
 rcases Nat.le_total k zs.length with h | h
 ·rw [Nat.min_eq_left h, ← List.map_drop, List.take_of_length_le (by rw [List.length_map, List.length_drop]; omega)]
 ·rw [Nat.min_eq_right h, List.drop_eq_nil_of_le h, Nat.sub_self, List.take_zero]; rfl
theorem getD_mem {α : Type} {zs : List α} {k : Nat} {d : α} (h : k < zs.length) : zs.getD k d ∈ zs := by
 rw [List.getD_eq_getElem?_getD, List.getElem?_eq_getElem h]
 exact List.getElem_mem h
end L2
set_option Elab.async false
set_option maxRecDepth 100000
namespace L2
open PySem PySem.Spec PyProof.Rows
theorem pg_tupK {X : Cx} (K : PySem.W.Frag) (hK : X.K = K) {es : List Expr} {k : Nat} {t : TGs} {n : Nat} {pos : Pos} (hc : X.calm = true) (h : PGs X es t)
  (hn : (assignEach es X.env).length = n := by rfl) (hst : (assignEach es X.env).findIdx? (·.1) = none := by rfl) : PG X (.Tuple es k pos) (gTup K n t) := hK ▸ pg_tup hc h hn hst
theorem repL_get {H : Hp} : ∀ {ds : List PyData} {xs : List V}, RepL H ds xs → ds.length = xs.length ∧ ∀ (i : Nat) x, xs[i]? = some x → ∃ d, ds[i]? = some d ∧ Rep H d x
 | [], xs, h => by simp only [RepL] at h; subst h; exact ⟨rfl, fun i x e => by simp at e⟩
 | d :: ds, xs, h => by
  simp only [RepL] at h
  obtain ⟨x, r, rfl, h1, h2⟩ := h
  obtain ⟨l, g⟩ := repL_get h2
  refine ⟨by simp [l], fun i y e => ?_⟩
  cases i with
  | zero => simp at e; subst e; exact ⟨d, rfl, h1⟩
  | succ i => exact g i y (by simpa using e)
end L2
set_option Elab.async false
set_option maxRecDepth 100000
namespace L2
open PySem PySem.Spec PyProof.Rows
structure Exc (g h : Heap) (H : Hp) (e C : Addr) : Prop where
 tr : h.Traced g e (.ref C)
 ne : g.get? e = none
 he : H e = none
 hT : ∀ oe vs T, h.get? e = some oe → oe.data = .fields vs → vs[1]? = some (.ref T) → H T = none
def CX1 (P : Program) (w : World) : CXT := fun outer H s E x s' => ∃ (e C : Addr) (H' : Hp), x = .ref e ∧ s'.os = s.os ∧ AllBare s'.gens ∧ Un (frs outer) [] H H' s.heap s'.heap ∧ HOk P w H' s'.heap ∧ Exc s.heap s'.heap H' e C ∧ E (.ref C) none H'
section
variable {X : Cx} {pins : List (Addr × Obj)} {σ : St} {H : Hp} {s : Shared}
theorem Inv.left {h' : Heap} {es : List Addr} (I : Inv X pins σ H s) (hs : X.stack = X.env :: X.outer) (he : ∀ b ∈ es, H b = none ∧ X.s₀.heap.get? b = none)
  (keep : ∀ b o, s.heap.get? b = some o → b ∉ frs X.stack → b ∉ es → h'.get? b = some o) (slot : ∀ b o, s.heap.get? b = some o → b ∈ frs X.stack → ∃ sl, h'.get? b = some { o with slots := sl }) : Un X.fs X.ex X.H₀ H X.s₀.heap h' ∧ HOk X.prog X.w H h' := by
 have sub : ∀ b ∈ X.fs, b ∈ frs X.stack := fun b hb => by
  rw [hs]; unfold frs; rw [List.filterMap_cons]
  cases X.env.frame with
  | none => exact hb
  | some f => exact List.mem_cons_of_mem _ hb
 have nfr : ∀ b u, H b = some u → b ∉ frs X.stack := fun b u e z => by rw [I.stkFree b z] at e; cases e
 have nes : ∀ b u, H b = some u → b ∉ es := fun b u e z => by rw [(he b z).1] at e; cases e
 have neL : ∀ b o, X.s₀.heap.get? b = some o → b ∉ X.fs → b ∉ frs X.stack := fun b o e hb z => by
  rcases List.mem_cons.mp (I.stkSub b z) with q | q
  ·exact absurd (Nat.lt_of_lt_of_le (Heap.lt_size e) (q ▸ I.ok.above)) (Nat.lt_irrefl _)
  ·exact hb q
 have ne0 : ∀ b o, X.s₀.heap.get? b = some o → b ∉ es := fun b o e z => by rw [(he b z).2] at e; cases e
 refine ⟨⟨fun b o e n hb hx => keep b o (I.base.keep b o e n hb hx) (neL b o e hb) (ne0 b o e), fun b o e n hb hx => ?_, I.base.free, fun b o e hx => ?_, I.base.tups, I.base.frzs, I.base.tbls⟩, fun b u e => ?_⟩
 ·obtain ⟨sl, e1⟩ := I.base.slot b o e n hb hx
  obtain ⟨sl', e2⟩ := slot b _ e1 (sub b hb)
  exact ⟨sl', e2⟩
 ·obtain ⟨o', e1⟩ := I.base.there b o e hx
  by_cases hf : b ∈ frs X.stack
  ·obtain ⟨sl, e2⟩ := slot b o' e1 hf
   exact ⟨_, e2⟩
  ·exact ⟨o', keep b o' e1 hf (ne0 b o e)⟩
 ·refine (I.hok b u e).stay (fun c v hc q => ?_) (fun _ q => q) fun _ _ q => q
  rcases hc with z | z
  ·rw [z] at q ⊢; exact keep b v q (nfr b u e) (nes b u e)
  ·exact keep c v q (nfr c _ z) (nes c _ z)
end
theorem ObjOk.get {P : Program} {w : World} {H : Hp} {h : Heap} {a : Addr} {o : HO} (x : ObjOk P w H h a o) : ∃ ob, h.get? a = some ob := by
 cases o with
 | lst xs => obtain ⟨_, _, _, _, e⟩ := x; exact ⟨_, e⟩
 | tup xs => obtain ⟨_, _, _, p⟩ := x; obtain ⟨o, e, _⟩ := p; exact ⟨_, e⟩
 | dK kvs => obtain ⟨_, _, _, _, o, _, _, e, _⟩ := x; exact ⟨_, e⟩
 | dT kvs => obtain ⟨_, _, _, _, o, _, _, e, _⟩ := x; exact ⟨_, e⟩
 | set S n => obtain ⟨o, _, _, _, e, _⟩ := x; exact ⟨_, e⟩
 | ins C dx fs => obtain ⟨_, _, _, e, _⟩ := x; exact ⟨_, e⟩
 | own y => obtain ⟨_, e⟩ := x; exact ⟨_, e⟩
 | xd fs => obtain ⟨_, ⟨_, _, _, e, _⟩, _⟩ := x; exact ⟨_, e⟩
 | rng lo hi => obtain ⟨_, _, _, e⟩ := x; exact ⟨_, e⟩
 | frz ob u => obtain ⟨e, _⟩ := x; exact ⟨_, e⟩
 | tbl ps => exact ⟨_, (show h.get? a = some _ from x)⟩
 | met f y => exact ⟨_, (show h.get? a = some _ from x)⟩
 | ext φ => obtain ⟨_, ⟨_, e⟩, _⟩ := x; exact ⟨_, e⟩
theorem HOk.none_of {P : Program} {w : World} {H : Hp} {h : Heap} {a : Addr} (k : HOk P w H h) (e : h.get? a = none) : H a = none := by
 cases q : H a with
 | none => rfl
 | some o => obtain ⟨_, z⟩ := (k a o q).get; rw [e] at z; cases z
section
variable {P : Program} {w : World} {K : PySem.W.Frag} {mg : Str → Option Value} {base : Heap} {N : List Str} {qual : Str} {scope : Scope} {f : Addr} {cd : Value} {A : Around} {outer : List Env} {s₀ : Shared} {H₀ : Hp} {E : XK} {pins : List (Addr × Obj)} {σ : St} {H : Hp} {s : Shared}
theorem stack_in {l : List Env} {as : List Addr} (h : ∀ b ∈ frs l, b ∈ as) : ∀ env ∈ l, ∀ a, env.frame = some a → a ∈ as := fun env he a ha => h a (List.mem_filterMap.mpr ⟨env, he, ha⟩)
theorem xe_new {h' : Heap} {t' : Nat} {e C : Addr} {vs : List Value} (I : Inv (cxOf (CX1 P w) P w K mg base N qual scope f cd A outer s₀ H₀ E) pins σ H s) (hx : Heap.MadeExcOf s.heap h' e (.ref C) vs) (q : E (.ref C) none H) :
  (cxOf (CX1 P w) P w K mg base N qual scope f cd A outer s₀ H₀ E).xe (.ref e) { s with heap := h', toks := t' } := by
 have I1 := I.kept (t' := t') hx.keeps
 obtain ⟨t, he, ht, _⟩ := hx.there
 have hs0 : s₀.heap.get? e = none := by
  cases z : s₀.heap.get? e with
  | none => rfl
  | some o => obtain ⟨o', z'⟩ := I.base.there e o z (by intro q; cases q); rw [hx.new] at z'; cases z'
 have hHe : H e = none := I.hok.none_of hx.new
 have ff := I1.stack
 have hl := PySem.W.funFrames_hide (as := e :: frs (cxOf (CX1 P w) P w K mg base N qual scope f cd A outer s₀ H₀ E).stack) ff (stack_in fun b hb => List.mem_cons_of_mem _ hb)
 refine wpAny_leaving_first (base := PySem.W.hideAll h' (e :: frs (cxOf (CX1 P w) P w K mg base N qual scope f cd A outer s₀ H₀ E).stack)) (L := s₀.heap.objs.size) (e := e) (s := { s with heap := h', toks := t' }) I.ok.frames hl rfl he (fun b o z => ?_) (PySem.W.hideAll_none _ List.mem_cons_self) rfl rfl fun h2 lf => ?_
 ·exact PySem.W.of_hideAll _ z
 ·obtain ⟨st, ff2, tr, up⟩ := lf
  have lf := I1.left (h' := h2) (es := [e]) rfl (fun b hb => by rw [List.mem_singleton.mp hb]; exact ⟨hHe, hs0⟩) (fun b o z nf ne => st b o (PySem.W.hideAll_get _ z (by intro m; rcases List.mem_cons.mp m with r | r; exact ne (by simp [r]); exact nf r)))
   (fun b o z hb => by
    obtain ⟨_, o', z', hd⟩ := ff.mem hb
    rw [z] at z'; cases z'
    exact up b o z hd)
  obtain ⟨oe, ws, T, oT, ts, g1, g2, g3, g4, g5, g6, g7, g8, g9⟩ := tr
  have nT : T ∉ frs (cxOf (CX1 P w) P w K mg base N qual scope f cd A outer s₀ H₀ E).stack := fun z => by
   obtain ⟨_, o, zo, hd⟩ := ff2.mem z
   rw [g7] at zo; cases zo
   exact hd ts g8
  have key : ∀ o, h'.get? T = some o → False := fun o z => by
   rw [PySem.W.hideAll_get _ z (by intro m; rcases List.mem_cons.mp m with r | r; exact g6 r; exact nT r)] at g5
   cases g5
  have hT0 : s₀.heap.get? T = none := by
   cases z : s₀.heap.get? T with
   | none => rfl
   | some o => obtain ⟨o', z'⟩ := I1.base.there T o z (by intro q; cases q); exact (key o' z').elim
  have hHT : H T = none := by
   cases z : H T with
   | none => rfl
   | some o => obtain ⟨o', z'⟩ := (I1.hok T o z).get; exact (key o' z').elim
  refine ⟨e, C, H, rfl, I.os, I.bare, lf.1, lf.2, ⟨⟨oe, ws, T, oT, ts, g1, g2, g3, g4, hT0, g6, g7, g8, g9⟩, hs0, hHe, fun oe' vs' T' z1 z2 z3 => ?_⟩, q⟩
  rw [g1] at z1; cases z1
  rw [g3] at z2; cases z2
  rw [g4] at z3; cases z3
  exact hHT
theorem pass1 : Passes (CX1 P w) (cxOf (CX1 P w) P w K mg base N qual scope f cd A outer s₀ H₀ E) E := by
  intro pins σ H s x s' I h
  obtain ⟨e, C, H', rfl, os, bare, un, hok, ex, q⟩ := h
  have J := I.call' (s' := s') (ch := []) os un hok bare (fun b hb => by cases hb)
  obtain ⟨⟨oe, ws, T, oT, ts, g1, g2, g3, g4, g5, g6, g7, g8, g9⟩, ne, hHe, hHT⟩ := ex
  have hHT := hHT oe ws T g1 g3 g4
  have s0 : ∀ {b : Addr}, s.heap.get? b = none → s₀.heap.get? b = none := fun {b} hb => by
    cases z : s₀.heap.get? b with
    | none => rfl
    | some o => obtain ⟨o', z'⟩ := I.base.there b o z (by intro q; cases q); rw [hb] at z'; cases z'
  have ff := J.stack
  have hl := PySem.W.funFrames_hide (as := e :: T :: frs (cxOf (CX1 P w) P w K mg base N qual scope f cd A outer s₀ H₀ E).stack) ff (stack_in fun b hb => List.mem_cons_of_mem _ (List.mem_cons_of_mem _ hb))
  refine wpAny_leaving_next (base := PySem.W.hideAll s'.heap (e :: T :: frs (cxOf (CX1 P w) P w K mg base N qual scope f cd A outer s₀ H₀ E).stack)) (L := s₀.heap.objs.size) (e := e) (s := s') J.ok.frames hl rfl
    ⟨oe, ws, T, oT, ts, g1, g2, g3, g4, PySem.W.hideAll_none _ (List.mem_cons_of_mem _ List.mem_cons_self), g6, g7, g8, g9⟩ (fun b o z => PySem.W.of_hideAll _ z) (PySem.W.hideAll_none _ List.mem_cons_self) fun h2 lf => ?_
  obtain ⟨st, ff2, tr, up⟩ := lf
  have lf := J.left (h' := h2) (es := [e, T]) rfl (fun b hb => by
      simp only [List.mem_cons, List.not_mem_nil, or_false] at hb
      rcases hb with rfl | rfl
      · exact ⟨hHe, s0 ne⟩
      · exact ⟨hHT, s0 g5⟩) (fun b o z nf ne => st b o (PySem.W.hideAll_get _ z (by
        intro m
        rcases List.mem_cons.mp m with r | m
        · exact ne (by simp [r])
        · rcases List.mem_cons.mp m with r | r
          · exact ne (by simp [r])
          · exact nf r)))
      (fun b o z hb => by
        obtain ⟨_, o', z', hd⟩ := ff.mem hb
        rw [z] at z'; cases z'
        exact up b o z hd)
  obtain ⟨oe2, ws2, T2, oT2, ts2, k1, k2, k3, k4, k5, k6, k7, k8, k9⟩ := tr
  have nT : T2 ∉ frs (cxOf (CX1 P w) P w K mg base N qual scope f cd A outer s₀ H₀ E).stack := fun z => by
    obtain ⟨_, o, zo, hd⟩ := ff2.mem z
    rw [k7] at zo; cases zo
    exact hd ts2 k8
  have hT0 : s₀.heap.get? T2 = none ∧ H' T2 = none := by
    by_cases r : T2 = T
    · subst r; exact ⟨s0 g5, hHT⟩
    · have key : ∀ o, s'.heap.get? T2 = some o → False := fun o z => by
        rw [PySem.W.hideAll_get _ z (by
          intro m
          rcases List.mem_cons.mp m with q | m
          · exact k6 q
          · rcases List.mem_cons.mp m with q | q
            · exact r q
            · exact nT q)] at k5
        cases k5
      constructor
      · cases z : s₀.heap.get? T2 with
        | none => rfl
        | some o => obtain ⟨o', z'⟩ := J.base.there T2 o z (by intro q; cases q); exact (key o' z').elim
      · cases z : H' T2 with
        | none => rfl
        | some o => obtain ⟨o', z'⟩ := (J.hok T2 o z).get; exact (key o' z').elim
  refine ⟨e, C, H', rfl, J.os, J.bare, lf.1, lf.2, ⟨⟨oe2, ws2, T2, oT2, ts2, k1, k2, k3, k4, hT0.1, k6, k7, k8, k9⟩, s0 ne, hHe, fun oe' vs' T' z1 z2 z3 => ?_⟩, q⟩
  rw [k1] at z1; cases z1
  rw [k3] at z2; cases z2
  rw [k4] at z3; cases z3
  exact hT0.2
end
end L2
set_option Elab.async false
set_option maxRecDepth 100000
namespace L2
open PySem PySem.Spec PyProof.Rows
def tRaise (C : Addr) (E : XK) (t : TA) : TS := fun _ σ H => t σ H fun vs H1 => vs.length ≤ sizeLine ∧ E (.ref C) none H1
theorem ps_raise {X : Cx} {E : XK} {x : Str} {C : Addr} {B newId initId : String} {bm : List Value} {np cpos pos : Pos} {e : Expr} {es : List Expr} {t : TA} (O : OwnCls x C bm newId X.mg X.base) (FB : ExcBaseFacts B newId initId bm) (hc : X.calm = true) (hg : Gl X x)
  (hx : ∀ (pins : List (Addr × Obj)) (σ : St) (H : Hp) (s : Shared) (h' : Heap) (t' : Nat) (e : Addr) (vs : List Value), Inv X pins σ H s → Heap.MadeExcOf s.heap h' e (.ref C) vs → E (.ref C) none H → X.xe (.ref e) { s with heap := h', toks := t' })
  (ha : PA X (e :: es) t) (hd : (x == ("__debug__" : Str)) = false := by decide) (he : starEach (e :: es) X.env = (false, eval e X.env) :: starEach es X.env := by rfl) (hpl : (backTo cpos (starEach es X.env)).any (·.1) = false := by rfl) :
  PS X (.Raise (some (.Call (.Name x np) (e :: es) [] cpos)) none pos) (tRaise C E t) := by
 intro pins s σ H D I h
 obtain ⟨tl, N, nm, q, bs, hdct, sn, sub, ab, col, dd, k0, k1, k2, k3, k5, mN, hC, hN, hni, T⟩ := O.obj
 refine wpAny_Raise_call_subT (C := C) (nm := nm) (q := q) (N := N) (bs := bs) (bm := tl) (hdct := hdct) (sn := sn) (sub := sub) (ab := ab) (col := col) (dd := dd) (k0 := k0) (k1 := k1) (k2 := k2) (k3 := k3) (k5 := k5)
  FB (mN := mN) (T.hasType FB.hasBase) (I.ok.hd hc) (by rw [he]; show (false || (backTo cpos (starEach es X.env)).any (·.1)) = false; rw [hpl]; rfl) hni (ld_glob I hg O.bound ⟨rfl, ?_⟩ hd)
 have h1 := ha cpos pins s σ H _ I h
 rw [he] at h1 ⊢
 refine Calls.evalArgs_plain (wpAny_mono h1 (fun us s2 ⟨vs, H2, I2, r2, hl, hE⟩ => ⟨rfl, by show us.length ≤ sizeLine; rw [← r2.length]; exact hl, I2.bk _ _ hC, hN.keeps I2.bk, T.keeps I2.bk, fun h' a mk => ?_⟩) fun _ _ y => y)
 exact hx pins σ H2 s2 h' s2.toks a us I2 mk hE
section
variable {P : Program} {w : World} {K : PySem.W.Frag} {mg : Str → Option Value} {base : Heap}
theorem Fun.ok1 {x qual : Str} {st : Stmt} {f : Addr} {fd : FuncData} {N ps : List Str} {k : Nat} {sp : Sp} (F : Fun K x qual st f fd) (S : FnScope N ps (defScope st)) (len : ∀ vs H Q E, sp vs H Q E → vs.length = ps.length)
  (hbody : ∀ (cdv : Value) (A : Around) (outer : List Env) (s : Shared) (H : Hp) (vs : List V) (Q : VK) (E : XK), Room k (A.deeper (envOfC qual (defScope st) s.heap.objs.size f cdv)) → sp vs H Q E →
   ∃ t, PSs (cxOf (CX1 P w) P w K mg base N qual (defScope st) f cdv A outer s H E) (defBody st) t ∧ t { nx := fun _ H' => Q .non H', rt := Q } (start N vs) H) : FnOk P w K mg base (CX1 P w) (k + 1) f fd ps sp := by
 obtain ⟨oc, od, kV, doc, pm, an, cdv, ct, osl, rfl, lk, hcd⟩ := F.ex
 exact fn_of lk hcd S len fun A outer s H vs Q E hr hsp => hbody cdv A outer s H vs Q E hr hsp
theorem FnOk.up {k : Nat} {f : Addr} {fd : FuncData} {ps : List Str} {sp : Sp} (F : FnOk P w K mg base CX0 k f fd ps sp) : FnOk P w K mg base (CX1 P w) k f fd ps sp :=
 ⟨F.len, fun A outer s H args us vs Q E hr e0 hb hv hs => codeAny_mono (F.run A outer s H args us vs Q E hr e0 hb hv hs) fun r s' h => by
  cases r with
  | error e => exact False.elim h
  | ok fl => cases fl <;> exact h⟩
end
end L2
set_option Elab.async false
set_option maxRecDepth 100000
namespace L2
open PySem PySem.Spec PyProof.Rows PySem.W Builtin Builtin.ObjectAttr Builtin.Getset_descriptor
section
variable {prog : Program} {w : World} {A : Around} {E : Value → Shared → Prop} {s : Shared} {K : PySem.W.Frag} {x C : Addr} {R : Result → Shared → Prop}
end
end L2
set_option Elab.async false
set_option maxRecDepth 100000
namespace L2
open PySem PySem.Spec PyProof.Rows
section
variable {X : Cx} {pins : List (Addr × Obj)} {σ : St} {H : Hp} {s : Shared}
end
end L2
set_option Elab.async false
set_option maxRecDepth 100000
namespace L2
open PySem PySem.Spec PyProof.Rows
section
variable {X : Cx} {pins pins' : List (Addr × Obj)} {σ : St} {H : Hp} {s : Shared} {E : Value → Shared → Prop}
end
section
variable {X : Cx} {CX : CXT} {k : Nat} {f C : Addr} {fd : FuncData} {ps : List Str} {sp : Sp} {dvs : List V} {ds : List Value} {ET : St → XK} {x m : Str} {p pos apos : Pos} {e o : Expr} {es : List Expr} {ta : TE} {t : TA}
end
section
variable {σ : St} {H : Hp} {Q : VK}
end
abbrev Cx.suite (X : Cx) (e : Addr) : Cx := { X with A := X.A.mark (some (.ref e)), calm := false, xe := fun _ _ => False }
section
variable {X : Cx} {pins : List (Addr × Obj)} {σ : St} {H : Hp} {s : Shared} {e : Addr}
end
end L2
set_option Elab.async false
set_option maxRecDepth 100000
namespace L2
open PySem PySem.Spec PyProof.Rows
end L2
set_option Elab.async false
set_option maxRecDepth 100000
namespace L2
open PySem PySem.Spec PyProof.Rows
abbrev Cx.quiet (X : Cx) : Cx := { X with calm := false }
section
variable {P : Program} {w : World} {K : PySem.W.Frag} {mg : Str → Option Value} {base : Heap}
end
section
variable {X : Cx} {k : Nat} {f C : Addr} {fd : FuncData} {ps : List Str} {sp : Sp} {dvs : List V} {ds : List Value} {x m : Str} {p pos apos : Pos} {e o : Expr} {es : List Expr} {ta : TE} {t : TA}
end
end L2
set_option Elab.async false
set_option maxRecDepth 100000
namespace L2
open PySem PySem.Spec PyProof.Rows
theorem own_of {K : PySem.W.Frag} {h : Heap} {mg : Str → Option Value} {x : Str} {C : Addr} {bmB : List Value} {newId : String} (X : K.In h) (hm : mg x = some (.ref C)) (q : PySem.W.excIn K C bmB newId = true) : OwnCls x C bmB newId mg h := by
 refine ⟨hm, ?_⟩
 simp only [PySem.W.excIn] at q
 split at q
 case h_2 => cases q
 case h_1 dd cd sl ho =>
  split at q
  case h_2 => cases q
  case h_1 C' bm k0 k1 k2 k3 n k5 hmr hsl =>
   simp only [Bool.and_eq_true, beq_iff_eq, Bool.not_eq_true'] at q
   obtain ⟨⟨⟨⟨⟨e1, e2⟩, hdel⟩, ht⟩, hok⟩, hni⟩ := q
   subst e1 e2
   have hh := X _ _ ho
   obtain ⟨nm, bs, mro, ns, qn, hd, sn, sub, ab, col, del⟩ := cd
   simp only at hmr hdel hok hni
   subst hmr hdel
   obtain ⟨l⟩ := sl
   simp only at hsl
   subst hsl
   exact ⟨bm, ns, nm, qn, bs, hd, sn, sub, ab, col, dd, k0, k1, k2, k3, k5, _, hh, .of_isNs (PySem.W.isNs_of_in X hok), PySem.W.nsMap_none_of_in X hok hni, PySem.W.tail_of_in X ht⟩
theorem ps_raiseK {X : Cx} {E : XK} {x : Str} {C : Addr} {B newId initId : String} {bm : List Value} {np cpos pos : Pos} {e : Expr} {es : List Expr} {t : TA} (hm : X.mg x = some (.ref C)) (q : PySem.W.excIn X.K C bm newId = true) (FB : ExcBaseFacts B newId initId bm) (hc : X.calm = true) (hg : Gl X x)
  (hx : ∀ (pins : List (Addr × Obj)) (σ : St) (H : Hp) (s : Shared) (h' : Heap) (t' : Nat) (e : Addr) (vs : List Value), Inv X pins σ H s → Heap.MadeExcOf s.heap h' e (.ref C) vs → E (.ref C) none H → X.xe (.ref e) { s with heap := h', toks := t' })
  (ha : PA X (e :: es) t) (hd : (x == ("__debug__" : Str)) = false := by decide) (he : starEach (e :: es) X.env = (false, eval e X.env) :: starEach es X.env := by rfl) (hpl : (backTo cpos (starEach es X.env)).any (·.1) = false := by rfl) :
  PS X (.Raise (some (.Call (.Name x np) (e :: es) [] cpos)) none pos) (tRaise C E t) := fun pins s σ H D I h =>
 ps_raise (own_of I.ok.mod.kin hm q) FB hc hg hx ha hd he hpl pins s σ H D I h
theorem rd_raise {C : Addr} {E : XK} {t : TA} {D : Ends} {σ : St} {H : Hp} (h : t σ H fun vs H1 => vs.length ≤ sizeLine ∧ E (.ref C) none H1) : tRaise C E t D σ H := h
section
variable {P : Program} {w : World} {K : PySem.W.Frag} {mg : Str → Option Value} {base : Heap}
theorem FnOk.down {k : Nat} {f : Addr} {fd : FuncData} {ps : List Str} {sp sp' : Sp} (F : FnOk P w K mg base (CX1 P w) k f fd ps sp) (h : ∀ vs H Q E, sp' vs H Q E → sp vs H Q (fun _ _ _ => False)) : FnOk P w K mg base CX0 k f fd ps sp' :=
 ⟨fun vs H Q E q => F.len vs H Q _ (h _ _ _ _ q), fun A outer s H args us vs Q E hr e0 hb hv hs => codeAny_mono (F.run A outer s H args us vs Q _ hr e0 hb hv (h _ _ _ _ hs)) fun r s' hq => by
  cases r with
  | error e => obtain ⟨_, _, _, _, _, _, _, _, _, z⟩ := hq; exact z.elim
  | ok fl => cases fl <;> exact hq⟩
end
end L2
set_option Elab.async false
set_option maxRecDepth 100000
namespace L2
open PySem PySem.Spec PyProof.Rows
def SameBut (l : Addr) (H H' : Hp) : Prop := ∀ b o, H b = some o → b ≠ l → H' b = some o
section
variable {K : PySem.W.Frag} {σ : St} {H : Hp} {Q : VK} {te : TE} {cap : List (Option Nat)} {l : Addr}
end
def tJoin (t : TS) : TS := fun D σ H => ∃ J : St → Hp → Prop, t { D with nx := J } σ H ∧ ∀ σ' H', J σ' H' → D.nx σ' H'
theorem ps_join {X : Cx} {st : Stmt} {t : TS} (h : PS X st t) : PS X st (tJoin t) := by
 intro pins s σ H D I ⟨J, h1, h2⟩
 refine wpAny_mono (h pins s σ H _ I h1) (fun f s' q => ?_) fun _ _ z => z
 cases f with
 | next => obtain ⟨σ', H', J', q⟩ := q; exact ⟨σ', H', J', h2 σ' H' q⟩
 | brk => exact q
 | cont => exact q
 | ret u => exact q
theorem rd_join {t : TS} {D : Ends} {σ : St} {H : Hp} (J : St → Hp → Prop) (h1 : t { D with nx := J } σ H) (h2 : ∀ σ' H', J σ' H' → D.nx σ' H') : tJoin t D σ H := ⟨J, h1, h2⟩
end L2
set_option Elab.async false
set_option maxRecDepth 100000
namespace L2
open PySem PySem.Spec PyProof.Rows
section
variable {prog : Program} {w : World} {A : Around} {E : Value → Shared → Prop} {s : Shared}
theorem tupNext {I u : Addr} {k : Nat} {its : Array Value} {x : Value} {Q : Value → Shared → Prop} (hI : s.heap.IsTupleIter I u k) (hu : s.heap.IsTuple u its) (hx : its[k]? = some x)
  (hQ : ∀ g, g.IsTupleIter I u (k + 1) → Heap.SameBut I s.heap g → Q x { s with heap := g }) : wpAny (model prog w) A (Builtin.SmallTypes.nextOf (.ref I)) Q E s := by
 obtain ⟨oI, eI, cI, dI⟩ := id hI
 obtain ⟨ou, eu, _, nu, du⟩ := hu
 unfold Builtin.SmallTypes.nextOf
 refine wpAny_bind (wpAny_callSpecial?_slot (name := Str.ofString "__next__") hI.typeIs F.slot_tuple_iterator_next (wpAny_call_entry F.slot_tuple_iterator_next hI.typeIs F.entry_tuple_iterator_next ?_ (F.args_tuple_iterator_next_1 _)))
 show wpAny _ _ (field (.ref I) 0 >>= _) _ _ s
 refine wpAny_bind (wpAny_field eI dI (x := .ref u) rfl ?_)
 show wpAny _ _ (if (Value.ref u == Value.none) = true then _ else _) _ _ s
 rw [if_neg (show ¬ ((Value.ref u == Value.none) = true) from Bool.false_ne_true)]
 show wpAny _ _ (field (.ref I) 1 >>= _) _ _ s
 refine wpAny_bind (wpAny_field eI dI (x := .int k 0) rfl ?_)
 show wpAny _ _ (seqItems? (.ref u) >>= _) _ _ s
 refine wpAny_bind (wpAny_seqItems eu du ?_)
 rw [Int.toNat_natCast]; simp only [hx]
 refine wpAny_bind (wpAny_setField eI dI (by simp) (wpAny_pure ⟨x, rfl, wpAny_pure (hQ _ ?_ (Heap.SameBut.update ..))⟩))
 exact ⟨_, Heap.get?_update_self _ eI (Obj.isFreed_of_fields (Obj.data_mapFields dI _)), (Obj.cls_mapFields ..).trans cI, by rw [Obj.data_mapFields dI]; simp [rawInt]⟩
theorem tupStop {I u : Addr} {k : Nat} {its : Array Value} {Q : Value → Shared → Prop} (hd0 : A.handled = none) (hI : s.heap.IsTupleIter I u k) (hu : s.heap.IsTuple u its) (hx : its[k]? = none)
  (hE : ∀ g e, Heap.ExtBut I s.heap g → (∃ o, g.get? e = some o ∧ o.cls = .type "StopIteration") → E (.ref e) { s with heap := g }) : wpAny (model prog w) A (Builtin.SmallTypes.nextOf (.ref I)) Q E s := by
 obtain ⟨oI, eI, cI, dI⟩ := id hI
 obtain ⟨ou, eu, _, nu, du⟩ := hu
 unfold Builtin.SmallTypes.nextOf
 refine wpAny_bind (wpAny_callSpecial?_slot (name := Str.ofString "__next__") hI.typeIs F.slot_tuple_iterator_next (wpAny_call_entry F.slot_tuple_iterator_next hI.typeIs F.entry_tuple_iterator_next ?_ (F.args_tuple_iterator_next_1 _)))
 show wpAny _ _ (field (.ref I) 0 >>= _) _ _ s
 refine wpAny_bind (wpAny_field eI dI (x := .ref u) rfl ?_)
 show wpAny _ _ (if (Value.ref u == Value.none) = true then _ else _) _ _ s
 rw [if_neg (show ¬ ((Value.ref u == Value.none) = true) from Bool.false_ne_true)]
 show wpAny _ _ (field (.ref I) 1 >>= _) _ _ s
 refine wpAny_bind (wpAny_field eI dI (x := .int k 0) rfl ?_)
 show wpAny _ _ (seqItems? (.ref u) >>= _) _ _ s
 refine wpAny_bind (wpAny_seqItems eu du ?_)
 rw [Int.toNat_natCast]; simp only [hx]
 refine wpAny_bind (wpAny_rule (wpAny_bind (wpAny_setField eI dI (by simp) ?_)))
 show wpAny _ _ (newExc (.type "StopIteration") [] >>= _) _ _ _; refine wpAny_bind ?_
 simp only [newExc, newTuple]; refine wpAny_bind (wpAny_newObj_type ?_ (by size_fits))
 refine wpAny_bind (m := firstArgMember _ _) (wpAny_of_eq (a := Value.none) (by first | rfl | (simp only [firstArgMember]; rfl)) ?_); refine wpAny_newObj_type ?_ (by size_fits)
 simp only [raiseNew]; refine wpAny_bind (wpAny_handled ?_); rw [show A.in1.handled = none from hd0]
 refine wpAny_bind (wpAny_pure (wpAny_throw ?_)); exact hE _ _ (((Heap.SameBut.update ..).extBut.push _).push _) ⟨_, Heap.get?_push_size _ rfl, rfl⟩
theorem zipT_item {Z TI TO i j u v : Addr} {k l : Nat} {xs ys : Array Value} {x y a b : Value} {Q : Option Value → Shared → Prop} (D : ZipApart Z TI TO i j u v)
  (eZ : IsZip s.heap Z TI TO .none) (eI : IsPair s.heap TI (.ref i) (.ref j)) (eO : IsPair s.heap TO a b) (ei : s.heap.IsTupleIter i u k) (ej : s.heap.IsTupleIter j v l) (eu : s.heap.IsTuple u xs) (ev : s.heap.IsTuple v ys) (hx : xs[k]? = some x) (hy : ys[l]? = some y)
  (hQ : ∀ g, IsZip g Z TI TO (rawInt s.heap.objs.size) → IsPair g TO x y → g.IsTupleIter i u (k + 1) → g.IsTupleIter j v (l + 1) → IsPair g s.heap.objs.size x y → g.objs.size = s.heap.objs.size + 1 →
   (∀ c o, c ≠ Z → c ≠ TO → c ≠ i → c ≠ j → s.heap.get? c = some o → g.get? c = some o) → Q (some (.ref s.heap.objs.size)) { s with heap := g }) : wpAny (model prog w) A (pyNext (.ref Z)) Q E s := by
 have hT : s.TypeIs (.ref Z) "zip" := ⟨_, eZ, rfl⟩
 unfold pyNext
 refine wpAny_bind (wpAny_attempt (wpAny_callSpecial?_slot (name := Str.ofString "__next__") hT F.slot_zip_next (wpAny_call_entry F.slot_zip_next hT F.entry_zip_next ?_ (F.args_zip_next_1 _))))
 show wpAny _ _ (field (.ref Z) 2 >>= _) _ _ _
 refine wpAny_bind (wpAny_field eZ rfl (x := .bool false) rfl ?_)
 show wpAny _ _ (field (.ref Z) 3 >>= _) _ _ _
 refine wpAny_bind (wpAny_field eZ rfl (x := .ref TI) rfl ?_); refine wpAny_bind (wpAny_seqItems eI rfl ?_)
 show wpAny _ _ (Builtin.SmallTypes.ownedTupleIsFree (.ref Z) >>= _) _ _ _
 refine wpAny_bind ?_; unfold Builtin.SmallTypes.ownedTupleIsFree
 refine wpAny_bind (wpAny_field eZ rfl (x := .none) rfl (wpAny_pure ?_)); simp only [if_true]
 refine wpAny_bind (wpAny_rule ?_); refine wpAny_bind (wpAny_field eZ rfl (x := .ref TO) rfl ?_)
 refine wpAny_bind (wpAny_setField_rec eZ (by simp) fun g1 z1 t1 => ?_)
 replace z1 : IsZip g1 Z TI TO .ellipsis := z1
 refine wpAny_bind ?_; simp only [List.zipIdx_cons, List.zipIdx_nil, List.forIn_cons, List.forIn_nil]; refine wpAny_bind (wpAny_bind (wpAny_onRaise ?_))
 show wpAny _ _ (Builtin.SmallTypes.nextOf (.ref i) >>= _) _ _ _
 refine wpAny_bind (tupNext (ei.extBut t1.extBut D.i1z) (eu.extBut t1.extBut D.l1z) hx fun g2 i2 t2 => wpAny_pure ?_)
 have o2 : IsPair g2 TO a b := t2.extBut _ _ D.TOi1 (t1.extBut _ _ D.TOz eO)
 refine wpAny_bind (wpAny_seqItems o2 rfl ?_); refine wpAny_bind (wpAny_updateSeq_pair o2 fun g3 o3 t3 => ?_)
 replace o3 : IsPair g3 TO x b := o3
 refine wpAny_bind (wpAny_letGo (wpAny_pure ?_)); refine wpAny_bind (wpAny_bind (wpAny_onRaise ?_))
 show wpAny _ _ (Builtin.SmallTypes.nextOf (.ref j) >>= _) _ _ _
 refine wpAny_bind (tupNext (((ej.extBut t1.extBut D.i2z).extBut t2.extBut D.i12.symm).extBut t3.extBut D.TOi2.symm) (((ev.extBut t1.extBut D.l2z).extBut t2.extBut D.l2i1).extBut t3.extBut D.l2TO) hy fun g4 j4 t4 => wpAny_pure ?_)
 have o4 : IsPair g4 TO x b := t4.extBut _ _ D.TOi2 o3
 refine wpAny_bind (wpAny_seqItems o4 rfl ?_); refine wpAny_bind (wpAny_updateSeq_pair o4 fun g5 o5 t5 => ?_)
 replace o5 : IsPair g5 TO x y := o5
 refine wpAny_bind (wpAny_letGo (wpAny_pure (wpAny_pure ?_))); refine wpAny_bind (wpAny_seqItems o5 rfl ?_); refine wpAny_bind (wpAny_newTuple ?_)
 have sz : g5.objs.size = s.heap.objs.size := by rw [t5.1, t4.1, t3.1, t2.1, t1.1]
 have z5 : IsZip g5 Z TI TO .ellipsis := t5.extBut _ _ D.TOz.symm (t4.extBut _ _ D.i2z.symm (t3.extBut _ _ D.TOz.symm (t2.extBut _ _ D.i1z.symm z1)))
 have k5 : ∀ c o, c ≠ Z → c ≠ TO → c ≠ i → c ≠ j → s.heap.get? c = some o → g5.get? c = some o := fun c o c1 c2 c3 c4 q => t5.extBut _ _ c2 (t4.extBut _ _ c4 (t3.extBut _ _ c2 (t2.extBut _ _ c3 (t1.extBut _ _ c1 q))))
 have i5 : g5.IsTupleIter i u (k + 1) := ((i2.extBut t3.extBut D.TOi1.symm).extBut t4.extBut D.i12).extBut t5.extBut D.TOi1.symm
 have j5 : g5.IsTupleIter j v (l + 1) := j4.extBut t5.extBut D.TOi2.symm
 have lz : Z < g5.objs.size := Heap.lt_size z5
 show wpAny _ _ (Builtin.SmallTypes.ownedTupleHandOut (.ref Z) (.ref g5.objs.size) >>= _) _ _ _
 refine wpAny_bind ?_; unfold Builtin.SmallTypes.ownedTupleHandOut
 have z6 : IsZip (g5.push { cls := .type "tuple", data := .seq #[x, y] }) Z TI TO .ellipsis := Heap.get?_push_of_some _ z5
 refine wpAny_bind (wpAny_setField_rec z6 (by simp) fun g7 z7 t7 => ?_)
 replace z7 : IsZip g7 Z TI TO (rawInt g5.objs.size) := z7
 refine wpAny_setField_rec z7 (by simp) fun g8 z8 t8 => ?_
 replace z8 : IsZip g8 Z TI TO (rawInt g5.objs.size) := z8
 have up : ∀ c o, c ≠ Z → g5.get? c = some o → g8.get? c = some o := fun c o c1 q => t8.extBut _ _ c1 (t7.extBut _ _ c1 (Heap.get?_push_of_some _ q))
 have n8 : IsPair g8 g5.objs.size x y := t8.extBut _ _ (Nat.ne_of_gt lz) (t7.extBut _ _ (Nat.ne_of_gt lz) (Heap.get?_push_size _ rfl))
 have s8 : g8.objs.size = g5.objs.size + 1 := by rw [t8.1, t7.1, Heap.size_push]
 rw [sz] at z8 n8 s8
 refine wpAny_pure ⟨_, rfl, wpAny_pure ?_⟩
 rw [sz]
 obtain ⟨oi, qi⟩ := i5
 obtain ⟨oj, qj⟩ := j5
 exact hQ g8 z8 (up _ _ D.TOz o5) ⟨oi, up _ _ D.i1z qi.1, qi.2⟩ ⟨oj, up _ _ D.i2z qj.1, qj.2⟩ n8 s8 fun c o c1 c2 c3 c4 q => up c o c1 (k5 c o c1 c2 c3 c4 q)
theorem zipT_end {Z TI TO i j u v : Addr} {k : Nat} {xs : Array Value} {Q : Option Value → Shared → Prop} (hd0 : A.handled = none) (D : ZipApart Z TI TO i j u v)
    (eZ : IsZip s.heap Z TI TO .none) (eI : IsPair s.heap TI (.ref i) (.ref j)) (ei : s.heap.IsTupleIter i u k) (eu : s.heap.IsTuple u xs) (hx : xs[k]? = none)
    (hQ : ∀ g, (∀ c o, c ≠ Z → c ≠ TO → c ≠ i → c ≠ j → s.heap.get? c = some o → g.get? c = some o) → Q none { s with heap := g }) : wpAny (model prog w) A (pyNext (.ref Z)) Q E s := by
  have hT : s.TypeIs (.ref Z) "zip" := ⟨_, eZ, rfl⟩
  have body : ∀ (E' : Value → Shared → Prop) (Q' : Fin → Shared → Prop), (∀ g e, (∀ c o, c ≠ Z → c ≠ TO → c ≠ i → c ≠ j → s.heap.get? c = some o → g.get? c = some o) → (∃ o, g.get? e = some o ∧ o.cls = .type "StopIteration") → E' (.ref e) { s with heap := g }) →
      wpAny (model prog w) A.in1 (Builtin.«zip.__next__» ⟨[.ref Z], []⟩) Q' E' s := fun E' Q' hE => by
    show wpAny _ _ (field (.ref Z) 2 >>= _) _ _ _
    refine wpAny_bind (wpAny_field eZ rfl (x := .bool false) rfl ?_)
    show wpAny _ _ (field (.ref Z) 3 >>= _) _ _ _
    refine wpAny_bind (wpAny_field eZ rfl (x := .ref TI) rfl ?_); refine wpAny_bind (wpAny_seqItems eI rfl ?_)
    show wpAny _ _ (Builtin.SmallTypes.ownedTupleIsFree (.ref Z) >>= _) _ _ _
    refine wpAny_bind ?_; unfold Builtin.SmallTypes.ownedTupleIsFree
    refine wpAny_bind (wpAny_field eZ rfl (x := .none) rfl (wpAny_pure ?_)); simp only [if_true]
    refine wpAny_bind (wpAny_rule ?_); refine wpAny_bind (wpAny_field eZ rfl (x := .ref TO) rfl ?_)
    refine wpAny_bind (wpAny_setField_rec eZ (by simp) fun g1 z1 t1 => ?_)
    replace z1 : IsZip g1 Z TI TO .ellipsis := z1
    refine wpAny_bind ?_; simp only [List.zipIdx_cons, List.zipIdx_nil, List.forIn_cons, List.forIn_nil]; refine wpAny_bind (wpAny_bind (wpAny_onRaise ?_))
    show wpAny _ _ (Builtin.SmallTypes.nextOf (.ref i) >>= _) _ _ _
    refine wpAny_bind (tupStop hd0 (ei.extBut t1.extBut D.i1z) (eu.extBut t1.extBut D.l1z) hx fun g2 e t2 he => ?_)
    obtain ⟨oe, q1, q2⟩ := he
    have z2 : IsZip g2 Z TI TO .ellipsis := t2 _ _ D.i1z.symm z1
    have ne : e ≠ Z := fun q => by subst q; rw [z2] at q1; cases q1; simp at q2
    refine wpAny_setField_rec z2 (by simp) fun g3 _ t3 => hE g3 e (fun c o c1 _ c3 _ q => t3.extBut _ _ c1 (t2 _ _ c3 (t1.extBut _ _ c1 q))) ⟨oe, t3.extBut _ _ ne q1, q2⟩
  unfold pyNext
  refine wpAny_bind (wpAny_attempt (wpAny_callSpecial?_slot (name := Str.ofString "__next__") hT F.slot_zip_next (wpAny_call_entry F.slot_zip_next hT F.entry_zip_next (body _ _ fun g e hk he => ?_) (F.args_zip_next_1 _))))
  obtain ⟨o, q1, q2⟩ := he
  exact wpAny_bind (wpAny_isInstance (T := "StopIteration") (b := true) ⟨o, q1, q2⟩ isSubtype_stop (wpAny_pure (hQ _ hk)))
end
end L2
set_option Elab.async false
set_option maxRecDepth 100000
namespace L2
open PySem PySem.Spec PyProof.Rows
theorem istup {h : Heap} {a : Addr} {its : Array Value} (p : IsTup h a its) : h.IsTuple a its := p
def Itzt (K : PySem.W.Frag) (a b : Addr) : It :=
  ⟨fun i H => ∃ xs ys x y, SqT K H a xs ∧ SqT K H b ys ∧ xs[i]? = some x ∧ ys[i]? = some y,
   fun i H v H' => ∃ T, v = .ref T ∧ H T = none ∧ ∀ xs ys, SqT K H a xs → SqT K H b ys → ∃ x y, xs[i]? = some x ∧ ys[i]? = some y ∧ H' = upd H T (.tup [x, y]),
   fun i H => ∃ xs ys, SqT K H a xs ∧ SqT K H b ys ∧ xs.length ≤ i⟩
theorem turn_zipT {P : Program} {w : World} {K : PySem.W.Frag} {elts : List Expr} {kt : Nat} {pt : Pos} {a b n : Addr} (ha : a < n) (hb : b < n) :
    Turn P w K (.Tuple elts kt pt) (Itzt K a b) [n + 4, n + 2, n + 3, n, n + 1] (n + 4) (fun i h => IsZip h (n + 4) (n + 2) (n + 3) .none ∧ IsPair h (n + 2) (.ref n) (.ref (n + 1)) ∧ (∃ x y, IsPair h (n + 3) x y) ∧ h.IsTupleIter n a i ∧ h.IsTupleIter (n + 1) b i) where
  mem := by simp
  obj := fun i h st c hc => by
    obtain ⟨z1, z2, ⟨x, y, z3⟩, ⟨o4, e4, c4, d4⟩, ⟨o5, e5, c5, d5⟩⟩ := st
    simp only [List.mem_cons, List.not_mem_nil, or_false] at hc
    rcases hc with rfl | rfl | rfl | rfl | rfl
    · exact ⟨_, z1, fun v z => by cases z⟩
    · exact ⟨_, z2, fun v z => by cases z⟩
    · exact ⟨_, z3, fun v z => by cases z⟩
    · exact ⟨_, e4, fun v z => by rw [d4] at z; cases z⟩
    · exact ⟨_, e5, fun v z => by rw [d5] at z; cases z⟩
  keep := fun i h h' st k => by
    obtain ⟨z1, z2, ⟨x, y, z3⟩, z4, z5⟩ := st
    exact ⟨k _ (by simp) _ z1, k _ (by simp) _ z2, ⟨x, y, k _ (by simp) _ z3⟩, z4.at fun o e => k _ (by simp) o e, z5.at fun o e => k _ (by simp) o e⟩
  item := by
    intro X hP hw hK hc i pins s σ H E I hf st hg
    subst hP hw hK
    obtain ⟨xs, ys, x, y, hqa, hqb, hx, hy⟩ := hg
    obtain ⟨its, rv, p, hz⟩ := I.tuple hqa
    obtain ⟨jts, rw', p', hz'⟩ := I.tuple hqb
    obtain ⟨u, hu, ru⟩ := rv.get hx
    obtain ⟨u', hu', ru'⟩ := rw'.get hy
    obtain ⟨z1, z2, ⟨x0, y0, z3⟩, z4, z5⟩ := st
    have D : ZipApart (n + 4) (n + 2) (n + 3) n (n + 1) a b := PyProof.Rows.zipApart_new ha hb
    have ltz : n + 4 < s.heap.objs.size := Heap.lt_size z1
    refine zipT_item D z1 z2 z3 z4 z5 (istup p) (istup p') (x := u) (y := u') (by simpa using hu) (by simpa using hu') fun h' a1 a2 a3 a4 a5 a6 hk => ?_
    refine ⟨_, rfl, wpAny_letOwnedTupleGo_zip (s := { s with heap := h' }) a1 fun h2 b1 hs => ?_⟩
    have neT : ∀ {c : Addr}, c ≤ n + 4 → c ≠ s.heap.objs.size := fun h => Nat.ne_of_lt (Nat.lt_of_le_of_lt h ltz)
    have kk : ∀ c o, c ∉ [n + 4, n + 3, n, n + 1] → s.heap.get? c = some o → h2.get? c = some o := fun c o hc e => by
      simp only [List.mem_cons, List.not_mem_nil, or_false, not_or] at hc
      exact (hs.2 c hc.1).trans (hk c o hc.1 hc.2.1 hc.2.2.1 hc.2.2.2 e)
    have q2 : h2.get? (n + 2) = _ := kk _ _ (by simp only [List.mem_cons, List.not_mem_nil, or_false, not_or]; exact ⟨D.TIz, D.TITO, D.TIi1, D.TIi2⟩) z2
    have q3 : h2.get? (n + 3) = _ := (hs.2 _ D.TOz).trans a2
    obtain ⟨o4, e4, c4⟩ := a3
    obtain ⟨o5, e5, c5⟩ := a4
    have q4 : h2.get? n = _ := (hs.2 _ D.i1z).trans e4
    have q5 : h2.get? (n + 1) = _ := (hs.2 _ D.i2z).trans e5
    have qT : h2.get? s.heap.objs.size = _ := (hs.2 _ (Ne.symm (neT (Nat.le_refl _)))).trans a5
    have sub : ∀ c ∈ [n + 4, n + 3, n, n + 1], c ∈ [n + 4, n + 2, n + 3, n, n + 1] := fun c hc => by
      simp only [List.mem_cons, List.not_mem_nil, or_false] at hc ⊢
      rcases hc with e | e | e | e
      · exact .inl e
      · exact .inr (.inr (.inl e))
      · exact .inr (.inr (.inr (.inl e)))
      · exact .inr (.inr (.inr (.inr e)))
    have I1 : Inv X pins σ (upd H s.heap.objs.size (.tup [x, y])) { s with heap := h2, toks := s.toks } := I.turnedL (ch := [n + 4, n + 3, n, n + 1]) kk (fun c hc => hf c (sub c hc)) (fun c hc => by
        simp only [List.mem_cons, List.not_mem_nil, or_false] at hc
        rcases hc with rfl | rfl | rfl | rfl
        · exact ⟨_, b1⟩
        · exact ⟨_, q3⟩
        · exact ⟨_, q4⟩
        · exact ⟨_, q5⟩) (Nat.le_refl _) ⟨by show 2 ≤ sizeLine; decide, [u, u'], .cons ru (.cons ru' .nil), _, qT, rfl, _, rfl⟩
    refine ⟨.ref s.heap.objs.size, _, I1, rfl, ⟨_, rfl, I.hok.fresh (Nat.le_refl _), fun vs ws hv hw => ?_⟩, ⟨b1, q2, ⟨_, _, q3⟩, ⟨_, q4, c4⟩, ⟨_, q5, c5⟩⟩, fun c hc => ?_⟩
    · rw [I.tuple_inj hv hqa, I.tuple_inj hw hqb]
      exact ⟨x, y, hx, hy, rfl⟩
    · have hle : c ≤ n + 4 := by
        simp only [List.mem_cons, List.not_mem_nil, or_false] at hc
        rcases hc with rfl | rfl | rfl | rfl | rfl
        · exact Nat.le_refl _
        · exact Nat.le_add_right (n + 2) 2
        · exact Nat.le_add_right (n + 3) 1
        · exact Nat.le_add_right _ 4
        · exact Nat.le_add_right (n + 1) 3
      rw [upd_ne (neT hle)]
      exact (hf c hc).1
  done := by
    intro X hP hw hK hc i pins s σ H E I hf st hg
    subst hP hw hK
    obtain ⟨xs, ys, hqa, hqb, hl⟩ := hg
    obtain ⟨its, rv, p, hz⟩ := I.tuple hqa
    obtain ⟨jts, rw', p', hz'⟩ := I.tuple hqb
    obtain ⟨z1, z2, ⟨x0, y0, z3⟩, z4, z5⟩ := st
    have D : ZipApart (n + 4) (n + 2) (n + 3) n (n + 1) a b := PyProof.Rows.zipApart_new ha hb
    have l1 := rv.length
    have l2 := rw'.length
    refine zipT_end (I.ok.hd hc) D z1 z2 z4 (istup p) ?_ fun h' hk => ⟨rfl, ?_⟩
    · simp; omega
    · have fp : ∀ c ∈ [n + 4, n + 3, n, n + 1], FpOk X pins H c := fun c hc => hf c (by
        simp only [List.mem_cons, List.not_mem_nil, or_false] at hc ⊢
        rcases hc with e | e | e | e
        · exact .inl e
        · exact .inr (.inr (.inl e))
        · exact .inr (.inr (.inr (.inl e)))
        · exact .inr (.inr (.inr (.inr e))))
      have kk : ∀ c o, c ∉ [n + 4, n + 3, n, n + 1] → s.heap.get? c = some o → h'.get? c = some o := fun c o hc e => by
        simp only [List.mem_cons, List.not_mem_nil, or_false, not_or] at hc
        exact hk c o hc.1 hc.2.1 hc.2.2.1 hc.2.2.2 e
      have nit : ∀ c u, H c = some u → c ∉ [n + 4, n + 3, n, n + 1] := fun c u e z => by rw [(fp c z).1] at e; cases e
      refine I.step (g' := s.gens) (d' := s.drawn) (t' := s.toks) (ch := [n + 4, n + 3, n, n + 1]) (fun c hc => ⟨(fp c hc).2.2.2.1, (fp c hc).2.1, (fp c hc).2.2.2.2.1, (fp c hc).2.2.2.2.2⟩) (fun c o _ _ hc e _ => kk c o hc e) (fun c o _ _ hc e _ => ⟨o.slots, kk c o hc e⟩) (fun _ _ _ _ n => n)
        (fun c o hc e => ⟨o, kk c o hc e⟩) (fun _ _ e => e) (fun _ _ _ e => e) (fun _ ps e => ⟨#[], by rw [e]; simp⟩) (fun m hm => ?_) (fun c u e => ?_) I.bare
      · obtain ⟨ob, es, ep, ho, r⟩ := hm
        exact ⟨ob, es, ep, kk _ ob (fun z => (fp _ z).2.1 rfl) ho, r⟩
      · refine (I.hok c u e).stay (fun d v hd q => kk d v ?_ q) (fun _ e' => e') fun _ _ e' => e'
        rcases hd with z | z
        · rw [z]; exact nit c u e
        · exact nit d _ z
  self := fun _ _ _ _ _ st h => wpAny_pyIter_zip st.1 h
section
variable {prog : Program} {w : World} {A : Around} {E : Value → Shared → Prop} {s : Shared}
abbrev zT1 (h : Heap) (u : Addr) : Heap := h.push { cls := .type "tuple_iterator", data := .fields #[.ref u, .int 0 0] }
abbrev zT2 (h : Heap) (u v : Addr) : Heap := (zT1 h u).push { cls := .type "tuple_iterator", data := .fields #[.ref v, .int 0 0] }
abbrev zT3 (h : Heap) (u v : Addr) : Heap := (zT2 h u v).push { cls := .type "tuple", data := .seq #[.ref h.objs.size, .ref (zT1 h u).objs.size] }
abbrev zT4 (h : Heap) (u v : Addr) : Heap := (zT3 h u v).push { cls := .type "tuple", data := .seq #[.none, .none] }
abbrev zT5 (h : Heap) (u v : Addr) : Heap := (zT4 h u v).push { cls := .type "zip", data := .fields #[.none, .bool false, .bool false, .ref (zT2 h u v).objs.size, .ref (zT3 h u v).objs.size] }
theorem zipT_new (u v : Addr) (xs ys : Array Value) : Meets (Builtin.«zip.__new__» ⟨[.type "zip", .ref u, .ref v], []⟩) (fun _ R s => s.heap.IsTuple u xs ∧ s.heap.IsTuple v ys ∧ R (.ok (.ret (.ref (zT4 s.heap u v).objs.size))) { s with heap := zT5 s.heap u v }) :=
 .of_wp fun prog w A R s h => by
  obtain ⟨hp, g, d, tk, os⟩ := s; obtain ⟨t1, t2, q⟩ := h
  have sz := sub_zip
  have L1 : Heap.IsTuple (Shared.heap ⟨hp, g, d, tk, os⟩) u xs := t1
  have L2 : Heap.IsTuple (Shared.heap ⟨hp.push { cls := .type "tuple_iterator", data := .fields #[.ref u, .int 0 0] }, g, d, tk, os⟩) v ys := Heap.IsTuple.push t2 _
  wp_walk using wpAny_pyIter_tuple L1, wpAny_pyIter_tuple L2
  exact ⟨_, rfl, q⟩
theorem zipT_call {u v : Addr} {xs ys : Array Value} {Q : Value → Shared → Prop} (t1 : s.heap.IsTuple u xs) (t2 : s.heap.IsTuple v ys)
  (q : ∀ g, IsZip g (s.heap.objs.size + 4) (s.heap.objs.size + 2) (s.heap.objs.size + 3) .none → IsPair g (s.heap.objs.size + 2) (.ref s.heap.objs.size) (.ref (s.heap.objs.size + 1)) → IsPair g (s.heap.objs.size + 3) .none .none →
   g.IsTupleIter s.heap.objs.size u 0 → g.IsTupleIter (s.heap.objs.size + 1) v 0 → (∀ c o, s.heap.get? c = some o → g.get? c = some o) → Q (.ref (s.heap.objs.size + 4)) { s with heap := g }) :
  wpAny (model prog w) A (call (.type "zip") [.ref u, .ref v]) Q E s := by
 refine callType_new F.called_zip (by decide) (F.typeCall_zip_2 _ _) (F.newCall_zip_2 _ _) (fun obj => F.args_object_init_3 obj _ _) F.entry_zip_new (zipT_new u v xs ys) ⟨t1, t2, ?_⟩
 have y1 : (zT1 s.heap u).objs.size = s.heap.objs.size + 1 := Heap.size_push ..
 have y2 : (zT2 s.heap u v).objs.size = s.heap.objs.size + 2 := by rw [Heap.size_push, y1]
 have y3 : (zT3 s.heap u v).objs.size = s.heap.objs.size + 3 := by rw [Heap.size_push, y2]
 have y4 : (zT4 s.heap u v).objs.size = s.heap.objs.size + 4 := by rw [Heap.size_push, y3]
 have k5 : (zT5 s.heap u v).get? (zT4 s.heap u v).objs.size = some _ := Heap.get?_push_size _ rfl
 have k4 : (zT5 s.heap u v).get? (zT3 s.heap u v).objs.size = some _ := Heap.get?_push_of_some _ (Heap.get?_push_size _ rfl)
 have k3 : (zT5 s.heap u v).get? (zT2 s.heap u v).objs.size = some _ := Heap.get?_push_of_some _ (Heap.get?_push_of_some _ (Heap.get?_push_size _ rfl))
 have k2 : (zT5 s.heap u v).get? (zT1 s.heap u).objs.size = some _ := Heap.get?_push_of_some _ (Heap.get?_push_of_some _ (Heap.get?_push_of_some _ (Heap.get?_push_size _ rfl)))
 have k1 : (zT5 s.heap u v).get? s.heap.objs.size = some _ := Heap.get?_push_of_some _ (Heap.get?_push_of_some _ (Heap.get?_push_of_some _ (Heap.get?_push_of_some _ (Heap.get?_push_size _ rfl))))
 show _ ∧ _
 rw [y2, y3, y4] at k5
 rw [y1, y2] at k3
 rw [y3] at k4
 rw [y1] at k2
 refine ⟨by rw [y4]; exact ⟨_, k5, rfl⟩, ?_⟩
 rw [y4]
 exact q _ k5 k3 k4 ⟨_, k1, rfl, rfl⟩ ⟨_, k2, rfl, rfl⟩ fun c o z => Heap.get?_push_of_some _ (Heap.get?_push_of_some _ (Heap.get?_push_of_some _ (Heap.get?_push_of_some _ (Heap.get?_push_of_some _ z))))
end
section
variable {X : Cx} {elts : List Expr} {kt : Nat} {pt : Pos}
def iZipS (K : PySem.W.Frag) (ta : TA) : TI := fun σ H R => ta σ H fun vs H1 => ∃ a b, vs = [.ref a, .ref b] ∧ (((∃ xs, SqL K H1 a xs) ∧ (∃ ys, SqL K H1 b ys) ∧ R (Itz K a b) H1) ∨ ((∃ xs, SqT K H1 a xs) ∧ (∃ ys, SqT K H1 b ys) ∧ R (Itzt K a b) H1))
theorem pi_zipS {a b : Expr} {ta : TA} {p pos : Pos} (hg : Gl X "zip") (hm : X.mg "zip" = none) (ha : PA X [a, b] ta) (hs : starEach [a, b] X.env = [(false, eval a X.env), (false, eval b X.env)] := by rfl) (hs2 : starEach [b] X.env = [(false, eval b X.env)] := by rfl) :
  PI X (.Tuple elts kt pt) (.Call (.Name "zip" p) [a, b] [] pos) (iZipS X.K ta) := by
 intro pins s σ H R I h
 refine Call_ (ld_blt I hg hm (by rfl : bootBuiltins "zip" = some (.type "zip")) (PyProof.Rows.callWith_type1 (thn (ha pos pins s σ H _ I h) fun us s1 ⟨vs, H1, I1, r1, q1⟩ => ?_) (by rw [hs, hs2]) (by rw [hs2]; rfl)))
 obtain ⟨a, b, e, q⟩ := q1
 subst e
 obtain ⟨u, v, rfl, ru, rv⟩ := r1.two
 cases (show u = Value.ref a from ru)
 cases (show v = Value.ref b from rv)
 rcases q with ⟨⟨xs, ha⟩, ⟨ys, hb⟩, q⟩ | ⟨⟨xs, ha⟩, ⟨ys, hb⟩, q⟩
 ·obtain ⟨its, _, p1, _⟩ := I1.list ha
  obtain ⟨jts, _, p2, _⟩ := I1.list hb
  have l1 : a < s1.heap.objs.size := let ⟨o, ho, _⟩ := p1.isList; Heap.lt_size ho
  have l2 : b < s1.heap.objs.size := let ⟨o, ho, _⟩ := p2.isList; Heap.lt_size ho
  refine call_zip_2 p1.isList p2.isList fun h' hz hTI hTO h1 h2 hsz hk => wpAny_pyIter_zip (s := { s1 with heap := h' }) hz ?_
  refine ⟨s1.heap.objs.size + 4, _, _, _, H1, rfl, I1.kept (t' := s1.toks) hk, turn_zip l1 l2, ⟨hz, hTI, ⟨_, _, hTO⟩, h1, h2⟩, fun c hc => ?_, q⟩
  have hle : s1.heap.objs.size ≤ c := by
   simp only [List.mem_cons, List.not_mem_nil, or_false] at hc
   rcases hc with rfl | rfl | rfl | rfl | rfl
   ·exact Nat.le_add_right _ _
   ·exact Nat.le_add_right _ _
   ·exact Nat.le_add_right _ _
   ·exact Nat.le_refl _
   ·exact Nat.le_add_right _ _
  exact I1.fpOk hle (I1.hok.fresh hle)
 ·obtain ⟨its, _, p1, _⟩ := I1.tuple ha
  obtain ⟨jts, _, p2, _⟩ := I1.tuple hb
  have l1 : a < s1.heap.objs.size := let ⟨o, ho, _⟩ := istup p1; Heap.lt_size ho
  have l2 : b < s1.heap.objs.size := let ⟨o, ho, _⟩ := istup p2; Heap.lt_size ho
  refine zipT_call (istup p1) (istup p2) fun h' hz hTI hTO h1 h2 hk => wpAny_pyIter_zip (s := { s1 with heap := h' }) hz ?_
  refine ⟨s1.heap.objs.size + 4, _, _, _, H1, rfl, I1.kept (t' := s1.toks) hk, turn_zipT l1 l2, ⟨hz, hTI, ⟨_, _, hTO⟩, h1, h2⟩, fun c hc => ?_, q⟩
  have hle : s1.heap.objs.size ≤ c := by
   simp only [List.mem_cons, List.not_mem_nil, or_false] at hc
   rcases hc with rfl | rfl | rfl | rfl | rfl
   ·exact Nat.le_add_right _ _
   ·exact Nat.le_add_right _ _
   ·exact Nat.le_add_right _ _
   ·exact Nat.le_refl _
   ·exact Nat.le_add_right _ _
  exact I1.fpOk hle (I1.hok.fresh hle)
end
theorem rd_izipS {K : PySem.W.Frag} {σ : St} {H : Hp} {ta : TA} {R : It → Hp → Prop} (h : ta σ H fun vs H1 => ∃ a b, vs = [.ref a, .ref b] ∧ (((∃ xs, SqL K H1 a xs) ∧ (∃ ys, SqL K H1 b ys) ∧ R (Itz K a b) H1) ∨ ((∃ xs, SqT K H1 a xs) ∧ (∃ ys, SqT K H1 b ys) ∧ R (Itzt K a b) H1))) : iZipS K ta σ H R := h
end L2
set_option Elab.async false
set_option maxRecDepth 100000
namespace L2
open PySem PySem.Spec PyProof.Rows
end L2
set_option Elab.async false
set_option linter.all false
set_option maxRecDepth 100000
namespace L2
open PySem PySem.Spec PyProof.Rows
section
variable {K : PySem.W.Frag} {σ : St} {H : Hp} {Q : VK} {te : TE} {cap : List (Option Nat)} {l : Addr}
end
end L2
set_option Elab.async false
set_option linter.all false
set_option maxRecDepth 100000
namespace L2
open PySem PySem.Spec PyProof.Rows
section
variable {X : Cx} {elts : List Expr} {kt : Nat} {pt : Pos}
end
end L2
set_option Elab.async false
set_option maxHeartbeats 4000000
set_option linter.all false
open PySem PySem.Spec PyProof.Rows
namespace L2
structure ClsFn (K : PySem.W.Frag) (C : Addr) (m : Str) (f : Addr) : Prop where
 ga : PySem.W.specialIn K (.ref C) "__getattribute__" = some (some (.builtin "type.__getattribute__"))
 rd : PySem.W.readsIn K C (.type "type") = true
 at_ : PySem.W.findCls K (.ref C) (.type "type") m = some (.val (.ref f))
 kp : PySem.W.keepIn K (.ref f) = true
section
variable {X : Cx} {CX : CXT} {k : Nat} {f C : Addr} {fd : FuncData} {ps : List Str} {sp : Sp} {dvs : List V} {ds : List Value} {E : XK} {x m : Str} {p pos apos : Pos} {e o : Expr} {es : List Expr} {ta : TE} {t : TA}
theorem pe_callC {pl : Sem Bool} (hg : Gl X x) (hm : X.mg x = some (.ref C)) (c : ClsFn X.K C m f) (F : FnOk X.prog X.w X.K X.mg X.base CX k f fd ps sp) (hr : Room k X.A) (hb : Binds X.K fd ps ds) (hd : Vals dvs ds) (hx : Passes CX X E) (ha : PA X (e :: es) t)
  (hdb : (x == ("__debug__" : Str)) = false := by decide)
  (hst : starEach (e :: es) X.env = (false, eval e X.env) :: starEach es X.env := by rfl) (hpl : (backTo pos (starEach es X.env)).any (·.1) = false := by rfl)
  (ht : eval (.Call (.Attribute (.Name x p) m apos) (e :: es) [] pos) X.env = (do
   let ov ← eval (.Name x p) X.env
   standAt apos.atName
   let (f, first) ← holding [ov] (getMethod ov m pl)
   callWith pos f first (backTo pos (starEach (e :: es) X.env)) (backToKw pos (keywordEach [] X.env))) := by rfl) :
  PE X (.Call (.Attribute (.Name x p) m apos) (e :: es) [] pos) (tCall sp dvs E t) := by
 intro pins s σ H Q I h
 refine PySem.W.methodCall_KW (pl := pl) (thn ((pe_glob (v := .ref C) hg hm rfl hdb) pins s σ H (fun x H1 => x = .ref C ∧ H1 = H) I ⟨rfl, rfl⟩) fun u s1 ⟨x, H1, I1, rx, ex, eh⟩ => ?_) ht
 subst ex; subst eh
 obtain rfl : u = Value.ref C := rx
 refine PySem.W.method_cls I1.kIn c.ga (PySem.W.cls_value I1.kIn c.rd c.at_ rfl ?_)
 have I2 := I1.tok (s1.toks + 1)
 refine PySem.W.callWith_K (first := []) (h₀ := X.base) I.ok.mod.kin c.kp (thn (ha pos pins _ σ H1 _ I2 h) fun us s2 ⟨vs, H2, I3, r, q2⟩ => ⟨I3.kIn, ?_⟩) hst hpl
 exact run_fn (us := us) (vs := vs) F hr hb hd hx I3 r q2
end
end L2
set_option Elab.async false
set_option linter.all false
namespace L2
open PySem PySem.Spec PyProof.Rows
theorem cutC {X : Cx} {s : Stmt} {ss : List Stmt} {r : TS} {C : TS → Prop} (d : PS X s r) (k : ∀ r', r' = r → ∃ ts, PSs X ss ts ∧ C (tSeq r' ts)) : ∃ ts, PSs X (s :: ss) ts ∧ C ts :=
 let ⟨_, h1, h2⟩ := k r rfl
 ⟨_, pss_cons d h1, h2⟩
theorem cutE {X : Cx} {s : Stmt} {r : TS} {C : TS → Prop} (d : PS X s r) (k : ∀ r', r' = r → C r') : ∃ ts, PSs X [s] ts ∧ C ts := ⟨_, pss_one d, k r rfl⟩
theorem rd_cut {r r' : TS} {D : Ends} {σ : St} {H : Hp} (e : r' = r) (h : r D σ H) : r' D σ H := e ▸ h
theorem rd_seqA {t u : TS} {D : Ends} {σ : St} {H : Hp} (k : ∀ u', u' = u → t { D with nx := u' D } σ H) : tSeq t u D σ H := k u rfl
theorem len1 {us : List Value} (h : us.length = 1) : ∃ a0, us = [a0] := match us, h with | [a0], _ => ⟨a0, rfl⟩
theorem len2 {us : List Value} (h : us.length = 2) : ∃ a0 a1, us = [a0, a1] := match us, h with | [a0, a1], _ => ⟨a0, a1, rfl⟩
theorem len3 {us : List Value} (h : us.length = 3) : ∃ a0 a1 a2, us = [a0, a1, a2] := match us, h with | [a0, a1, a2], _ => ⟨a0, a1, a2, rfl⟩
theorem len4 {us : List Value} (h : us.length = 4) : ∃ a0 a1 a2 a3, us = [a0, a1, a2, a3] := match us, h with | [a0, a1, a2, a3], _ => ⟨a0, a1, a2, a3, rfl⟩
theorem len5 {us : List Value} (h : us.length = 5) : ∃ a0 a1 a2 a3 a4, us = [a0, a1, a2, a3, a4] := match us, h with | [a0, a1, a2, a3, a4], _ => ⟨a0, a1, a2, a3, a4, rfl⟩
end L2
set_option Elab.async false
set_option linter.all false
set_option maxRecDepth 100000
set_option maxHeartbeats 4000000
namespace L2
open PySem PySem.Spec PyProof.Rows
section
variable {κ : Type} [DecidableEq κ]
def valV (kvs : List (κ × V)) (k : κ) : Option V := (kvs.find? fun kv => decide (kv.1 = k)).map (·.2)
def putK (kvs : List (κ × V)) (k : κ) (v : V) : List (κ × V) :=
 if (kvs.any fun kv => decide (kv.1 = k)) = true then kvs.map (fun kv => if kv.1 = k then (kv.1, v) else kv) else kvs ++ [(k, v)]
theorem valV_pos {p : κ × V} {r : List (κ × V)} {k : κ} (e : p.1 = k) : valV (p :: r) k = some p.2 := by simp [valV, List.find?_cons, e]
theorem valV_neg {p : κ × V} {r : List (κ × V)} {k : κ} (e : ¬ p.1 = k) : valV (p :: r) k = valV r k := by simp [valV, List.find?_cons, e]
theorem valV_any (k : κ) : ∀ kvs : List (κ × V), (kvs.any fun kv => decide (kv.1 = k)) = (valV kvs k).isSome
 | [] => rfl
 | p :: r => by
  rw [List.any_cons]
  by_cases e : p.1 = k
  ·simp only [valV_pos e, decide_eq_true e, Bool.true_or, Option.isSome_some]
  ·rw [valV_neg e, decide_eq_false e, Bool.false_or]; exact valV_any k r
theorem length_putK (kvs : List (κ × V)) (k : κ) (v : V) : (putK kvs k v).length ≤ kvs.length + 1 := by
 unfold putK
 split
 ·rw [List.length_map]; omega
 ·rw [List.length_append, List.length_cons, List.length_nil]; omega
theorem putK_new {kvs : List (κ × V)} {k : κ} (v : V) (h : valV kvs k = none) : putK kvs k v = kvs ++ [(k, v)] := by
 unfold putK
 rw [valV_any, h]
 exact if_neg (by decide)
theorem RelO.isSome_eq {o : Option V} {u : Option Value} (r : RelO o u) : o.isSome = u.isSome := by
 cases o with
 | none => cases u with
  | none => rfl
  | some _ => exact (show False from r).elim
 | some _ => cases u with
  | none => exact (show False from r).elim
  | some _ => rfl
theorem KV.val {kvs : List (κ × V)} {vs : List (κ × Value)} (r : KV kvs vs) (k : κ) : RelO (valV kvs k) (valueAt vs k) := by
 unfold KV at r
 induction r with
 | nil => exact True.intro
 | @cons p q ps qs h t ih =>
  obtain ⟨h1, h2⟩ := h
  by_cases e : p.1 = k
  ·have e' : q.1 = k := h1.symm.trans e
   have b : valueAt (q :: qs) k = some q.2 := by simp [valueAt, List.find?_cons, e']
   rw [valV_pos e, b]; exact h2
  ·have e' : ¬ q.1 = k := fun z => e (h1.trans z)
   have b : valueAt (q :: qs) k = valueAt qs k := by simp [valueAt, List.find?_cons, e']
   rw [valV_neg e, b]; exact ih
theorem KV.any {kvs : List (κ × V)} {vs : List (κ × Value)} (r : KV kvs vs) (k : κ) : (kvs.any fun kv => decide (kv.1 = k)) = vs.any fun kv => decide (kv.1 = k) := by
 unfold KV at r
 induction r with
 | nil => rfl
 | cons h t ih => rw [List.any_cons, List.any_cons, ih, h.1]
theorem KV.repl {kvs : List (κ × V)} {vs : List (κ × Value)} (r : KV kvs vs) (k : κ) {y : V} {u : Value} (ry : RelV y u) :
  KV (kvs.map fun kv => if kv.1 = k then (kv.1, y) else kv) (vs.map fun kv => if kv.1 = k then (kv.1, u) else kv) := by
 unfold KV at r ⊢
 induction r with
 | nil => exact .nil
 | @cons p q ps qs h t ih =>
  rw [List.map_cons, List.map_cons]
  refine .cons ?_ ih
  obtain ⟨h1, h2⟩ := h
  by_cases e : p.1 = k
  ·rw [if_pos e, if_pos (h1.symm.trans e)]; exact ⟨h1, ry⟩
  ·rw [if_neg e, if_neg (fun z => e (h1.trans z))]; exact ⟨h1, h2⟩
theorem KV.put {kvs : List (κ × V)} {vs : List (κ × Value)} (r : KV kvs vs) (k : κ) {y : V} {u : Value} (ry : RelV y u) : KV (putK kvs k y) (stored vs k u) := by
 unfold putK stored
 rw [r.any k]
 by_cases e : (vs.any fun kv => decide (kv.1 = k)) = true
 ·rw [if_pos e, if_pos e]; exact r.repl k ry
 ·rw [if_neg e, if_neg e]; exact Paired.snoc r ⟨rfl, ry⟩
theorem KV.length {kvs : List (κ × V)} {vs : List (κ × Value)} (r : KV kvs vs) : kvs.length = vs.length := Paired.length r
end
theorem kV_is {P : Program} {w : World} {k : Key} {u : Value} (r : RelV (kV k) u) : (mixKind P w).is k u = true := by
 cases k with
 | inl i => obtain ⟨t, e⟩ := (show ∃ t, u = Value.int i t from r); subst e; exact mixKind_int P w i t
 | inr x => obtain ⟨t, e⟩ := (show ∃ t, u = Value.str x t from r); subst e; exact mixKind_str P w x t
theorem items_are {P : Program} {w : World} : ∀ {ks : List Key} {us : List Value}, Vals (ks.map kV) us → ItemsAre (mixKind P w) ks us
 | [], _, r => by rw [List.map_nil] at r; cases r; exact .nil
 | k :: ks, _, r => by
  rw [List.map_cons] at r
  cases r with
  | cons h t => exact .cons (kV_is h) (items_are t)
abbrev KT (H : Hp) : List (List Key × V) → List (List Key × Addr × Value) → Prop := Paired fun p q => p.1 = q.1 ∧ H q.2.1 = some (.tup (p.1.map kV)) ∧ RelV p.2 q.2.2
theorem KT.val {H : Hp} {kvs : List (List Key × V)} {xs : List (List Key × Addr × Value)} (r : KT H kvs xs) (k : List Key) : RelO (valV kvs k) ((atKey xs k).map (·.2)) := by
 induction r with
 | nil => exact True.intro
 | @cons p q ps qs h t ih =>
  obtain ⟨h1, _, h2⟩ := h
  by_cases e : p.1 = k
  ·have e' : q.1 = k := h1.symm.trans e
   have b : atKey (q :: qs) k = some q.2 := by simp [atKey, List.find?_cons, e']
   rw [valV_pos e, b]; exact h2
  ·have e' : ¬ q.1 = k := fun z => e (h1.trans z)
   have b : atKey (q :: qs) k = atKey qs k := by simp [atKey, List.find?_cons, e']
   rw [valV_neg e, b]; exact ih
theorem KT.repl {H : Hp} {kvs : List (List Key × V)} {xs : List (List Key × Addr × Value)} (r : KT H kvs xs) (k : List Key) {y : V} {u : Value} (ry : RelV y u) :
  KT H (kvs.map fun kv => if kv.1 = k then (kv.1, y) else kv) (xs.map (putAt k u)) := by
 induction r with
 | nil => exact .nil
 | @cons p q ps qs h t ih =>
  rw [List.map_cons, List.map_cons]
  refine .cons ?_ ih
  obtain ⟨h1, h2, h3⟩ := h
  unfold putAt
  by_cases e : p.1 = k
  ·rw [if_pos e, if_pos (h1.symm.trans e)]; exact ⟨h1, h2, ry⟩
  ·rw [if_neg e, if_neg (fun z => e (h1.trans z))]; exact ⟨h1, h2, h3⟩
theorem KT.put {H : Hp} {kvs : List (List Key × V)} {xs : List (List Key × Addr × Value)} (r : KT H kvs xs) (k : List Key) {b : Addr} {y : V} {u : Value} (hb : H b = some (.tup (k.map kV))) (ry : RelV y u) :
  KT H (putK kvs k y) (storedH xs k b u) := by
 have e : (kvs.any fun kv => decide (kv.1 = k)) = (atKey xs k).isSome := by
  rw [valV_any, (r.val k).isSome_eq, Option.isSome_map]
 unfold putK storedH
 rw [e]
 by_cases q : (atKey xs k).isSome = true
 ·rw [if_pos q, if_pos q]; exact r.repl k ry
 ·rw [if_neg q, if_neg q]; exact Paired.snoc r ⟨rfl, hb, ry⟩
theorem KT.keeps {H H' : Hp} {kvs : List (List Key × V)} {xs : List (List Key × Addr × Value)} (r : KT H kvs xs) (ht : ∀ b ys, H b = some (.tup ys) → H' b = some (.tup ys)) : KT H' kvs xs :=
 Paired.mapP r fun _ _ z => ⟨z.1, ht _ _ z.2.1, z.2.2⟩
section
variable {P : Program} {w : World} {H : Hp} {h : Heap} {a : Addr}
theorem rd_of {u : HO} (ok : HOk P w H h) (e : Rd H a u) : ObjOk P w H h a u := e.ok ok
theorem dk_rd {kvs : List (Key × V)} (ok : HOk P w H h) (e : Rd H a (.dK kvs)) : kvs.length ≤ sizeLine ∧ (a == sysModules) = false ∧ ∃ vs, KV kvs vs ∧ h.DictOf (mixKind P w) a vs :=
 show ObjOk P w H h a (.dK kvs) from rd_of ok e
theorem dk_of {kvs : List (Key × V)} (ok : HOk P w H h) (e : H a = some (.dK kvs)) : kvs.length ≤ sizeLine ∧ (a == sysModules) = false ∧ ∃ vs, KV kvs vs ∧ h.DictOf (mixKind P w) a vs := dk_rd ok (.inl e)
theorem key_of {ks : List Key} (ok : HOk P w H h) (e : H a = some (.tup (ks.map kV))) : (tupleKind (mixKind P w)).is h ks a := by
 obtain ⟨_, its, r, o, h1, h2, n, h3⟩ := (show ObjOk P w H h a (.tup (ks.map kV)) from ok a _ e)
 exact ⟨o, its.toArray, n, h1, h2, h3, by simpa using items_are r⟩
theorem dt_rd {kvs : List (List Key × V)} (ok : HOk P w H h) (e : Rd H a (.dT kvs)) : kvs.length ≤ sizeLine ∧ (a == sysModules) = false ∧
  ∃ xs, KT H kvs xs ∧ h.DictOfH (tupleKind (mixKind P w)) a xs := by
 obtain ⟨z, y, xs, r, o, es, ep, h1, h2, h3, h4, h5⟩ := (show ObjOk P w H h a (.dT kvs) from rd_of ok e)
 refine ⟨z, y, xs, r, o, es, ep, h1, h2, h3, h4, fun x hx => ?_, h5⟩
 have all : ∀ {l : List (List Key × V)} {m : List (List Key × Addr × Value)}, KT H l m → ∀ x ∈ m, (tupleKind (mixKind P w)).is h x.1 x.2.1 := by
  intro l m q
  induction q with
  | nil => intro x hx; exact nomatch hx
  | @cons p q ps qs hq t ih =>
   intro x hx
   rcases List.mem_cons.mp hx with e | hx
   ·subst e
    exact key_of ok (by rw [← hq.1]; exact hq.2.1)
   ·exact ih x hx
 exact all r x hx
theorem dt_of {kvs : List (List Key × V)} (ok : HOk P w H h) (e : H a = some (.dT kvs)) : kvs.length ≤ sizeLine ∧ (a == sysModules) = false ∧
  ∃ xs, KT H kvs xs ∧ h.DictOfH (tupleKind (mixKind P w)) a xs := dt_rd ok (.inl e)
end
def DGet (H : Hp) (a : Addr) (y : V) (r : Option V) : Prop :=
 (∃ kvs k, Rd H a (.dK kvs) ∧ y = kV k ∧ r = valV kvs k) ∨ ∃ kvs k b, Rd H a (.dT kvs) ∧ y = .ref b ∧ H b = some (.tup (k.map kV)) ∧ r = valV kvs k
def DPut (H : Hp) (a : Addr) (y v : V) (H' : Hp) : Prop :=
 (∃ kvs k, H a = some (.dK kvs) ∧ y = kV k ∧ kvs.length < sizeLine ∧ H' = upd H a (.dK (putK kvs k v))) ∨
 ∃ kvs k b, H a = some (.dT kvs) ∧ y = .ref b ∧ H b = some (.tup (k.map kV)) ∧ kvs.length < sizeLine ∧ H' = upd H a (.dT (putK kvs k v))
theorem DGet.t {H : Hp} {a b : Addr} {kvs : List (List Key × V)} {k : List Key} (e : H a = some (.dT kvs)) (eb : H b = some (.tup (k.map kV))) : DGet H a (.ref b) (valV kvs k) := .inr ⟨kvs, k, b, .inl e, rfl, eb, rfl⟩
theorem DPut.t {H : Hp} {a b : Addr} {kvs : List (List Key × V)} {k : List Key} {v : V} (e : H a = some (.dT kvs)) (eb : H b = some (.tup (k.map kV))) (hl : kvs.length < sizeLine) :
  DPut H a (.ref b) v (upd H a (.dT (putK kvs k v))) := .inr ⟨kvs, k, b, e, rfl, eb, hl, rfl⟩
section
variable {X : Cx} {pins : List (Addr × Obj)} {σ : St} {H : Hp} {s : Shared} {a : Addr} {y v : V} {u r : Value} {o : Option V} {A : Around} {E : Value → Shared → Prop}
theorem Inv.big (I : Inv X pins σ H s) : sysModules < s.heap.objs.size := by
 have h : mainGlobals < s.heap.objs.size := (I.mod.glob.keeps I.bk).lt
 exact Nat.lt_trans (by decide) h
theorem d_getItem {Q : Value → Shared → Prop} (hu : A.units + 1 < cLine) (I : Inv X pins σ H s) (g : DGet H a y (some v)) (ry : RelV y u) (h : ∀ w' s', Inv X pins σ H s' → RelV v w' → Q w' s') :
  wpAny (model X.prog X.w) A (getItem (.ref a) u) Q E s := by
 rcases g with ⟨kvs, k, e, ey, l⟩ | ⟨kvs, k, b, e, ey, eb, l⟩
 ·subst ey
  obtain ⟨z, hd, vs, rel, dd⟩ := dk_rd I.hok e
  obtain ⟨w', hw, rw'⟩ := RelO.some_of (v := v) (o := valueAt vs k) (by rw [l]; exact rel.val k)
  exact wpAny_getItem_of (kV_is ry) dd.mapOf hw (h w' _ (I.tok _) rw')
 ·subst ey
  cases (show u = Value.ref b from ry)
  obtain ⟨z, hd, xs, rel, dd⟩ := dt_rd I.hok e
  obtain ⟨w', hw, rw'⟩ := RelO.some_of (v := v) (o := (atKey xs k).map (·.2)) (by rw [l]; exact rel.val k)
  obtain ⟨p, hp, hp2⟩ := Option.map_eq_some_iff.mp hw
  refine wpAny_getItem_heap (tupleKind_room_in1 hu) (key_of I.hok eb) dd hp ?_
  rw [hp2]
  exact h w' _ (I.tok _) rw'
theorem d_notIn {Q : Value → Shared → Prop} (hu : A.units + 1 < cLine) (I : Inv X pins σ H s) (g : DGet H a y o) (ry : RelV y u) (h : ∀ s', Inv X pins σ H s' → Q (.bool (!o.isSome)) s') :
  wpAny (model X.prog X.w) A (compareOp .NotIn u (.ref a)) Q E s := by
 rcases g with ⟨kvs, k, e, ey, l⟩ | ⟨kvs, k, b, e, ey, eb, l⟩
 ·subst ey
  obtain ⟨z, hd, vs, rel, dd⟩ := dk_rd I.hok e
  refine wpAny_notIn_of (kV_is ry) hd dd.mapOf ?_
  rw [← (rel.val k).isSome_eq, ← l]
  exact h _ (I.tok _)
 ·subst ey
  cases (show u = Value.ref b from ry)
  obtain ⟨z, hd, xs, rel, dd⟩ := dt_rd I.hok e
  refine wpAny_notIn_heap (tupleKind_room_in1 hu) (key_of I.hok eb) hd dd ?_
  have q := (rel.val k).isSome_eq
  rw [Option.isSome_map] at q
  rw [← q, ← l]
  exact h _ (I.tok _)
theorem d_write {h' : Heap} {t' : Nat} {ob : HO} (I : Inv X pins σ H s) (mu : Mut (H a)) (hs : Heap.SameBut a s.heap h') (he : ∃ q, h'.get? a = some q) (new : ObjOk X.prog X.w (upd H a ob) h' a ob) :
  Inv X pins σ (upd H a ob) { s with heap := h', toks := t' } :=
 I.write (x := a) (e := a) mu (.inl rfl) (fun b q hb z => (hs.2 b hb).trans z) he new
theorem dk_new {P : Program} {w : World} {H' : Hp} {h' : Heap} {kvs : List (Key × V)} {vs : List (Key × Value)} (z : kvs.length ≤ sizeLine) (hd : (a == sysModules) = false) (rel : KV kvs vs) (dd : h'.DictOf (mixKind P w) a vs) :
  ObjOk P w H' h' a (.dK kvs) := ⟨z, hd, vs, rel, dd⟩
theorem d_setItem {H' : Hp} {Q : Unit → Shared → Prop} (hu : A.units + 1 < cLine) (I : Inv X pins σ H s) (g : DPut H a y v H') (ry : RelV y u) (rv : RelV v r) (h : ∀ s', Inv X pins σ H' s' → Q () s') :
  wpAny (model X.prog X.w) A (setItem (.ref a) u r) Q E s := by
 rcases g with ⟨kvs, k, e, ey, l, eH⟩ | ⟨kvs, k, b, e, ey, eb, l, eH⟩
 ·subst ey eH
  obtain ⟨z, hd, vs, rel, dd⟩ := dk_of I.hok e
  have hz : vs.length ≤ sizeLine := by rw [← rel.length]; exact z
  have hl : (putK kvs k v).length ≤ sizeLine := by have := length_putK kvs k v; omega
  refine wpAny_setItem_pairs (hsz := hz) (kV_is ry) dd fun h' dd' hs => h _ ?_
  have he : ∃ q, h'.get? a = some q := let ⟨q, _, _, hq, _⟩ := dd'; ⟨q, hq⟩
  exact d_write I (by rw [e]; exact True.intro) hs he (dk_new hl hd (rel.put k rv) dd')
 ·subst ey eH
  cases (show u = Value.ref b from ry)
  obtain ⟨z, hd, xs, rel, dd⟩ := dt_of I.hok e
  have hz : xs.length ≤ sizeLine := by rw [← Paired.length rel]; exact z
  have hl : (putK kvs k v).length ≤ sizeLine := by have := length_putK kvs k v; omega
  refine wpAny_setItem_heap (hsz := hz) (tupleKind_room_in1 hu) (key_of I.hok eb) dd fun h' dd' hs => h _ ?_
  obtain ⟨q, es, ep, hq, h2, h3, h4, _, h5⟩ := dd'
  refine d_write I (by rw [e]; exact True.intro) hs ⟨q, hq⟩ ⟨hl, hd, _, (rel.put k eb rv).keeps fun c ys ec => ?_, q, es, ep, hq, h2, h3, h4, h5⟩
  rw [upd_ne (ne_of ec e (fun z => nomatch z))]
  exact ec
end
section
variable {X : Cx} {pins : List (Addr × Obj)} {σ : St} {H : Hp} {s : Shared} {a : Addr} {kvs : List (Key × V)} {k : Key} {u : Value} {A : Around} {E : Value → Shared → Prop}
end
def NoSl (i : Expr) : Prop := ∀ ov iv, subscripted i false ov iv = operate [ov, iv] (getItem ov iv)
theorem subD_of {prog : Program} {w : World} {A : Around} {E : Value → Shared → Prop} {s : Shared} {env : Env} {value slice : Expr} {pos : Pos} {T id : String} {Q : Value → Shared → Prop}
  (hl : typeLookup (.type T) "__getitem__" = pure (some (.builtin id))) (hs : NoSl slice)
  (h : wpAny (model prog w) A (eval value env) (fun o s₁ => wpAny (model prog w) A (eval slice env) (fun i s₂ => s₂.TypeIs o T ∧ wpAny (model prog w) A (getItem o i) Q E s₂) E s₁) E s) :
  wpAny (model prog w) A (eval (.Subscript value slice pos) env) Q E s := by
 refine Subscript_ (wpAny_mono h (fun o s₁ h₁ => wpAny_mono h₁ (fun i s₂ h₂ => ?_) fun _ _ x => x) fun _ _ x => x)
 obtain ⟨hT, h₂⟩ := h₂
 unfold subscriptTail
 refine wpAny_bind ?_
 rw [getitemInPython_of_ne hT.not_modules]
 refine wpAny_bind (wpAny_specialOf hT hl ?_)
 have fin : wpAny (model prog w) A (subscripted slice false o i) (fun r s₃ => wpAny (model prog w) A (letTemporaryGo value o r >>= fun _ => pure r) Q E s₃) E s₂ := by
  rw [hs o i]
  exact wpAny_operating (wpAny_mono h₂ (fun r s₃ h₃ => wpAny_bind (wpAny_letTemporaryGo (wpAny_pure h₃))) fun _ _ x => x)
 first
  | exact wpAny_pure (wpAny_bind fin)
  | exact wpAny_bind (wpAny_pure (wpAny_bind fin))
  | exact wpAny_bind fin
theorem dict_typeIs {X : Cx} {pins : List (Addr × Obj)} {σ : St} {H : Hp} {s : Shared} {a : Addr} {y : V} {o : Option V} (I : Inv X pins σ H s) (g : DGet H a y o) : s.TypeIs (.ref a) "dict" := by
 rcases g with ⟨kvs, k, e, _, _⟩ | ⟨kvs, k, b, e, _, _, _⟩
 ·obtain ⟨_, _, vs, _, dd⟩ := dk_rd I.hok e
  exact dd.typeIs
 ·obtain ⟨_, _, xs, _, dd⟩ := dt_rd I.hok e
  exact dd.typeIs
def tDGet (td ty : TE) : TE := fun σ H Q => td σ H fun x H1 => ty σ H1 fun y H2 => ∃ a v, x = .ref a ∧ DGet H2 a y (some v) ∧ Q v H2
def tDNotIn (ty td : TE) : TE := fun σ H Q => ty σ H fun y H1 => td σ H1 fun x H2 => ∃ a o, x = .ref a ∧ DGet H2 a y o ∧ Q (.bl (!o.isSome)) H2
def sDPut (td ty tv : TE) : TS := fun D σ H => tv σ H fun v H1 => td σ H1 fun x H2 => ty σ H2 fun y H3 => ∃ a H4, x = .ref a ∧ DPut H3 a y v H4 ∧ D.nx σ H4
section
variable {X : Cx} {o i e value : Expr} {pos pos' tpos : Pos} {td ty tv : TE}
theorem pe_dget (hu : X.A.units + 1 < cLine) (ho : PE X o td) (hi : PE X i ty) (hs : NoSl i) : PE X (.Subscript o i pos) (tDGet td ty) := by
 intro pins s σ H Q I h
 refine subD_of PySem.F.slot_dict_getitem.lookup hs (thn (ho pins s σ H _ I h) fun u s1 ⟨x, H1, I1, rx, q1⟩ => thn (hi pins s1 σ H1 _ I1 q1) fun iv s2 ⟨y, H2, I2, ry, a, v, ex, g, q2⟩ => ?_)
 subst ex
 obtain rfl : u = Value.ref a := rx
 exact ⟨dict_typeIs I2 g, d_getItem hu I2 g ry fun w' s3 I3 rw' => ⟨v, H2, I3, rw', q2⟩⟩
theorem pc_dnotin (hu : X.A.units + 1 < cLine) (hi : PE X i ty) (ho : PE X o td) : PC X .NotIn i o (tDNotIn ty td) := by
 intro pins s σ H Q I h
 refine thn (hi pins s σ H _ I h) fun iv s1 ⟨y, H1, I1, ry, q1⟩ => thn (ho pins s1 σ H1 _ I1 q1) fun u s2 ⟨x, H2, I2, rx, a, ov, ex, g, q2⟩ => ?_
 subst ex
 obtain rfl : u = Value.ref a := rx
 exact d_notIn hu I2 g ry fun s3 I3 => ⟨.bl (!ov.isSome), H2, I3, rfl, q2⟩
theorem ps_dput (hu : X.A.units + 1 < cLine) (ho : PE X o td) (hi : PE X i ty) (hv : PE X value tv) (hs : swapsWith value (some (.Subscript o i pos')) pos.line X.env = pure false) :
  PS X (.Assign [.Subscript o i pos'] value pos) (sDPut td ty tv) := by
 intro pins s σ H D I h
 refine wpAny_Assign_Subscript (thn (hv pins s σ H _ I h) fun r s1 ⟨v, H1, I1, rv, q1⟩ => thn (ho pins s1 σ H1 _ I1 q1) fun u s2 ⟨x, H2, I2, rx, q2⟩ => thn (hi pins s2 σ H2 _ I2 q2) fun iv s3 ⟨y, H3, I3, ry, a, H4, ex, g, q3⟩ => ?_) hs
 subst ex
 obtain rfl : u = Value.ref a := rx
 exact d_setItem hu I3 g ry rv fun s4 I4 => ⟨σ, H4, I4, q3⟩
end
theorem dt_empty {P : Program} {w : World} {H : Hp} (h : Heap) (hb : sysModules < h.objs.size) : ObjOk P w H (h.push { cls := .type "dict", data := .dict #[] }) h.objs.size (.dT []) :=
 ⟨Nat.zero_le _, beq_eq_false_iff_ne.mpr (Ne.symm (Nat.ne_of_lt hb)), [], .nil, _, #[], 0, Heap.get?_push_size _ rfl, ⟨rfl, rfl, rfl⟩, rfl, rfl, List.nodup_nil⟩
section
variable {X : Cx} {pos : Pos}
end
def tPairs : List (TE × TE) → St → Hp → (List (V × V) → Hp → Prop) → Prop
 | [], _, H, Q => Q [] H
 | (tk, tv) :: r, σ, H, Q => tk σ H fun x H1 => tv σ H1 fun y H2 => tPairs r σ H2 fun ps H3 => Q ((x, y) :: ps) H3
abbrev VV : List (V × V) → List (Value × Value) → Prop := Paired fun p q => RelV p.1 q.1 ∧ RelV p.2 q.2
def PPs (X : Cx) (pos : Pos) (keys : List (Option Expr)) (values : List Expr) (trs : List (TE × TE)) : Prop :=
 ∀ (pins : List (Addr × Obj)) (s : Shared) (σ : St) (H : Hp) (Q : List (V × V) → Hp → Prop), Inv X pins σ H s → tPairs trs σ H Q →
  wpAny (model X.prog X.w) X.A (evalPairs (pairTrees keys values X.env pos)) (fun vs s' => ∃ ps H', Inv X pins σ H' s' ∧ VV ps vs ∧ Q ps H') X.xe s
theorem pps_nil {X : Cx} {pos : Pos} : PPs X pos [] [] [] := fun pins s σ H Q I h => pairTrees_nil_walk ⟨[], H, I, .nil, h⟩
theorem pps_cons {X : Cx} {pos : Pos} {k v : Expr} {ks : List (Option Expr)} {vs : List Expr} {tk tv : TE} {trs : List (TE × TE)} (hk : PE X k tk) (hv : PE X v tv) (hr : PPs X pos ks vs trs) :
  PPs X pos (some k :: ks) (v :: vs) ((tk, tv) :: trs) := fun pins s σ H Q I h =>
 pairTrees_cons_walk (thn (hk pins s σ H _ I h) fun u s1 ⟨x, H1, I1, rx, q1⟩ => thn (hv pins s1 σ H1 _ I1 q1) fun w2 s2 ⟨y, H2, I2, ry, q2⟩ =>
  thn (hr pins s2 σ H2 _ I2 q2) fun ws s3 ⟨ps, H3, I3, rel, q3⟩ => ⟨(x, y) :: ps, H3, I3, .cons ⟨rx, ry⟩ rel, q3⟩)
section
variable {X : Cx} {pins : List (Addr × Obj)} {σ : St} {H : Hp} {s : Shared} {a : Addr} {y d : V} {u r : Value} {o : Option V} {A : Around} {E : Value → Shared → Prop}
end
section
variable {X : Cx} {o e f : Expr} {apos cpos : Pos} {td ty tx : TE}
end
section
variable {X : Cx} {pins : List (Addr × Obj)} {σ : St} {H : Hp} {s : Shared} {a : Addr} {kvs : List (Key × V)} {A : Around} {E : Value → Shared → Prop}
end
section
variable {X : Cx} {pins : List (Addr × Obj)} {σ : St} {H : Hp} {s : Shared} {a : Addr} {y : V} {u : Value} {A : Around} {E : Value → Shared → Prop}
end
end L2
set_option Elab.async false
set_option linter.all false
set_option maxRecDepth 100000
set_option maxHeartbeats 4000000
namespace L2
open PySem PySem.Spec PyProof.Rows
section
variable {X : Cx} {tg : Expr}
end
theorem shp2 (x y : Int) : SeqAt.shaped (.tuple [.int x, .int y]) = true := by rfl
theorem eqv2 (x y x' y' : Int) : PyData.eqv (.tuple [.int x, .int y]) (.tuple [.int x', .int y']) = decide ((x, y) = (x', y')) := by
 simp only [PyData.eqv, PyData.eqvAll]
 by_cases h1 : x = x' <;> by_cases h2 : y = y' <;> simp [h1, h2]
theorem rep2 {H : Hp} {a : Addr} {x y : Int} (h : H a = some (.tup [.int x, .int y])) : Rep H (.tuple [.int x, .int y]) (.ref a) := by
 simp only [Rep, RepL]
 exact ⟨a, _, rfl, h, _, _, rfl, rfl, _, _, rfl, rfl, rfl⟩
theorem rd_neP {H : Hp} {Q : VK} {a b : Addr} {x y x' y' : Int} (ha : H a = some (.tup [.int x, .int y])) (hb : H b = some (.tup [.int x', .int y'])) (q : Q (.bl (!decide ((x, y) = (x', y')))) H) : rEqD true (.ref a) (.ref b) H Q :=
 ⟨_, _, rep2 ha, rep2 hb, shp2 _ _, shp2 _ _, by rw [if_pos rfl, eqv2]; exact q⟩
theorem rd_dput {td ty tv : TE} {D : Ends} {σ : St} {H : Hp} (h : tv σ H fun v H1 => td σ H1 fun x H2 => ty σ H2 fun y H3 => ∃ a H4, x = .ref a ∧ DPut H3 a y v H4 ∧ D.nx σ H4) : sDPut td ty tv D σ H := h
theorem rd_dnotin {ty td : TE} {σ : St} {H : Hp} {Q : VK} (h : ty σ H fun y H1 => td σ H1 fun x H2 => ∃ a o, x = .ref a ∧ DGet H2 a y o ∧ Q (.bl (!o.isSome)) H2) : tDNotIn ty td σ H Q := h
end L2
set_option Elab.async false
set_option linter.all false
set_option maxRecDepth 100000
namespace L2
open PySem PySem.Spec PyProof.Rows
section
variable {X : Cx} {pins : List (Addr × Obj)} {σ : St} {H : Hp} {s : Shared} {fp : List Addr} {scope : Scope} {N : List Str} {cap : List (Option Nat)}
end
section
variable {X : Cx} {elt tg iter : Expr} {ifs : List Expr} {scope : Scope} {pos : Pos} {N : List Str} {cap : List (Option Nat)} {wi : TI} {g : TG} {tt : TT} {te : TE}
end
end L2
set_option Elab.async false
set_option linter.all false
set_option maxRecDepth 100000
set_option maxHeartbeats 4000000
namespace L2
open PySem PySem.Spec PyProof.Rows
section
variable {prog : Program} {w : World} {A : Around} {E : Value → Shared → Prop} {s : Shared} {R : Result → Shared → Prop} {I : Addr} {fp wr : List Addr} {G : Array GenState → Array GenState → Prop} {n : Nat} {P : Nat → Value → Prop} {St : Nat → Shared → Prop}
end
section
variable {X : Cx}
end
end L2
set_option Elab.async false
set_option linter.all false
set_option maxHeartbeats 1000000
namespace NR
def sm : Nat → (Nat → Int) → Int
 | 0, _ => 0
 | n + 1, f => sm n f + f n
def ib (p : Prop) [Decidable p] : Int := if p then 1 else 0
section
variable {n : Nat} {e d : Int → Int} {X Y : Nat → Int}
def s1 (X Y : Nat → Int) (i k : Nat) : Int := ib (Y (i + 1) < Y (k + 1) ∨ (Y (i + 1) = Y (k + 1) ∧ X (i + 1) < X (k + 1)))
def s2 (X Y : Nat → Int) (i k : Nat) : Int := ib (Y i < Y k ∨ (Y i = Y k ∧ X (i + 1) < X (k + 1)))
def Up (d : Int → Int) (X : Nat → Int) (i : Nat) : Prop := d (X (i + 1)) = 1
instance (d : Int → Int) (X : Nat → Int) (i : Nat) : Decidable (Up d X i) := inferInstanceAs (Decidable (_ = _))
end
end NR
set_option linter.all false
set_option Elab.async false
set_option maxHeartbeats 4000000
namespace Ts
open PySem PyProof.Rows
def gallop' : Bool → Keyed → Array Keyed → Nat → Nat → Nat → StateT SortSt Sem (Option Nat) := sortPriv% PySem.Builtin.gallop
def mergeLo' : Array Keyed → Array Keyed → StateT SortSt Sem (Array Keyed) := sortPriv% PySem.Builtin.mergeLo
def mergeHi' : Array Keyed → Array Keyed → StateT SortSt Sem (Array Keyed) := sortPriv% PySem.Builtin.mergeHi
structure Less (lt : Keyed → Keyed → Bool) : Prop where
 asym : ∀ {x y}, lt x y = true → lt y x = false
 tr : ∀ {x y z}, lt y x = false → lt z y = false → lt z x = false
def Le (lt : Keyed → Keyed → Bool) (x y : Keyed) : Prop := lt y x = false
theorem Less.le_refl {lt : Keyed → Keyed → Bool} (L : Less lt) (x : Keyed) : Le lt x x := by
 unfold Le
 cases h : lt x x with
 | false => rfl
 | true => rw [L.asym h] at h; cases h
theorem Less.of_lt {lt : Keyed → Keyed → Bool} (L : Less lt) {x y : Keyed} (h : lt x y = true) : Le lt x y := L.asym h
theorem Less.trans {lt : Keyed → Keyed → Bool} (L : Less lt) {x y z : Keyed} (h : Le lt x y) (h' : Le lt y z) : Le lt x z := L.tr h h'
section
variable {M : Model} {A : Around} {E : Value → Shared → Prop} {s : Shared}
def Asks (M : Model) (A : Around) (E : Value → Shared → Prop) (s : Shared) (κ : SortKind) (S : Keyed → Prop) (lt : Keyed → Keyed → Bool) : Prop :=
 ∀ (x y : Keyed) (st : SortSt) (Q : Option Bool → SortSt → Prop), S x → S y → kindOf st = κ → Q (some (lt x y)) st → wpS M A E s (lt' x y) Q st
theorem wpS_elem {arr : Array Keyed} {i : Nat} {x : Keyed} {Q : Keyed → SortSt → Prop} {st : SortSt} (h : arr[i]? = some x) (q : Q x st) : wpS M A E s (elem' arr i) Q st := by
 rw [elem'_eq, h]
 exact wpS_pure q
structure Cut (b : Nat → Bool) (n k : Nat) : Prop where
 le : k ≤ n
 yes : ∀ i, i < k → b i = true
 no : ∀ i, k ≤ i → i < n → b i = false
theorem wpS_gallop {κ : SortKind} {S : Keyed → Prop} {lt : Keyed → Keyed → Bool} (H : Asks M A E s κ S lt) {left : Bool} {key : Keyed} {arr : Array Keyed} {b n hint : Nat} {Q : Option Nat → SortSt → Prop} {st : SortSt} {at_ : Nat → Keyed}
    (hk : kindOf st = κ) (sk : S key) (ha : ∀ i, i < n → arr[b + i]? = some (at_ i) ∧ S (at_ i)) (hh : hint < n)
    (anti : ∀ i j, i ≤ j → j < n → (if left then lt (at_ j) key else !lt key (at_ j)) = true → (if left then lt (at_ i) key else !lt key (at_ i)) = true)
    (h : ∀ k, Cut (fun i => if left then lt (at_ i) key else !lt key (at_ i)) n k → Q (some k) st) : wpS M A E s (gallop' left key arr b n hint) Q st := by
  unfold gallop'
  have bey : ∀ (i : Nat) (Q : Option Bool → SortSt → Prop), i < n → Q (some (if left then lt (at_ i) key else !lt key (at_ i))) st → wpS M A E s (do
      let x ← elem' arr (b + i)
      if left then lt' x key else return (← lt' key x).map (!·)) Q st := by
    intro i Q hi q
    refine wpS_bind (wpS_elem (ha i hi).1 ?_)
    cases left with
    | true => exact H _ _ _ _ (ha i hi).2 sk hk q
    | false => exact wpS_bind (H _ _ _ _ sk (ha i hi).2 hk (wpS_pure q))
  generalize hB : (fun i => if left then lt (at_ i) key else !lt key (at_ i)) = B at h
  have hB' : ∀ i, (if left then lt (at_ i) key else !lt key (at_ i)) = B i := fun i => by rw [← hB]
  simp only [hB'] at bey anti
  refine wpS_bind (bey hint _ hh ?_)
  dsimp only
  by_cases hr : B hint = true
  · rw [if_pos hr]
    refine wpS_bind (wpS_mono (wpS_forRange (I := fun x (c : Option (Option Nat) × Nat × Nat) st' => st = st' ∧ c.1 = none ∧ x + 1 ≤ c.2.2 ∧ c.2.1 < c.2.2 ∧ c.2.1 < n - hint ∧ B (hint + c.2.1) = true)
      (Q := fun (c : Option (Option Nat) × Nat × Nat) st' => st = st' ∧ c.1 = none ∧ c.2.1 < c.2.2 ∧ c.2.1 < n - hint ∧ B (hint + c.2.1) = true ∧ (c.2.2 < n - hint → B (hint + c.2.2) = false)) ?step ?fin ⟨rfl, rfl, Nat.le_refl _, Nat.zero_lt_one, by show 0 < n - hint; omega, hr⟩) ?post)
    case fin =>
      rintro ⟨c1, l, o⟩ st' ⟨rfl, e, h1, h2, h3, h4⟩
      dsimp only at e h1 h2 h3 h4 ⊢
      exact ⟨rfl, e, h2, h3, h4, fun z => by omega⟩
    case step =>
      rintro x ⟨c1, l, o⟩ st' _ hx ⟨rfl, e, h1, h2, h3, h4⟩
      dsimp only at e h1 h2 h3 h4 ⊢
      by_cases ho : o ≥ n - hint
      · rw [if_pos ho]
        exact wpS_pure ⟨rfl, rfl, h2, h3, h4, fun z => by dsimp only at z; omega⟩
      · rw [if_neg ho]
        refine wpS_bind (bey _ _ (by omega) ?_)
        dsimp only
        cases hb : B (hint + o) with
        | false => exact wpS_pure ⟨rfl, rfl, h2, h3, h4, fun _ => hb⟩
        | true => exact wpS_pure ⟨rfl, rfl, by show x + 1 + 1 ≤ 2 * o + 1; omega, by show o < 2 * o + 1; omega, by show o < n - hint; omega, hb⟩
    case post =>
      rintro ⟨c1, l, o⟩ st' ⟨rfl, e, h2, h3, h4, h5⟩
      dsimp only at e h2 h3 h4 h5 ⊢
      subst e
      dsimp only
      refine wpS_bind (wpS_mono (wpS_forRange (I := fun x (c : Option (Option Nat) × Nat × Nat) st' => st = st' ∧ c.1 = none ∧ c.2.1 ≤ c.2.2 ∧ c.2.2 ≤ n ∧ c.2.2 - c.2.1 + x ≤ n ∧ (∀ i, i < c.2.1 → B i = true) ∧ (∀ i, c.2.2 ≤ i → i < n → B i = false))
        (Q := fun (c : Option (Option Nat) × Nat × Nat) st' => st = st' ∧ c.1 = none ∧ c.2.1 = c.2.2 ∧ c.2.2 ≤ n ∧ (∀ i, i < c.2.1 → B i = true) ∧ (∀ i, c.2.2 ≤ i → i < n → B i = false)) ?step ?fin ?init) ?post)
      case init =>
        refine ⟨rfl, rfl, by dsimp only; omega, by dsimp only; omega, by dsimp only; omega, fun i hi => ?_, fun i hi hn => ?_⟩
        · dsimp only at hi
          exact anti i (hint + l) (by omega) (by omega) h4
        · dsimp only at hi
          have h6 := h5 (by omega)
          cases hb : B i with
          | false => rfl
          | true => rw [anti (hint + o) i (by omega) hn hb] at h6; cases h6
      case fin =>
        rintro ⟨c1, lo, hi⟩ st' ⟨rfl, e, h1, h2, h3, h4, h5⟩
        dsimp only at e h1 h2 h3 h4 h5 ⊢
        exact ⟨rfl, e, by omega, h2, h4, h5⟩
      case step =>
        rintro x ⟨c1, lo, hi⟩ st' _ hx ⟨rfl, e, h1, h2, h3, h4, h5⟩
        dsimp only at e h1 h2 h3 h4 h5 ⊢
        by_cases hd : lo ≥ hi
        · rw [if_pos hd]
          exact wpS_pure ⟨rfl, rfl, by show lo = hi; omega, h2, h4, h5⟩
        · rw [if_neg hd]
          refine wpS_bind (bey _ _ (by omega) ?_)
          dsimp only
          cases hb : B (lo + (hi - lo) / 2) with
          | true =>
            refine wpS_pure ⟨rfl, rfl, by show lo + (hi - lo) / 2 + 1 ≤ hi; omega, h2, by show hi - (lo + (hi - lo) / 2 + 1) + (x + 1) ≤ n; omega, fun i hi' => ?_, h5⟩
            dsimp only at hi'
            exact anti i _ (by omega) (by omega) hb
          | false =>
            refine wpS_pure ⟨rfl, rfl, by show lo ≤ lo + (hi - lo) / 2; omega, by show lo + (hi - lo) / 2 ≤ n; omega, by show lo + (hi - lo) / 2 - lo + (x + 1) ≤ n; omega, h4, fun i hi' hn => ?_⟩
            dsimp only at hi'
            cases hb2 : B i with
            | false => rfl
            | true => rw [anti _ i (by omega) hn hb2] at hb; cases hb
      case post =>
        rintro ⟨c1, lo, hi⟩ st' ⟨rfl, e, h1, h2, h4, h5⟩
        dsimp only at e h1 h2 h4 h5 ⊢
        subst e h1
        exact wpS_pure (h _ ⟨h2, h4, h5⟩)
  · rw [if_neg hr]
    have hr' : B hint = false := by simpa using hr
    refine wpS_bind (wpS_mono (wpS_forRange (I := fun x (c : Option (Option Nat) × Nat × Nat) st' => st = st' ∧ c.1 = none ∧ x + 1 ≤ c.2.2 ∧ c.2.1 < c.2.2 ∧ c.2.1 ≤ hint ∧ B (hint - c.2.1) = false)
      (Q := fun (c : Option (Option Nat) × Nat × Nat) st' => st = st' ∧ c.1 = none ∧ c.2.1 < c.2.2 ∧ c.2.1 ≤ hint ∧ B (hint - c.2.1) = false ∧ (c.2.2 ≤ hint → B (hint - c.2.2) = true)) ?step ?fin ⟨rfl, rfl, Nat.le_refl _, Nat.zero_lt_one, by show 0 ≤ hint; omega, hr'⟩) ?post)
    case fin =>
      rintro ⟨c1, l, o⟩ st' ⟨rfl, e, h1, h2, h3, h4⟩
      dsimp only at e h1 h2 h3 h4 ⊢
      exact ⟨rfl, e, h2, h3, h4, fun z => by omega⟩
    case step =>
      rintro x ⟨c1, l, o⟩ st' _ hx ⟨rfl, e, h1, h2, h3, h4⟩
      dsimp only at e h1 h2 h3 h4 ⊢
      by_cases ho : o ≥ hint + 1
      · rw [if_pos ho]
        exact wpS_pure ⟨rfl, rfl, h2, h3, h4, fun z => by dsimp only at z; omega⟩
      · rw [if_neg ho]
        refine wpS_bind (bey _ _ (by omega) ?_)
        dsimp only
        cases hb : B (hint - o) with
        | true => exact wpS_pure ⟨rfl, rfl, h2, h3, h4, fun _ => hb⟩
        | false => exact wpS_pure ⟨rfl, rfl, by show x + 1 + 1 ≤ 2 * o + 1; omega, by show o < 2 * o + 1; omega, by show o ≤ hint; omega, hb⟩
    case post =>
      rintro ⟨c1, l, o⟩ st' ⟨rfl, e, h2, h3, h4, h5⟩
      dsimp only at e h2 h3 h4 h5 ⊢
      subst e
      dsimp only
      refine wpS_bind (wpS_mono (wpS_forRange (I := fun x (c : Option (Option Nat) × Nat × Nat) st' => st = st' ∧ c.1 = none ∧ c.2.1 ≤ c.2.2 ∧ c.2.2 ≤ n ∧ c.2.2 - c.2.1 + x ≤ n ∧ (∀ i, i < c.2.1 → B i = true) ∧ (∀ i, c.2.2 ≤ i → i < n → B i = false))
        (Q := fun (c : Option (Option Nat) × Nat × Nat) st' => st = st' ∧ c.1 = none ∧ c.2.1 = c.2.2 ∧ c.2.2 ≤ n ∧ (∀ i, i < c.2.1 → B i = true) ∧ (∀ i, c.2.2 ≤ i → i < n → B i = false)) ?step ?fin ?init) ?post)
      case init =>
        refine ⟨rfl, rfl, by dsimp only; omega, by dsimp only; omega, by dsimp only; omega, fun i hi => ?_, fun i hi hn => ?_⟩
        · dsimp only at hi
          have h6 := h5 (by omega)
          exact anti i (hint - o) (by omega) (by omega) h6
        · dsimp only at hi
          cases hb : B i with
          | false => rfl
          | true => rw [anti (hint - l) i (by omega) hn hb] at h4; cases h4
      case fin =>
        rintro ⟨c1, lo, hi⟩ st' ⟨rfl, e, h1, h2, h3, h4, h5⟩
        dsimp only at e h1 h2 h3 h4 h5 ⊢
        exact ⟨rfl, e, by omega, h2, h4, h5⟩
      case step =>
        rintro x ⟨c1, lo, hi⟩ st' _ hx ⟨rfl, e, h1, h2, h3, h4, h5⟩
        dsimp only at e h1 h2 h3 h4 h5 ⊢
        by_cases hd : lo ≥ hi
        · rw [if_pos hd]
          exact wpS_pure ⟨rfl, rfl, by show lo = hi; omega, h2, h4, h5⟩
        · rw [if_neg hd]
          refine wpS_bind (bey _ _ (by omega) ?_)
          dsimp only
          cases hb : B (lo + (hi - lo) / 2) with
          | true =>
            refine wpS_pure ⟨rfl, rfl, by show lo + (hi - lo) / 2 + 1 ≤ hi; omega, h2, by show hi - (lo + (hi - lo) / 2 + 1) + (x + 1) ≤ n; omega, fun i hi' => ?_, h5⟩
            dsimp only at hi'
            exact anti i _ (by omega) (by omega) hb
          | false =>
            refine wpS_pure ⟨rfl, rfl, by show lo ≤ lo + (hi - lo) / 2; omega, by show lo + (hi - lo) / 2 ≤ n; omega, by show lo + (hi - lo) / 2 - lo + (x + 1) ≤ n; omega, h4, fun i hi' hn => ?_⟩
            dsimp only at hi'
            cases hb2 : B i with
            | false => rfl
            | true => rw [anti _ i (by omega) hn hb2] at hb; cases hb
      case post =>
        rintro ⟨c1, lo, hi⟩ st' ⟨rfl, e, h1, h2, h4, h5⟩
        dsimp only at e h1 h2 h4 h5 ⊢
        subst e h1
        exact wpS_pure (h _ ⟨h2, h4, h5⟩)
end
end Ts
set_option linter.all false
set_option Elab.async false
set_option maxHeartbeats 4000000
namespace Ts
open PySem PyProof.Rows
section
variable {M : Model} {A : Around} {E : Value → Shared → Prop} {s : Shared}
theorem wpS_gal {κ : SortKind} {S : Keyed → Prop} {lt : Keyed → Keyed → Bool} (L : Less lt) (H : Asks M A E s κ S lt) {left : Bool} {key : Keyed} {arr : Array Keyed} {b n hint : Nat} {Q : Option Nat → SortSt → Prop} {st : SortSt}
  (hk : kindOf st = κ) (sk : S key) (hn : b + n ≤ arr.size) (hS : ∀ x ∈ (arr.toList.drop b).take n, S x) (hs : ((arr.toList.drop b).take n).Pairwise (Le lt)) (hh : hint < n)
  (h : ∀ k, k ≤ n → (∀ x ∈ (arr.toList.drop b).take k, Le lt x key) → (∀ x ∈ ((arr.toList.drop b).take n).drop k, Le lt key x) → Q (some k) st) : wpS M A E s (gallop' left key arr b n hint) Q st := by
 have hlen : ((arr.toList.drop b).take n).length = n := by rw [List.length_take, List.length_drop, Array.length_toList]; omega
 have hat : ∀ i, i < n → arr[b + i]? = ((arr.toList.drop b).take n)[i]? := by
  intro i hi
  rw [List.getElem?_take_of_lt hi, List.getElem?_drop, Array.getElem?_toList]
 generalize hX : (arr.toList.drop b).take n = X at hS hs hlen hat h
 have hat' : ∀ i (hi : i < n), X[i]? = some (X[i]?.getD key) := fun i hi => by rw [List.getElem?_eq_getElem (by omega)]; rfl
 have mono : ∀ i j, i ≤ j → j < n → Le lt (X[i]?.getD key) (X[j]?.getD key) := by
  intro i j hij hj
  rcases Nat.lt_or_eq_of_le hij with hlt | rfl
  ·have := (List.pairwise_iff_getElem.mp hs) i j (by omega) (by omega) hlt
   rw [List.getElem?_eq_getElem (by omega), List.getElem?_eq_getElem (by omega)]
   exact this
  ·exact L.le_refl _
 refine wpS_gallop H (at_ := fun i => X[i]?.getD key) hk sk (fun i hi => ⟨by rw [hat i hi]; exact hat' i hi, hS _ (List.mem_of_getElem? (hat' i hi))⟩) hh ?_ ?_
 ·intro i j hij hj
  cases left with
  | true =>
   show lt _ key = true → lt _ key = true
   intro z
   cases hb : lt (X[i]?.getD key) key with
   | true => rfl
   | false =>
    have : lt (X[j]?.getD key) key = false := L.trans hb (mono i j hij hj)
    rw [this] at z; cases z
  | false =>
   show (!lt key _) = true → (!lt key _) = true
   intro z
   have z : lt key (X[j]?.getD key) = false := by simpa using z
   have : lt key (X[i]?.getD key) = false := L.trans (mono i j hij hj) z
   rw [this]; rfl
 ·intro k c
  refine h k c.le (fun x hx => ?_) (fun x hx => ?_)
  ·obtain ⟨i, hi⟩ := List.mem_iff_getElem?.mp hx
   have hik : i < k := by
    have := (List.getElem?_eq_some_iff.mp hi).1
    rw [List.length_take] at this; omega
   have e : X[i]? = some x := by rw [← hX, List.getElem?_take_of_lt (by have := c.le; omega), ← hi, List.getElem?_take_of_lt hik]
   have := c.yes i hik
   cases left with
   | true =>
    have this : lt (X[i]?.getD key) key = true := this
    rw [e] at this
    exact L.asym this
   | false =>
    have this : (!lt key (X[i]?.getD key)) = true := this
    rw [e] at this
    show lt key x = false
    simpa using this
  ·obtain ⟨i, hi⟩ := List.mem_iff_getElem?.mp hx
   rw [List.getElem?_drop] at hi
   have hin : k + i < n := by rw [← hlen]; exact (List.getElem?_eq_some_iff.mp hi).1
   have := c.no (k + i) (by omega) hin
   cases left with
   | true =>
    have this : lt (X[k + i]?.getD key) key = false := this
    rw [hi] at this
    exact this
   | false =>
    have this : (!lt key (X[k + i]?.getD key)) = false := this
    rw [hi] at this
    exact L.asym (by simpa using this)
end
structure Mg (lt : Keyed → Keyed → Bool) (a b out : List Keyed) (ia ib : Nat) : Prop where
 perm : (out ++ (a.drop ia ++ b.drop ib)).Perm (a ++ b)
 srt : out.Pairwise (Le lt)
 le_ : ∀ x ∈ out, ∀ y ∈ a.drop ia ++ b.drop ib, Le lt x y
def Res (lt : Keyed → Keyed → Bool) (a b r : List Keyed) : Prop := r.Perm (a ++ b) ∧ r.Pairwise (Le lt)
theorem Mg.a {lt : Keyed → Keyed → Bool} {a b out : List Keyed} {ia ib : Nat} (m : Mg lt a b out ia ib) (hA : a.Pairwise (Le lt)) (k : Nat) (h : ∀ x ∈ (a.drop ia).take k, ∀ y ∈ b.drop ib, Le lt x y) :
  Mg lt a b (out ++ (a.drop ia).take k) (ia + k) ib := by
 have e : a.drop ia = (a.drop ia).take k ++ a.drop (ia + k) := by rw [← List.drop_drop, List.take_append_drop]
 have hA' := List.Pairwise.sublist (List.drop_sublist ia a) hA
 rw [e, List.pairwise_append] at hA'
 refine ⟨?_, ?_, ?_⟩
 ·have := m.perm
  rw [e] at this
  rw [List.append_assoc]
  rw [List.append_assoc] at this
  exact this
 ·rw [List.pairwise_append]
  refine ⟨m.srt, hA'.1, fun x hx y hy => m.le_ x hx y (List.mem_append_left _ (List.mem_of_mem_take hy))⟩
 ·intro x hx y hy
  rcases List.mem_append.mp hx with hx | hx
  ·refine m.le_ x hx y ?_
   rcases List.mem_append.mp hy with hy | hy
   ·exact List.mem_append_left _ (by rw [e]; exact List.mem_append_right _ hy)
   ·exact List.mem_append_right _ hy
  ·rcases List.mem_append.mp hy with hy | hy
   ·exact hA'.2.2 x hx y hy
   ·exact h x hx y hy
theorem Mg.b {lt : Keyed → Keyed → Bool} {a b out : List Keyed} {ia ib : Nat} (m : Mg lt a b out ia ib) (hB : b.Pairwise (Le lt)) (k : Nat) (h : ∀ x ∈ (b.drop ib).take k, ∀ y ∈ a.drop ia, Le lt x y) :
  Mg lt a b (out ++ (b.drop ib).take k) ia (ib + k) := by
 have e : b.drop ib = (b.drop ib).take k ++ b.drop (ib + k) := by rw [← List.drop_drop, List.take_append_drop]
 have hB' := List.Pairwise.sublist (List.drop_sublist ib b) hB
 rw [e, List.pairwise_append] at hB'
 refine ⟨?_, ?_, ?_⟩
 ·have := m.perm
  refine List.Perm.trans ?_ this
  rw [List.append_assoc]
  refine List.Perm.append_left _ ?_
  refine (List.perm_append_comm_assoc _ _ _).trans ?_
  rw [← e]
 ·rw [List.pairwise_append]
  refine ⟨m.srt, hB'.1, fun x hx y hy => m.le_ x hx y (List.mem_append_right _ (List.mem_of_mem_take hy))⟩
 ·intro x hx y hy
  rcases List.mem_append.mp hx with hx | hx
  ·refine m.le_ x hx y ?_
   rcases List.mem_append.mp hy with hy | hy
   ·exact List.mem_append_left _ hy
   ·exact List.mem_append_right _ (by rw [e]; exact List.mem_append_right _ hy)
  ·rcases List.mem_append.mp hy with hy | hy
   ·exact h x hx y hy
   ·exact hB'.2.2 x hx y hy
theorem Mg.endB {lt : Keyed → Keyed → Bool} {a b out : List Keyed} {ia ib : Nat} (m : Mg lt a b out ia ib) (hA : a.Pairwise (Le lt)) (h : b.length ≤ ib) : Res lt a b (out ++ a.drop ia ++ b.drop ib) := by
 have p := m.perm
 have q := m.le_
 rw [List.drop_of_length_le h, List.append_nil] at p q
 rw [List.drop_of_length_le h, List.append_nil]
 exact ⟨p, List.pairwise_append.mpr ⟨m.srt, List.Pairwise.sublist (List.drop_sublist _ _) hA, q⟩⟩
theorem Mg.endA {lt : Keyed → Keyed → Bool} {a b out : List Keyed} {ia ib : Nat} (m : Mg lt a b out ia ib) (hB : b.Pairwise (Le lt)) (h : a.length ≤ ia) : Res lt a b (out ++ a.drop ia ++ b.drop ib) := by
 have p := m.perm
 have q := m.le_
 rw [List.drop_of_length_le h, List.nil_append] at p q
 rw [List.drop_of_length_le h, List.append_nil]
 exact ⟨p, List.pairwise_append.mpr ⟨m.srt, List.Pairwise.sublist (List.drop_sublist _ _) hB, q⟩⟩
theorem Mg.last {lt : Keyed → Keyed → Bool} {a b out : List Keyed} {ia ib : Nat} (m : Mg lt a b out ia ib) (hA : a.Pairwise (Le lt)) (hB : b.Pairwise (Le lt)) (h : ∀ y ∈ b.drop ib, ∀ x ∈ a.drop ia, Le lt y x) : Res lt a b (out ++ b.drop ib ++ a.drop ia) := by
 refine ⟨?_, ?_⟩
 ·rw [List.append_assoc]
  exact (List.Perm.append_left _ List.perm_append_comm).trans m.perm
 ·rw [List.append_assoc, List.pairwise_append, List.pairwise_append]
  refine ⟨m.srt, ⟨List.Pairwise.sublist (List.drop_sublist _ _) hB, List.Pairwise.sublist (List.drop_sublist _ _) hA, h⟩, fun x hx y hy => m.le_ x hx y ?_⟩
  rcases List.mem_append.mp hy with hy | hy
  ·exact List.mem_append_right _ hy
  ·exact List.mem_append_left _ hy
structure Sim (st st' : SortSt) : Prop where
 kind : kindOf st' = kindOf st
 arr : arrOf st' = arrOf st
 pend : pendingOf st' = pendingOf st
 failed : failedOf st' = failedOf st
theorem Sim.refl (st : SortSt) : Sim st st := ⟨rfl, rfl, rfl, rfl⟩
theorem Sim.trans {a b c : SortSt} (x : Sim a b) (y : Sim b c) : Sim a c := ⟨y.kind.trans x.kind, y.arr.trans x.arr, y.pend.trans x.pend, y.failed.trans x.failed⟩
theorem drop_at {l : List Keyed} {i : Nat} (h : i < l.length) : (l.drop i).take 1 = [l[i]] := by
 rw [List.drop_eq_getElem_cons h, List.take_succ_cons, List.take_zero]
theorem ext_toList (a : Array Keyed) (i k : Nat) (h : i + k ≤ a.size) : (a.extract i (i + k)).toList = (a.toList.drop i).take k := by
 rw [Array.toList_extract, List.extract_eq_drop_take]
 congr 1
 omega
theorem ext_end (a : Array Keyed) (i : Nat) : (a.extract i a.size).toList = a.toList.drop i := by
 rw [Array.toList_extract, List.extract_eq_drop_take, List.take_of_length_le]
 rw [List.length_drop, Array.length_toList]; omega
end Ts
set_option linter.all false
set_option Elab.async false
set_option maxHeartbeats 4000000
namespace Ts
open PySem PyProof.Rows
theorem head_le {lt : Keyed → Keyed → Bool} (L : Less lt) {l : List Keyed} (hl : l.Pairwise (Le lt)) {i : Nat} (h : i < l.length) {x : Keyed} (hx : Le lt x l[i]) : ∀ y ∈ l.drop i, Le lt x y := by
 intro y hy
 have h2 := List.Pairwise.sublist (List.drop_sublist i l) hl
 rw [List.drop_eq_getElem_cons h] at h2 hy
 rcases List.mem_cons.mp hy with rfl | hy
 ·exact hx
 ·exact L.trans hx ((List.pairwise_cons.mp h2).1 y hy)
theorem Mg.pushA {lt : Keyed → Keyed → Bool} (L : Less lt) {a b out : List Keyed} {ia ib : Nat} (m : Mg lt a b out ia ib) (hA : a.Pairwise (Le lt)) (h : ia < a.length) (hle : ∀ y ∈ b.drop ib, Le lt a[ia] y) : Mg lt a b (out ++ [a[ia]]) (ia + 1) ib := by
 have := m.a hA 1 (by
  intro x hx y hy
  rw [drop_at h] at hx
  rw [List.mem_singleton.mp hx]
  exact hle y hy)
 rw [drop_at h] at this
 exact this
theorem Mg.pushB {lt : Keyed → Keyed → Bool} (L : Less lt) {a b out : List Keyed} {ia ib : Nat} (m : Mg lt a b out ia ib) (hB : b.Pairwise (Le lt)) (h : ib < b.length) (hle : ∀ y ∈ a.drop ia, Le lt b[ib] y) : Mg lt a b (out ++ [b[ib]]) ia (ib + 1) := by
 have := m.b hB 1 (by
  intro x hx y hy
  rw [drop_at h] at hx
  rw [List.mem_singleton.mp hx]
  exact hle y hy)
 rw [drop_at h] at this
 exact this
abbrev CS1 := Option (Array Keyed) × Array Keyed × Nat × Nat × Nat
abbrev CS2 := Option (Array Keyed) × Array Keyed × Nat × Nat × Nat × Nat
abbrev CS3 := Option (Array Keyed) × Array Keyed × Nat × Nat × Nat × Nat × Nat
section
variable {M : Model} {A : Around} {E : Value → Shared → Prop} {s : Shared}
theorem wpS_mergeLo {κ : SortKind} {S : Keyed → Prop} {lt : Keyed → Keyed → Bool} (L : Less lt) (H : Asks M A E s κ S lt) {a b : Array Keyed} {Q : Array Keyed → SortSt → Prop} {st : SortSt} (hk : kindOf st = κ)
  (hA : a.toList.Pairwise (Le lt)) (hB : b.toList.Pairwise (Le lt)) (sA : ∀ x ∈ a.toList, S x) (sB : ∀ x ∈ b.toList, S x) (na : 0 < a.size) (nb : 0 < b.size)
  (h0 : ∀ x ∈ a.toList, Le lt b[0] x) (hl : ∀ y ∈ b.toList, ∀ x ∈ a.toList.drop (a.size - 1), Le lt y x)
  (h : ∀ r st', Sim st st' → Res lt a.toList b.toList r.toList → Q r st') : wpS M A E s (mergeLo' a b) Q st := by
 have lA : a.toList.length = a.size := Array.length_toList
 have lB : b.toList.length = b.size := Array.length_toList
 have atA : ∀ i (hi : i < a.size), a[i]? = some a[i] := fun i hi => getElem?_pos a i hi
 have atB : ∀ i (hi : i < b.size), b[i]? = some b[i] := fun i hi => getElem?_pos b i hi
 have memA : ∀ i (hi : i < a.size), S a[i] := fun i hi => sA _ (Array.getElem_mem_toList hi)
 have memB : ∀ i (hi : i < b.size), S b[i] := fun i hi => sB _ (Array.getElem_mem_toList hi)
 have m0 : Mg lt a.toList b.toList [b[0]] 0 1 := by
  have := Mg.pushB L (lt := lt) (a := a.toList) (b := b.toList) (out := []) (ia := 0) (ib := 0) ⟨List.Perm.refl _, List.Pairwise.nil, fun x hx => nomatch hx⟩ hB (by omega) (fun y hy => h0 y hy)
  exact this
 have last : ∀ {out : List Keyed} {ia ib : Nat}, Mg lt a.toList b.toList out ia ib → ia + 1 = a.size → Res lt a.toList b.toList (out ++ b.toList.drop ib ++ a.toList.drop ia) := by
  intro out ia ib m e
  refine m.last hA hB fun y hy x hx => hl y (List.mem_of_mem_drop hy) x ?_
  rw [← e, Nat.add_sub_cancel]; exact hx
 unfold mergeLo'
 refine wpS_bind (wpS_lift (wpAny_rule ⟨rfl, ?_⟩))
 dsimp only
 refine wpS_bind (wpS_elem (atB 0 nb) ?_)
 by_cases c1 : (1 == b.size) = true
 ·rw [if_pos c1]
  refine wpS_pure (h _ _ (Sim.refl _) ?_)
  rw [Array.toList_append, Array.toList_append, ext_end, ext_end]
  exact m0.endB hA (by have := beq_iff_eq.mp c1; omega)
 rw [if_neg c1]
 have c1 : 1 ≠ b.size := fun e => c1 (beq_iff_eq.mpr e)
 by_cases c2 : (0 + 1 == a.size) = true
 ·rw [if_pos c2]
  refine wpS_pure (h _ _ (Sim.refl _) ?_)
  rw [Array.toList_append, Array.toList_append, ext_end, ext_end]
  exact last m0 (beq_iff_eq.mp c2)
 rw [if_neg c2]
 have c2 : 0 + 1 ≠ a.size := fun e => c2 (beq_iff_eq.mpr e)
 refine wpS_bind (wpS_get ?_)
 refine wpS_bind (wpS_mono (wpS_forRange
  (I := fun X (c : CS1) st' => Sim st st' ∧ c.1 = none ∧ Mg lt a.toList b.toList c.2.1.toList c.2.2.1 c.2.2.2.1 ∧ c.2.2.1 + 1 < a.size ∧ c.2.2.2.1 < b.size ∧ X + 1 ≤ c.2.2.1 + c.2.2.2.1)
  (Q := fun (c : CS1) st' => Sim st st' ∧ ∃ r, c.1 = some r ∧ Res lt a.toList b.toList r.toList) ?step ?fin ⟨Sim.refl _, rfl, m0, by show 0 + 1 < a.size; omega, by show 1 < b.size; omega, Nat.le_refl _⟩) ?post)
 case post =>
  rintro ⟨c, out, ia, ib, g⟩ st' ⟨sm, r, e, hr⟩
  dsimp only at e ⊢
  subst e
  exact wpS_pure (h r _ sm hr)
 case fin =>
  rintro ⟨c, out, ia, ib, g⟩ st' ⟨sm, e, m, h1, h2, h3⟩
  dsimp only at h1 h2 h3
  exfalso
  omega
 case step =>
  rintro X ⟨c, out, ia, ib, g⟩ st1 _ hX ⟨sm, e, m, h1, h2, h3⟩
  dsimp only at e m h1 h2 h3 ⊢
  -- one at a time
  refine wpS_bind (wpS_mono (wpS_forRange
   (I := fun x (c : CS2) st' => Sim st st' ∧ c.1 = none ∧ Mg lt a.toList b.toList c.2.1.toList c.2.2.1 c.2.2.2.1 ∧ c.2.2.1 + 1 < a.size ∧ c.2.2.2.1 < b.size ∧ ia + ib + x ≤ c.2.2.1 + c.2.2.2.1)
   (Q := fun (c : CS2) st' => Sim st st' ∧ ((∃ r, c.1 = some r ∧ Res lt a.toList b.toList r.toList) ∨ (c.1 = none ∧ Mg lt a.toList b.toList c.2.1.toList c.2.2.1 c.2.2.2.1 ∧ c.2.2.1 + 1 < a.size ∧ c.2.2.2.1 < b.size ∧ ia + ib + 1 ≤ c.2.2.1 + c.2.2.2.1))) ?step ?fin ⟨sm, rfl, m, h1, h2, Nat.le_refl _⟩) ?post)
  case fin =>
   rintro ⟨c, out, ia', ib', ac, bc⟩ st' ⟨sm, e, m, k1, k2, k3⟩
   dsimp only at e m k1 k2 k3 ⊢
   exact ⟨sm, .inr ⟨e, m, k1, k2, by omega⟩⟩
  case step =>
   clear m h1 h2 sm
   rintro x ⟨c, out, ia', ib', ac, bc⟩ st2 _ hx ⟨sm, e, m, k1, k2, k3⟩
   dsimp only at e m k1 k2 k3 ⊢
   refine wpS_bind (wpS_elem (atB ib' k2) ?_)
   refine wpS_bind (wpS_elem (atA ia' (by omega)) ?_)
   refine wpS_bind (H _ _ _ _ (memB _ k2) (memA _ (by omega)) (sm.kind.trans hk) ?_)
   dsimp only
   cases hb : lt b[ib'] a[ia'] with
   | true =>
    rw [if_pos rfl]
    refine wpS_bind (wpS_elem (atB ib' k2) ?_)
    have m2 : Mg lt a.toList b.toList (out.push b[ib']).toList ia' (ib' + 1) := by
     rw [Array.toList_push]
     exact m.pushB L hB (by omega) (head_le L hA (by omega) (L.of_lt hb))
    by_cases d1 : (ib' + 1 == b.size) = true
    ·rw [if_pos d1]
     refine wpS_pure ⟨sm, .inl ⟨_, rfl, ?_⟩⟩
     rw [Array.toList_append, Array.toList_append, ext_end, ext_end]
     exact m2.endB hA (by have := beq_iff_eq.mp d1; omega)
    ·rw [if_neg d1]
     have d1 : ib' + 1 ≠ b.size := fun e => d1 (beq_iff_eq.mpr e)
     split
     ·exact wpS_pure ⟨sm, .inr ⟨rfl, m2, k1, by show ib' + 1 < b.size; omega, by show ia + ib + 1 ≤ ia' + (ib' + 1); omega⟩⟩
     ·exact wpS_pure ⟨sm, rfl, m2, k1, by show ib' + 1 < b.size; omega, by show ia + ib + (x + 1) ≤ ia' + (ib' + 1); omega⟩
   | false =>
    rw [if_neg (by simp)]
    refine wpS_bind (wpS_elem (atA ia' (by omega)) ?_)
    have m2 : Mg lt a.toList b.toList (out.push a[ia']).toList (ia' + 1) ib' := by
     rw [Array.toList_push]
     exact m.pushA L hA (by omega) (head_le L hB (by omega) hb)
    by_cases d1 : (ia' + 1 + 1 == a.size) = true
    ·rw [if_pos d1]
     refine wpS_pure ⟨sm, .inl ⟨_, rfl, ?_⟩⟩
     rw [Array.toList_append, Array.toList_append, ext_end, ext_end]
     exact last m2 (beq_iff_eq.mp d1)
    ·rw [if_neg d1]
     have d1 : ia' + 1 + 1 ≠ a.size := fun e => d1 (beq_iff_eq.mpr e)
     split
     ·exact wpS_pure ⟨sm, .inr ⟨rfl, m2, by show ia' + 1 + 1 < a.size; omega, k2, by show ia + ib + 1 ≤ ia' + 1 + ib'; omega⟩⟩
     ·exact wpS_pure ⟨sm, rfl, m2, by show ia' + 1 + 1 < a.size; omega, k2, by show ia + ib + (x + 1) ≤ ia' + 1 + ib'; omega⟩
  case post =>
   clear m h1 h2 sm
   rintro ⟨c, out, ia', ib', ac, bc⟩ st2 ⟨sm, ⟨r, e, hr⟩ | ⟨e, m, k1, k2, k3⟩⟩
   ·dsimp only at e ⊢
    subst e
    exact wpS_pure ⟨sm, r, rfl, hr⟩
   ·dsimp only at e m k1 k2 k3 ⊢
    subst e
    refine wpS_bind (wpS_lift (wpAny_rule ⟨rfl, ?_⟩))
    refine wpS_bind (wpS_mono (wpS_forRange
     (I := fun x (c : CS3) st' => Sim st st' ∧ c.1 = none ∧ Mg lt a.toList b.toList c.2.1.toList c.2.2.1 c.2.2.2.1 ∧ c.2.2.1 + 1 < a.size ∧ c.2.2.2.1 < b.size ∧ ia' + ib' ≤ c.2.2.1 + c.2.2.2.1)
     (Q := fun (c : CS3) st' => Sim st st' ∧ ((∃ r, c.1 = some r ∧ Res lt a.toList b.toList r.toList) ∨ (c.1 = none ∧ Mg lt a.toList b.toList c.2.1.toList c.2.2.1 c.2.2.2.1 ∧ c.2.2.1 + 1 < a.size ∧ c.2.2.2.1 < b.size ∧ ia' + ib' ≤ c.2.2.1 + c.2.2.2.1))) ?step ?fin ⟨sm, rfl, m, k1, k2, Nat.le_refl _⟩) ?post)
    case fin =>
     rintro ⟨c, out, ja, jb, g', ac, bc⟩ st' ⟨sm, e, m, k1, k2, k3⟩
     exact ⟨sm, .inr ⟨e, m, k1, k2, k3⟩⟩
    case post =>
     clear m k1 k2 sm
     rintro ⟨c, out, ja, jb, g', ac, bc⟩ st3 ⟨sm, ⟨r, e, hr⟩ | ⟨e, m, k1, k2, k4⟩⟩
     ·dsimp only at e ⊢
      subst e
      exact wpS_pure ⟨sm, r, rfl, hr⟩
     ·dsimp only at e m k1 k2 k4 ⊢
      subst e
      refine wpS_bind (wpS_modify ?_)
      exact wpS_pure ⟨sm.trans ⟨rfl, rfl, rfl, rfl⟩, rfl, m, k1, k2, by show X + 1 + 1 ≤ ja + jb; omega⟩
    case step =>
     clear m k1 k2 sm
     rintro x ⟨c, out, ja, jb, g', ac, bc⟩ st3 _ hx ⟨sm, e, m, k1, k2, k4⟩
     dsimp only at e m k1 k2 k4 ⊢
     by_cases gg : g' > 1
     rw [if_pos gg]
     rotate_left
     rw [if_neg gg]
     all_goals
      refine wpS_bind (wpS_modify ?_)
      refine wpS_bind (wpS_elem (atB jb k2) ?_)
      refine wpS_bind (wpS_gal (b := ja) (n := a.size - ja) L H (sm.kind.trans hk) (memB jb k2) (by omega) (fun x hx => sA x (List.mem_of_mem_drop (List.mem_of_mem_take hx))) (List.Pairwise.sublist ((List.take_sublist _ _).trans (List.drop_sublist _ _)) hA) (by omega) ?_)
      intro k kn hle hge
      rw [List.take_of_length_le (by rw [List.length_drop]; omega), List.drop_drop] at hge
      dsimp only
      have m2 : Mg lt a.toList b.toList (out ++ a.extract ja (ja + k)).toList (ja + k) jb := by
       rw [Array.toList_append, ext_toList _ _ _ (by omega)]
       exact m.a hA k (fun x hx => head_le L hB (by omega) (hle x hx))
      by_cases kp : k > 0
      ·rw [if_pos kp]
       by_cases d1 : (ja + k + 1 == a.size) = true
       ·rw [if_pos d1]
        refine wpS_pure ⟨sm.trans ⟨rfl, rfl, rfl, rfl⟩, .inl ⟨_, rfl, ?_⟩⟩
        rw [Array.toList_append, Array.toList_append, ext_end, ext_end]
        exact last m2 (beq_iff_eq.mp d1)
       rw [if_neg d1]
       have d1 : ja + k + 1 ≠ a.size := fun e => d1 (beq_iff_eq.mpr e)
       by_cases d2 : (ja + k == a.size) = true
       ·rw [if_pos d2]
        refine wpS_pure ⟨sm.trans ⟨rfl, rfl, rfl, rfl⟩, .inl ⟨_, rfl, ?_⟩⟩
        rw [Array.toList_append, Array.toList_append, ext_end, ext_end]
        exact m2.endA hB (by have := beq_iff_eq.mp d2; omega)
       rw [if_neg d2]
       have d2 : ja + k ≠ a.size := fun e => d2 (beq_iff_eq.mpr e)
       have k1 : ja + k + 1 < a.size := by omega
       have k4 : ia' + ib' ≤ ja + k + jb := by omega
       clear m hle kn d1 d2 kp
       generalize out ++ a.extract ja (ja + k) = out2 at m2 ⊢
       generalize ja + k = ia2 at m2 hge k1 k4 ⊢
       refine wpS_bind (wpS_elem (atB jb k2) ?_)
       have m3 : Mg lt a.toList b.toList (out2.push b[jb]).toList ia2 (jb + 1) := by
        rw [Array.toList_push]
        exact m2.pushB L hB (by omega) hge
       by_cases d1 : (jb + 1 == b.size) = true
       ·rw [if_pos d1]
        refine wpS_pure ⟨sm.trans ⟨rfl, rfl, rfl, rfl⟩, .inl ⟨_, rfl, ?_⟩⟩
        rw [Array.toList_append, Array.toList_append, ext_end, ext_end]
        exact m3.endB hA (by have := beq_iff_eq.mp d1; omega)
       rw [if_neg d1]
       have d1 : jb + 1 ≠ b.size := fun e => d1 (beq_iff_eq.mpr e)
       refine wpS_bind (wpS_elem (atA ia2 (by omega)) ?_)
       refine wpS_bind (wpS_gal (b := jb + 1) (n := b.size - (jb + 1)) L H (sm.kind.trans hk) (memA ia2 (by omega)) (by omega) (fun x hx => sB x (List.mem_of_mem_drop (List.mem_of_mem_take hx))) (List.Pairwise.sublist ((List.take_sublist _ _).trans (List.drop_sublist _ _)) hB) (by omega) ?_)
       intro k' kn hle hge'
       rw [List.take_of_length_le (by rw [List.length_drop]; omega), List.drop_drop] at hge'
       dsimp only
       have m4 : Mg lt a.toList b.toList (out2.push b[jb] ++ b.extract (jb + 1) (jb + 1 + k')).toList ia2 (jb + 1 + k') := by
        rw [Array.toList_append, ext_toList _ _ _ (by omega)]
        exact m3.b hB k' (fun x hx => head_le L hA (by omega) (hle x hx))
       by_cases kp : k' > 0
       ·rw [if_pos kp]
        by_cases d3 : (jb + 1 + k' == b.size) = true
        ·rw [if_pos d3]
         refine wpS_pure ⟨sm.trans ⟨rfl, rfl, rfl, rfl⟩, .inl ⟨_, rfl, ?_⟩⟩
         rw [Array.toList_append, Array.toList_append, ext_end, ext_end]
         exact m4.endB hA (by have := beq_iff_eq.mp d3; omega)
        rw [if_neg d3]
        have d3 : jb + 1 + k' ≠ b.size := fun e => d3 (beq_iff_eq.mpr e)
        refine wpS_bind (wpS_elem (atA ia2 (by omega)) ?_)
        have m6 : Mg lt a.toList b.toList ((out2.push b[jb] ++ b.extract (jb + 1) (jb + 1 + k')).push a[ia2]).toList (ia2 + 1) (jb + 1 + k') := by
         rw [Array.toList_push]
         exact m4.pushA L hA (by omega) hge'
        by_cases d4 : (ia2 + 1 + 1 == a.size) = true
        ·rw [if_pos d4]
         refine wpS_pure ⟨sm.trans ⟨rfl, rfl, rfl, rfl⟩, .inl ⟨_, rfl, ?_⟩⟩
         rw [Array.toList_append, Array.toList_append, ext_end, ext_end]
         exact last m6 (beq_iff_eq.mp d4)
        rw [if_neg d4]
        have d4 : ia2 + 1 + 1 ≠ a.size := fun e => d4 (beq_iff_eq.mpr e)
        split
        ·exact wpS_pure ⟨sm.trans ⟨rfl, rfl, rfl, rfl⟩, .inr ⟨rfl, m6, by show ia2 + 1 + 1 < a.size; omega, by show jb + 1 + k' < b.size; omega, by show ia' + ib' ≤ ia2 + 1 + (jb + 1 + k'); omega⟩⟩
        ·exact wpS_pure ⟨sm.trans ⟨rfl, rfl, rfl, rfl⟩, rfl, m6, by show ia2 + 1 + 1 < a.size; omega, by show jb + 1 + k' < b.size; omega, by show ia' + ib' ≤ ia2 + 1 + (jb + 1 + k'); omega⟩
       ·rw [if_neg kp]
        have k0 : k' = 0 := by omega
        subst k0
        refine wpS_bind (wpS_elem (atA ia2 (by omega)) ?_)
        have m6 : Mg lt a.toList b.toList ((out2.push b[jb]).push a[ia2]).toList (ia2 + 1) (jb + 1) := by
         rw [Array.toList_push]
         exact m3.pushA L hA (by omega) hge'
        by_cases d4 : (ia2 + 1 + 1 == a.size) = true
        ·rw [if_pos d4]
         refine wpS_pure ⟨sm.trans ⟨rfl, rfl, rfl, rfl⟩, .inl ⟨_, rfl, ?_⟩⟩
         rw [Array.toList_append, Array.toList_append, ext_end, ext_end]
         exact last m6 (beq_iff_eq.mp d4)
        rw [if_neg d4]
        have d4 : ia2 + 1 + 1 ≠ a.size := fun e => d4 (beq_iff_eq.mpr e)
        split
        ·exact wpS_pure ⟨sm.trans ⟨rfl, rfl, rfl, rfl⟩, .inr ⟨rfl, m6, by show ia2 + 1 + 1 < a.size; omega, by show jb + 1 < b.size; omega, by show ia' + ib' ≤ ia2 + 1 + (jb + 1); omega⟩⟩
        ·exact wpS_pure ⟨sm.trans ⟨rfl, rfl, rfl, rfl⟩, rfl, m6, by show ia2 + 1 + 1 < a.size; omega, by show jb + 1 < b.size; omega, by show ia' + ib' ≤ ia2 + 1 + (jb + 1); omega⟩
      ·rw [if_neg kp]
       have k0 : k = 0 := by omega
       subst k0
       have m2 := m
       have hge : ∀ x ∈ a.toList.drop ja, Le lt b[jb] x := hge
       clear m hle kn kp
       generalize out = out2 at m2 ⊢
       generalize ja = ia2 at m2 hge k1 k4 ⊢
       refine wpS_bind (wpS_elem (atB jb k2) ?_)
       have m3 : Mg lt a.toList b.toList (out2.push b[jb]).toList ia2 (jb + 1) := by
        rw [Array.toList_push]
        exact m2.pushB L hB (by omega) hge
       by_cases d1 : (jb + 1 == b.size) = true
       ·rw [if_pos d1]
        refine wpS_pure ⟨sm.trans ⟨rfl, rfl, rfl, rfl⟩, .inl ⟨_, rfl, ?_⟩⟩
        rw [Array.toList_append, Array.toList_append, ext_end, ext_end]
        exact m3.endB hA (by have := beq_iff_eq.mp d1; omega)
       rw [if_neg d1]
       have d1 : jb + 1 ≠ b.size := fun e => d1 (beq_iff_eq.mpr e)
       refine wpS_bind (wpS_elem (atA ia2 (by omega)) ?_)
       refine wpS_bind (wpS_gal (b := jb + 1) (n := b.size - (jb + 1)) L H (sm.kind.trans hk) (memA ia2 (by omega)) (by omega) (fun x hx => sB x (List.mem_of_mem_drop (List.mem_of_mem_take hx))) (List.Pairwise.sublist ((List.take_sublist _ _).trans (List.drop_sublist _ _)) hB) (by omega) ?_)
       intro k' kn hle hge'
       rw [List.take_of_length_le (by rw [List.length_drop]; omega), List.drop_drop] at hge'
       dsimp only
       have m4 : Mg lt a.toList b.toList (out2.push b[jb] ++ b.extract (jb + 1) (jb + 1 + k')).toList ia2 (jb + 1 + k') := by
        rw [Array.toList_append, ext_toList _ _ _ (by omega)]
        exact m3.b hB k' (fun x hx => head_le L hA (by omega) (hle x hx))
       by_cases kp : k' > 0
       ·rw [if_pos kp]
        by_cases d3 : (jb + 1 + k' == b.size) = true
        ·rw [if_pos d3]
         refine wpS_pure ⟨sm.trans ⟨rfl, rfl, rfl, rfl⟩, .inl ⟨_, rfl, ?_⟩⟩
         rw [Array.toList_append, Array.toList_append, ext_end, ext_end]
         exact m4.endB hA (by have := beq_iff_eq.mp d3; omega)
        rw [if_neg d3]
        have d3 : jb + 1 + k' ≠ b.size := fun e => d3 (beq_iff_eq.mpr e)
        refine wpS_bind (wpS_elem (atA ia2 (by omega)) ?_)
        have m6 : Mg lt a.toList b.toList ((out2.push b[jb] ++ b.extract (jb + 1) (jb + 1 + k')).push a[ia2]).toList (ia2 + 1) (jb + 1 + k') := by
         rw [Array.toList_push]
         exact m4.pushA L hA (by omega) hge'
        by_cases d4 : (ia2 + 1 + 1 == a.size) = true
        ·rw [if_pos d4]
         refine wpS_pure ⟨sm.trans ⟨rfl, rfl, rfl, rfl⟩, .inl ⟨_, rfl, ?_⟩⟩
         rw [Array.toList_append, Array.toList_append, ext_end, ext_end]
         exact last m6 (beq_iff_eq.mp d4)
        rw [if_neg d4]
        have d4 : ia2 + 1 + 1 ≠ a.size := fun e => d4 (beq_iff_eq.mpr e)
        split
        ·exact wpS_pure ⟨sm.trans ⟨rfl, rfl, rfl, rfl⟩, .inr ⟨rfl, m6, by show ia2 + 1 + 1 < a.size; omega, by show jb + 1 + k' < b.size; omega, by show ia' + ib' ≤ ia2 + 1 + (jb + 1 + k'); omega⟩⟩
        ·exact wpS_pure ⟨sm.trans ⟨rfl, rfl, rfl, rfl⟩, rfl, m6, by show ia2 + 1 + 1 < a.size; omega, by show jb + 1 + k' < b.size; omega, by show ia' + ib' ≤ ia2 + 1 + (jb + 1 + k'); omega⟩
       ·rw [if_neg kp]
        have k0 : k' = 0 := by omega
        subst k0
        refine wpS_bind (wpS_elem (atA ia2 (by omega)) ?_)
        have m6 : Mg lt a.toList b.toList ((out2.push b[jb]).push a[ia2]).toList (ia2 + 1) (jb + 1) := by
         rw [Array.toList_push]
         exact m3.pushA L hA (by omega) hge'
        by_cases d4 : (ia2 + 1 + 1 == a.size) = true
        ·rw [if_pos d4]
         refine wpS_pure ⟨sm.trans ⟨rfl, rfl, rfl, rfl⟩, .inl ⟨_, rfl, ?_⟩⟩
         rw [Array.toList_append, Array.toList_append, ext_end, ext_end]
         exact last m6 (beq_iff_eq.mp d4)
        rw [if_neg d4]
        have d4 : ia2 + 1 + 1 ≠ a.size := fun e => d4 (beq_iff_eq.mpr e)
        split
        ·exact wpS_pure ⟨sm.trans ⟨rfl, rfl, rfl, rfl⟩, .inr ⟨rfl, m6, by show ia2 + 1 + 1 < a.size; omega, by show jb + 1 < b.size; omega, by show ia' + ib' ≤ ia2 + 1 + (jb + 1); omega⟩⟩
        ·exact wpS_pure ⟨sm.trans ⟨rfl, rfl, rfl, rfl⟩, rfl, m6, by show ia2 + 1 + 1 < a.size; omega, by show jb + 1 < b.size; omega, by show ia' + ib' ≤ ia2 + 1 + (jb + 1); omega⟩
end
end Ts
set_option linter.all false
set_option Elab.async false
set_option maxHeartbeats 4000000
namespace Ts
open PySem PyProof.Rows
structure Mh (lt : Keyed → Keyed → Bool) (a b out : List Keyed) (na nb : Nat) : Prop where
 perm : (a.take na ++ b.take nb ++ out.reverse).Perm (a ++ b)
 srt : out.reverse.Pairwise (Le lt)
 le_ : ∀ x ∈ out, ∀ y ∈ a.take na ++ b.take nb, Le lt y x
theorem take_split (l : List Keyed) {i n : Nat} (h : i ≤ n) : l.take n = l.take i ++ (l.take n).drop i := by
 have := List.take_append_drop i (l.take n)
 rw [List.take_take, Nat.min_eq_left h] at this
 exact this.symm
theorem Mh.a {lt : Keyed → Keyed → Bool} {a b out : List Keyed} {na nb : Nat} (m : Mh lt a b out na nb) (hA : a.Pairwise (Le lt)) (i : Nat) (hi : i ≤ na) (h : ∀ x ∈ (a.take na).drop i, ∀ y ∈ b.take nb, Le lt y x) :
  Mh lt a b (out ++ ((a.take na).drop i).reverse) i nb := by
 have e := take_split a hi
 have hA' := List.Pairwise.sublist (List.take_sublist na a) hA
 rw [e, List.pairwise_append] at hA'
 refine ⟨?_, ?_, ?_⟩
 ·refine List.Perm.trans ?_ m.perm
  rw [List.reverse_append, List.reverse_reverse, ← List.append_assoc]
  refine List.Perm.append_right _ ?_
  conv => rhs; rw [e]
  rw [List.append_assoc, List.append_assoc]
  exact List.Perm.append_left _ List.perm_append_comm
 ·rw [List.reverse_append, List.reverse_reverse, List.pairwise_append]
  exact ⟨hA'.2.1, m.srt, fun x hx y hy => m.le_ y (List.mem_reverse.mp hy) x (List.mem_append_left _ (List.mem_of_mem_drop hx))⟩
 ·intro x hx y hy
  rcases List.mem_append.mp hx with hx | hx
  ·refine m.le_ x hx y ?_
   rcases List.mem_append.mp hy with hy | hy
   ·exact List.mem_append_left _ (by rw [e]; exact List.mem_append_left _ hy)
   ·exact List.mem_append_right _ hy
  ·have hx := List.mem_reverse.mp hx
   rcases List.mem_append.mp hy with hy | hy
   ·exact hA'.2.2 y hy x hx
   ·exact h x hx y hy
theorem Mh.b {lt : Keyed → Keyed → Bool} {a b out : List Keyed} {na nb : Nat} (m : Mh lt a b out na nb) (hB : b.Pairwise (Le lt)) (i : Nat) (hi : i ≤ nb) (h : ∀ x ∈ (b.take nb).drop i, ∀ y ∈ a.take na, Le lt y x) :
  Mh lt a b (out ++ ((b.take nb).drop i).reverse) na i := by
 have e := take_split b hi
 have hB' := List.Pairwise.sublist (List.take_sublist nb b) hB
 rw [e, List.pairwise_append] at hB'
 refine ⟨?_, ?_, ?_⟩
 ·refine List.Perm.trans ?_ m.perm
  rw [List.reverse_append, List.reverse_reverse, ← List.append_assoc]
  refine List.Perm.append_right _ ?_
  conv => rhs; rw [e]
  rw [List.append_assoc]
 ·rw [List.reverse_append, List.reverse_reverse, List.pairwise_append]
  exact ⟨hB'.2.1, m.srt, fun x hx y hy => m.le_ y (List.mem_reverse.mp hy) x (List.mem_append_right _ (List.mem_of_mem_drop hx))⟩
 ·intro x hx y hy
  rcases List.mem_append.mp hx with hx | hx
  ·refine m.le_ x hx y ?_
   rcases List.mem_append.mp hy with hy | hy
   ·exact List.mem_append_left _ hy
   ·exact List.mem_append_right _ (by rw [e]; exact List.mem_append_left _ hy)
  ·have hx := List.mem_reverse.mp hx
   rcases List.mem_append.mp hy with hy | hy
   ·exact h x hx y hy
   ·exact hB'.2.2 y hy x hx
theorem Mh.endA {lt : Keyed → Keyed → Bool} {a b out : List Keyed} {na nb : Nat} (m : Mh lt a b out na nb) (hB : b.Pairwise (Le lt)) (h : na = 0) : Res lt a b (a.take na ++ b.take nb ++ out.reverse) := by
 subst h
 refine ⟨m.perm, ?_⟩
 rw [List.take_zero, List.nil_append, List.pairwise_append]
 exact ⟨List.Pairwise.sublist (List.take_sublist _ _) hB, m.srt, fun x hx y hy => m.le_ y (List.mem_reverse.mp hy) x (List.mem_append_right _ hx)⟩
theorem Mh.endB {lt : Keyed → Keyed → Bool} {a b out : List Keyed} {na nb : Nat} (m : Mh lt a b out na nb) (hA : a.Pairwise (Le lt)) (h : nb = 0) : Res lt a b (a.take na ++ b.take nb ++ out.reverse) := by
 subst h
 refine ⟨m.perm, ?_⟩
 rw [List.take_zero, List.append_nil, List.pairwise_append]
 exact ⟨List.Pairwise.sublist (List.take_sublist _ _) hA, m.srt, fun x hx y hy => m.le_ y (List.mem_reverse.mp hy) x (List.mem_append_left _ hx)⟩
theorem Mh.first {lt : Keyed → Keyed → Bool} {a b out : List Keyed} {na nb : Nat} (m : Mh lt a b out na nb) (hA : a.Pairwise (Le lt)) (hB : b.Pairwise (Le lt)) (h : ∀ y ∈ b.take nb, ∀ x ∈ a.take na, Le lt y x) : Res lt a b (b.take nb ++ a.take na ++ out.reverse) := by
 refine ⟨(List.Perm.append_right _ List.perm_append_comm).trans m.perm, ?_⟩
 rw [List.pairwise_append, List.pairwise_append]
 refine ⟨⟨List.Pairwise.sublist (List.take_sublist _ _) hB, List.Pairwise.sublist (List.take_sublist _ _) hA, h⟩, m.srt, fun x hx y hy => m.le_ y (List.mem_reverse.mp hy) x ?_⟩
 rcases List.mem_append.mp hx with hx | hx
 ·exact List.mem_append_right _ hx
 ·exact List.mem_append_left _ hx
theorem take_at {l : List Keyed} {i : Nat} (h : i < l.length) : (l.take (i + 1)).drop i = [l[i]] := by
 rw [List.drop_take, show i + 1 - i = 1 by omega, drop_at h]
theorem last_ge {lt : Keyed → Keyed → Bool} (L : Less lt) {l : List Keyed} (hl : l.Pairwise (Le lt)) {i : Nat} (h : i < l.length) {x : Keyed} (hx : Le lt l[i] x) : ∀ y ∈ l.take (i + 1), Le lt y x := by
 intro y hy
 rw [take_split l (Nat.le_succ i), take_at h] at hy
 rcases List.mem_append.mp hy with hy | hy
 ·have h2 := List.Pairwise.sublist (List.take_sublist (i + 1) l) hl
  rw [take_split l (Nat.le_succ i), take_at h, List.pairwise_append] at h2
  exact L.trans (h2.2.2 y hy _ (List.mem_singleton.mpr rfl)) hx
 ·rw [List.mem_singleton.mp hy]; exact hx
theorem Mh.pushA {lt : Keyed → Keyed → Bool} (L : Less lt) {a b out : List Keyed} {na nb : Nat} (m : Mh lt a b out (na + 1) nb) (hA : a.Pairwise (Le lt)) (h : na < a.length) (hle : ∀ y ∈ b.take nb, Le lt y a[na]) : Mh lt a b (out ++ [a[na]]) na nb := by
 have := m.a hA na (Nat.le_succ _) (by
  intro x hx y hy
  rw [take_at h] at hx
  rw [List.mem_singleton.mp hx]
  exact hle y hy)
 rw [take_at h] at this
 exact this
theorem Mh.pushB {lt : Keyed → Keyed → Bool} (L : Less lt) {a b out : List Keyed} {na nb : Nat} (m : Mh lt a b out na (nb + 1)) (hB : b.Pairwise (Le lt)) (h : nb < b.length) (hle : ∀ y ∈ a.take na, Le lt y b[nb]) : Mh lt a b (out ++ [b[nb]]) na nb := by
 have := m.b hB nb (Nat.le_succ _) (by
  intro x hx y hy
  rw [take_at h] at hx
  rw [List.mem_singleton.mp hx]
  exact hle y hy)
 rw [take_at h] at this
 exact this
theorem ext_zero (a : Array Keyed) (n : Nat) : (a.extract 0 n).toList = a.toList.take n := by
 rw [Array.toList_extract, List.extract_eq_drop_take, List.drop_zero]; rfl
theorem ext_rev (a : Array Keyed) (i n : Nat) : (a.extract i n).reverse.toList = ((a.toList.take n).drop i).reverse := by
 rw [Array.toList_reverse, Array.toList_extract, List.extract_eq_drop_take, List.drop_take]
abbrev CH1 := Option (Array Keyed) × Nat × Nat × Array Keyed × Nat
abbrev CH2 := Option (Array Keyed) × Nat × Nat × Array Keyed × Nat × Nat
abbrev CH3 := Option (Array Keyed) × Nat × Nat × Array Keyed × Nat × Nat × Nat
section
variable {M : Model} {A : Around} {E : Value → Shared → Prop} {s : Shared}
theorem wpS_mergeHi {κ : SortKind} {S : Keyed → Prop} {lt : Keyed → Keyed → Bool} (L : Less lt) (H : Asks M A E s κ S lt) {a b : Array Keyed} {Q : Array Keyed → SortSt → Prop} {st : SortSt} (hk : kindOf st = κ)
  (hA : a.toList.Pairwise (Le lt)) (hB : b.toList.Pairwise (Le lt)) (sA : ∀ x ∈ a.toList, S x) (sB : ∀ x ∈ b.toList, S x) (na0 : 0 < a.size) (nb0 : 0 < b.size)
  (h0 : ∀ x ∈ a.toList, Le lt b[0] x) (hl : ∀ y ∈ b.toList, ∀ x ∈ a.toList.drop (a.size - 1), Le lt y x)
  (h : ∀ r st', Sim st st' → Res lt a.toList b.toList r.toList → Q r st') : wpS M A E s (mergeHi' a b) Q st := by
 have lA : a.toList.length = a.size := Array.length_toList
 have lB : b.toList.length = b.size := Array.length_toList
 have atA : ∀ i (hi : i < a.size), a[i]? = some a[i] := fun i hi => getElem?_pos a i hi
 have atB : ∀ i (hi : i < b.size), b[i]? = some b[i] := fun i hi => getElem?_pos b i hi
 have memA : ∀ i (hi : i < a.size), S a[i] := fun i hi => sA _ (Array.getElem_mem_toList hi)
 have memB : ∀ i (hi : i < b.size), S b[i] := fun i hi => sB _ (Array.getElem_mem_toList hi)
 have m0 : Mh lt a.toList b.toList [a[a.size - 1]] (a.size - 1) b.size := by
  have e1 : a.size - 1 + 1 = a.size := by omega
  have := Mh.pushA L (lt := lt) (a := a.toList) (b := b.toList) (out := []) (na := a.size - 1) (nb := b.size) (by
   rw [e1]
   refine ⟨?_, List.Pairwise.nil, fun x hx => nomatch hx⟩
   rw [List.take_of_length_le (by omega), List.take_of_length_le (by omega), List.reverse_nil, List.append_nil]) hA (by omega) (by
   intro y hy
   refine hl y (List.mem_of_mem_take hy) _ ?_
   rw [List.drop_eq_getElem_cons (by omega)]
   exact List.mem_cons_self)
  exact this
 have first : ∀ {out : List Keyed} {na nb : Nat}, Mh lt a.toList b.toList out na nb → nb = 1 → Res lt a.toList b.toList (b.toList.take nb ++ a.toList.take na ++ out.reverse) := by
  intro out na nb m e
  refine m.first hA hB fun y hy x hx => ?_
  subst e
  rw [show b.toList.take 1 = [b[0]] by have := drop_at (l := b.toList) (i := 0) (by omega); exact this] at hy
  rw [List.mem_singleton.mp hy]
  exact h0 x (List.mem_of_mem_take hx)
 unfold mergeHi'
 refine wpS_bind (wpS_lift (wpAny_rule ⟨rfl, ?_⟩))
 dsimp only
 refine wpS_bind (wpS_elem (atA (a.size - 1) (by omega)) ?_)
 by_cases c1 : (a.size - 1 == 0) = true
 ·rw [if_pos c1]
  refine wpS_pure (h _ _ (Sim.refl _) ?_)
  rw [Array.toList_append, Array.toList_append, ext_zero, ext_zero, Array.toList_reverse]
  exact m0.endA hB (beq_iff_eq.mp c1)
 rw [if_neg c1]
 have c1 : a.size - 1 ≠ 0 := fun e => c1 (beq_iff_eq.mpr e)
 by_cases c2 : (b.size == 1) = true
 ·rw [if_pos c2]
  refine wpS_pure (h _ _ (Sim.refl _) ?_)
  rw [Array.toList_append, Array.toList_append, ext_zero, ext_zero, Array.toList_reverse]
  exact first m0 (beq_iff_eq.mp c2)
 rw [if_neg c2]
 have c2 : b.size ≠ 1 := fun e => c2 (beq_iff_eq.mpr e)
 refine wpS_bind (wpS_get ?_)
 refine wpS_bind (wpS_mono (wpS_forRange
  (I := fun X (c : CH1) st' => Sim st st' ∧ c.1 = none ∧ Mh lt a.toList b.toList c.2.2.2.1.toList c.2.1 c.2.2.1 ∧ 0 < c.2.1 ∧ c.2.1 ≤ a.size ∧ 1 < c.2.2.1 ∧ c.2.2.1 ≤ b.size ∧ X + 1 + c.2.1 + c.2.2.1 ≤ a.size + b.size)
  (Q := fun (c : CH1) st' => Sim st st' ∧ ∃ r, c.1 = some r ∧ Res lt a.toList b.toList r.toList) ?step ?fin ⟨Sim.refl _, rfl, m0, by show 0 < a.size - 1; omega, by show a.size - 1 ≤ a.size; omega, by show 1 < b.size; omega, Nat.le_refl _, by show 0 + 1 + (a.size - 1) + b.size ≤ a.size + b.size; omega⟩) ?post)
 case post =>
  rintro ⟨c, na, nb, out, g⟩ st' ⟨sm, r, e, hr⟩
  dsimp only at e ⊢
  subst e
  exact wpS_pure (h r _ sm hr)
 case fin =>
  rintro ⟨c, na, nb, out, g⟩ st' ⟨sm, e, m, h1, h2, h3, h4, h5⟩
  dsimp only at h1 h2 h3 h4 h5
  exfalso
  omega
 case step =>
  rintro X ⟨c, na, nb, out, g⟩ st1 _ hX ⟨sm, e, m, h1, h2, h3, h4, h5⟩
  dsimp only at e m h1 h2 h3 h4 h5 ⊢
  refine wpS_bind (wpS_mono (wpS_forRange
   (I := fun x (c : CH2) st' => Sim st st' ∧ c.1 = none ∧ Mh lt a.toList b.toList c.2.2.2.1.toList c.2.1 c.2.2.1 ∧ 0 < c.2.1 ∧ c.2.1 ≤ a.size ∧ 1 < c.2.2.1 ∧ c.2.2.1 ≤ b.size ∧ x + c.2.1 + c.2.2.1 ≤ na + nb)
   (Q := fun (c : CH2) st' => Sim st st' ∧ ((∃ r, c.1 = some r ∧ Res lt a.toList b.toList r.toList) ∨ (c.1 = none ∧ Mh lt a.toList b.toList c.2.2.2.1.toList c.2.1 c.2.2.1 ∧ 0 < c.2.1 ∧ c.2.1 ≤ a.size ∧ 1 < c.2.2.1 ∧ c.2.2.1 ≤ b.size ∧ 1 + c.2.1 + c.2.2.1 ≤ na + nb))) ?step ?fin ⟨sm, rfl, m, h1, h2, h3, h4, by show 0 + na + nb ≤ na + nb; omega⟩) ?post)
  case fin =>
   rintro ⟨c, na', nb', out, ac, bc⟩ st' ⟨sm, e, m, k1, k2, k3, k4, k5⟩
   dsimp only at e m k1 k2 k3 k4 k5 ⊢
   exact ⟨sm, .inr ⟨e, m, k1, k2, k3, k4, by omega⟩⟩
  case step =>
   clear m h1 h2 h3 h4 sm
   rintro x ⟨c, na', nb', out, ac, bc⟩ st2 _ hx ⟨sm, e, m, k1, k2, k3, k4, k5⟩
   dsimp only at e m k1 k2 k3 k4 k5 ⊢
   obtain ⟨pa, rfl⟩ : ∃ pa, na' = pa + 1 := ⟨na' - 1, by omega⟩
   obtain ⟨pb, rfl⟩ : ∃ pb, nb' = pb + 1 := ⟨nb' - 1, by omega⟩
   simp only [Nat.add_sub_cancel]
   refine wpS_bind (wpS_elem (atB pb (by omega)) ?_)
   refine wpS_bind (wpS_elem (atA pa (by omega)) ?_)
   refine wpS_bind (H _ _ _ _ (memB _ (by omega)) (memA _ (by omega)) (sm.kind.trans hk) ?_)
   dsimp only
   cases hb : lt b[pb] a[pa] with
   | true =>
    rw [if_pos rfl]
    refine wpS_bind (wpS_elem (atA pa (by omega)) ?_)
    have m2 : Mh lt a.toList b.toList (out.push a[pa]).toList pa (pb + 1) := by
     rw [Array.toList_push]
     exact m.pushA L hA (by omega) (last_ge L hB (by omega) (L.of_lt hb))
    by_cases d1 : (pa == 0) = true
    ·rw [if_pos d1]
     refine wpS_pure ⟨sm, .inl ⟨_, rfl, ?_⟩⟩
     rw [Array.toList_append, Array.toList_append, ext_zero, ext_zero, Array.toList_reverse]
     exact m2.endA hB (beq_iff_eq.mp d1)
    ·rw [if_neg d1]
     have d1 : pa ≠ 0 := fun e => d1 (beq_iff_eq.mpr e)
     split
     ·exact wpS_pure ⟨sm, .inr ⟨rfl, m2, by show 0 < pa; omega, by show pa ≤ a.size; omega, k3, k4, by show 1 + pa + (pb + 1) ≤ na + nb; omega⟩⟩
     ·exact wpS_pure ⟨sm, rfl, m2, by show 0 < pa; omega, by show pa ≤ a.size; omega, k3, k4, by show x + 1 + pa + (pb + 1) ≤ na + nb; omega⟩
   | false =>
    rw [if_neg (by simp)]
    refine wpS_bind (wpS_elem (atB pb (by omega)) ?_)
    have m2 : Mh lt a.toList b.toList (out.push b[pb]).toList (pa + 1) pb := by
     rw [Array.toList_push]
     exact m.pushB L hB (by omega) (last_ge L hA (by omega) hb)
    by_cases d1 : (pb == 1) = true
    ·rw [if_pos d1]
     refine wpS_pure ⟨sm, .inl ⟨_, rfl, ?_⟩⟩
     rw [Array.toList_append, Array.toList_append, ext_zero, ext_zero, Array.toList_reverse]
     exact first m2 (beq_iff_eq.mp d1)
    ·rw [if_neg d1]
     have d1 : pb ≠ 1 := fun e => d1 (beq_iff_eq.mpr e)
     split
     ·exact wpS_pure ⟨sm, .inr ⟨rfl, m2, k1, k2, by show 1 < pb; omega, by show pb ≤ b.size; omega, by show 1 + (pa + 1) + pb ≤ na + nb; omega⟩⟩
     ·exact wpS_pure ⟨sm, rfl, m2, k1, k2, by show 1 < pb; omega, by show pb ≤ b.size; omega, by show x + 1 + (pa + 1) + pb ≤ na + nb; omega⟩
  case post =>
   clear m h1 h2 h3 h4 sm
   rintro ⟨c, na', nb', out, ac, bc⟩ st2 ⟨sm, ⟨r, e, hr⟩ | ⟨e, m, k1, k2, k3, k4, k5⟩⟩
   ·dsimp only at e ⊢
    subst e
    exact wpS_pure ⟨sm, r, rfl, hr⟩
   ·dsimp only at e m k1 k2 k3 k4 k5 ⊢
    subst e
    refine wpS_bind (wpS_lift (wpAny_rule ⟨rfl, ?_⟩))
    refine wpS_bind (wpS_mono (wpS_forRange
     (I := fun x (c : CH3) st' => Sim st st' ∧ c.1 = none ∧ Mh lt a.toList b.toList c.2.2.2.1.toList c.2.1 c.2.2.1 ∧ 0 < c.2.1 ∧ c.2.1 ≤ a.size ∧ 1 < c.2.2.1 ∧ c.2.2.1 ≤ b.size ∧ c.2.1 + c.2.2.1 ≤ na' + nb')
     (Q := fun (c : CH3) st' => Sim st st' ∧ ((∃ r, c.1 = some r ∧ Res lt a.toList b.toList r.toList) ∨ (c.1 = none ∧ Mh lt a.toList b.toList c.2.2.2.1.toList c.2.1 c.2.2.1 ∧ 0 < c.2.1 ∧ c.2.1 ≤ a.size ∧ 1 < c.2.2.1 ∧ c.2.2.1 ≤ b.size ∧ c.2.1 + c.2.2.1 ≤ na' + nb'))) ?step ?fin ⟨sm, rfl, m, k1, k2, k3, k4, Nat.le_refl _⟩) ?post)
    case fin =>
     rintro ⟨c, ja, jb, out, g', ac, bc⟩ st' ⟨sm, e, m, k⟩
     exact ⟨sm, .inr ⟨e, m, k⟩⟩
    case post =>
     clear m k1 k2 k3 k4 sm
     rintro ⟨c, ja, jb, out, g', ac, bc⟩ st3 ⟨sm, ⟨r, e, hr⟩ | ⟨e, m, k1, k2, k3, k4, k6⟩⟩
     ·dsimp only at e ⊢
      subst e
      exact wpS_pure ⟨sm, r, rfl, hr⟩
     ·dsimp only at e m k1 k2 k3 k4 k6 ⊢
      subst e
      refine wpS_bind (wpS_modify ?_)
      exact wpS_pure ⟨sm.trans ⟨rfl, rfl, rfl, rfl⟩, rfl, m, k1, k2, k3, k4, by show X + 1 + 1 + ja + jb ≤ a.size + b.size; omega⟩
    case step =>
     clear m k1 k2 k3 k4 sm
     rintro x ⟨c, ja, jb, out, g', ac, bc⟩ st3 _ hx ⟨sm, e, m, k1, k2, k3, k4, k6⟩
     dsimp only at e m k1 k2 k3 k4 k6 ⊢
     obtain ⟨pb, rfl⟩ : ∃ pb, jb = pb + 1 := ⟨jb - 1, by omega⟩
     simp only [Nat.add_sub_cancel]
     by_cases gg : g' > 1
     rw [if_pos gg]
     rotate_left
     rw [if_neg gg]
     all_goals
      refine wpS_bind (wpS_modify ?_)
      refine wpS_bind (wpS_elem (atB pb (by omega)) ?_)
      refine wpS_bind (wpS_gal (b := 0) (n := ja) L H (sm.kind.trans hk) (memB pb (by omega)) (by omega) (fun x hx => sA x (List.mem_of_mem_drop (List.mem_of_mem_take hx))) (List.Pairwise.sublist ((List.take_sublist _ _).trans (List.drop_sublist _ _)) hA) (by omega) ?_)
      intro i kn hle hge
      rw [List.drop_zero] at hle hge
      dsimp only
      have m2 : Mh lt a.toList b.toList (out ++ (a.extract i ja).reverse).toList i (pb + 1) := by
       rw [Array.toList_append, ext_rev]
       exact m.a hA i kn (fun x hx => last_ge L hB (by omega) (hge x hx))
      by_cases kp : ja - i > 0
      ·rw [if_pos kp]
       by_cases d1 : (i == 0) = true
       ·rw [if_pos d1]
        refine wpS_pure ⟨sm.trans ⟨rfl, rfl, rfl, rfl⟩, .inl ⟨_, rfl, ?_⟩⟩
        rw [Array.toList_append, Array.toList_append, ext_zero, ext_zero, Array.toList_reverse]
        exact m2.endA hB (beq_iff_eq.mp d1)
       rw [if_neg d1]
       have d1 : i ≠ 0 := fun e => d1 (beq_iff_eq.mpr e)
       have k1 : 0 < i := by omega
       have k2 : i ≤ a.size := by omega
       have k6 : i + (pb + 1) ≤ na' + nb' := by omega
       clear m hge d1
       generalize out ++ (a.extract i ja).reverse = out2 at m2 ⊢
       generalize ja - i = u1
       obtain ⟨pa, rfl⟩ : ∃ pa, i = pa + 1 := ⟨i - 1, by omega⟩
       simp only [Nat.add_sub_cancel]
       refine wpS_bind (wpS_elem (atB pb (by omega)) ?_)
       have m3 : Mh lt a.toList b.toList (out2.push b[pb]).toList (pa + 1) pb := by
        rw [Array.toList_push]
        exact m2.pushB L hB (by omega) hle
       by_cases d1 : (pb == 1) = true
       ·rw [if_pos d1]
        refine wpS_pure ⟨sm.trans ⟨rfl, rfl, rfl, rfl⟩, .inl ⟨_, rfl, ?_⟩⟩
        rw [Array.toList_append, Array.toList_append, ext_zero, ext_zero, Array.toList_reverse]
        exact first m3 (beq_iff_eq.mp d1)
       rw [if_neg d1]
       have d1 : pb ≠ 1 := fun e => d1 (beq_iff_eq.mpr e)
       refine wpS_bind (wpS_elem (atA pa (by omega)) ?_)
       refine wpS_bind (wpS_gal (b := 0) (n := pb) L H (sm.kind.trans hk) (memA pa (by omega)) (by omega) (fun x hx => sB x (List.mem_of_mem_drop (List.mem_of_mem_take hx))) (List.Pairwise.sublist ((List.take_sublist _ _).trans (List.drop_sublist _ _)) hB) (by omega) ?_)
       intro i' kn' hle' hge'
       rw [List.drop_zero] at hle' hge'
       dsimp only
       have m4 : Mh lt a.toList b.toList (out2.push b[pb] ++ (b.extract i' pb).reverse).toList (pa + 1) i' := by
        rw [Array.toList_append, ext_rev]
        exact m3.b hB i' kn' (fun x hx => last_ge L hA (by omega) (hge' x hx))
       by_cases kp' : pb - i' > 0
       ·rw [if_pos kp']
        by_cases d3 : (i' == 1) = true
        ·rw [if_pos d3]
         refine wpS_pure ⟨sm.trans ⟨rfl, rfl, rfl, rfl⟩, .inl ⟨_, rfl, ?_⟩⟩
         rw [Array.toList_append, Array.toList_append, ext_zero, ext_zero, Array.toList_reverse]
         exact first m4 (beq_iff_eq.mp d3)
        rw [if_neg d3]
        have d3 : i' ≠ 1 := fun e => d3 (beq_iff_eq.mpr e)
        by_cases d5 : (i' == 0) = true
        ·rw [if_pos d5]
         refine wpS_pure ⟨sm.trans ⟨rfl, rfl, rfl, rfl⟩, .inl ⟨_, rfl, ?_⟩⟩
         rw [Array.toList_append, Array.toList_append, ext_zero, ext_zero, Array.toList_reverse]
         exact m4.endB hA (beq_iff_eq.mp d5)
        rw [if_neg d5]
        have d5 : i' ≠ 0 := fun e => d5 (beq_iff_eq.mpr e)
        refine wpS_bind (wpS_elem (atA pa (by omega)) ?_)
        have m6 : Mh lt a.toList b.toList ((out2.push b[pb] ++ (b.extract i' pb).reverse).push a[pa]).toList pa i' := by
         rw [Array.toList_push]
         exact m4.pushA L hA (by omega) hle'
        by_cases d4 : (pa == 0) = true
        ·rw [if_pos d4]
         refine wpS_pure ⟨sm.trans ⟨rfl, rfl, rfl, rfl⟩, .inl ⟨_, rfl, ?_⟩⟩
         rw [Array.toList_append, Array.toList_append, ext_zero, ext_zero, Array.toList_reverse]
         exact m6.endA hB (beq_iff_eq.mp d4)
        rw [if_neg d4]
        have d4 : pa ≠ 0 := fun e => d4 (beq_iff_eq.mpr e)
        split
        ·exact wpS_pure ⟨sm.trans ⟨rfl, rfl, rfl, rfl⟩, .inr ⟨rfl, m6, by show 0 < pa; omega, by show pa ≤ a.size; omega, by show 1 < i'; omega, by show i' ≤ b.size; omega, by show pa + i' ≤ na' + nb'; omega⟩⟩
        ·exact wpS_pure ⟨sm.trans ⟨rfl, rfl, rfl, rfl⟩, rfl, m6, by show 0 < pa; omega, by show pa ≤ a.size; omega, by show 1 < i'; omega, by show i' ≤ b.size; omega, by show pa + i' ≤ na' + nb'; omega⟩
       ·rw [if_neg kp']
        have k0' : i' = pb := by omega
        subst k0'
        refine wpS_bind (wpS_elem (atA pa (by omega)) ?_)
        have m6 : Mh lt a.toList b.toList ((out2.push b[i']).push a[pa]).toList pa i' := by
         rw [Array.toList_push]
         exact m3.pushA L hA (by omega) hle'
        by_cases d4 : (pa == 0) = true
        ·rw [if_pos d4]
         refine wpS_pure ⟨sm.trans ⟨rfl, rfl, rfl, rfl⟩, .inl ⟨_, rfl, ?_⟩⟩
         rw [Array.toList_append, Array.toList_append, ext_zero, ext_zero, Array.toList_reverse]
         exact m6.endA hB (beq_iff_eq.mp d4)
        rw [if_neg d4]
        have d4 : pa ≠ 0 := fun e => d4 (beq_iff_eq.mpr e)
        split
        ·exact wpS_pure ⟨sm.trans ⟨rfl, rfl, rfl, rfl⟩, .inr ⟨rfl, m6, by show 0 < pa; omega, by show pa ≤ a.size; omega, by show 1 < i'; omega, by show i' ≤ b.size; omega, by show pa + i' ≤ na' + nb'; omega⟩⟩
        ·exact wpS_pure ⟨sm.trans ⟨rfl, rfl, rfl, rfl⟩, rfl, m6, by show 0 < pa; omega, by show pa ≤ a.size; omega, by show 1 < i'; omega, by show i' ≤ b.size; omega, by show pa + i' ≤ na' + nb'; omega⟩
      ·rw [if_neg kp]
       have k0 : i = ja := by omega
       subst k0
       have m2 := m
       clear m hge
       generalize i - i = u1
       generalize out = out2 at m2 ⊢
       obtain ⟨pa, rfl⟩ : ∃ pa, i = pa + 1 := ⟨i - 1, by omega⟩
       simp only [Nat.add_sub_cancel]
       refine wpS_bind (wpS_elem (atB pb (by omega)) ?_)
       have m3 : Mh lt a.toList b.toList (out2.push b[pb]).toList (pa + 1) pb := by
        rw [Array.toList_push]
        exact m2.pushB L hB (by omega) hle
       by_cases d1 : (pb == 1) = true
       ·rw [if_pos d1]
        refine wpS_pure ⟨sm.trans ⟨rfl, rfl, rfl, rfl⟩, .inl ⟨_, rfl, ?_⟩⟩
        rw [Array.toList_append, Array.toList_append, ext_zero, ext_zero, Array.toList_reverse]
        exact first m3 (beq_iff_eq.mp d1)
       rw [if_neg d1]
       have d1 : pb ≠ 1 := fun e => d1 (beq_iff_eq.mpr e)
       refine wpS_bind (wpS_elem (atA pa (by omega)) ?_)
       refine wpS_bind (wpS_gal (b := 0) (n := pb) L H (sm.kind.trans hk) (memA pa (by omega)) (by omega) (fun x hx => sB x (List.mem_of_mem_drop (List.mem_of_mem_take hx))) (List.Pairwise.sublist ((List.take_sublist _ _).trans (List.drop_sublist _ _)) hB) (by omega) ?_)
       intro i' kn' hle' hge'
       rw [List.drop_zero] at hle' hge'
       dsimp only
       have m4 : Mh lt a.toList b.toList (out2.push b[pb] ++ (b.extract i' pb).reverse).toList (pa + 1) i' := by
        rw [Array.toList_append, ext_rev]
        exact m3.b hB i' kn' (fun x hx => last_ge L hA (by omega) (hge' x hx))
       by_cases kp' : pb - i' > 0
       ·rw [if_pos kp']
        by_cases d3 : (i' == 1) = true
        ·rw [if_pos d3]
         refine wpS_pure ⟨sm.trans ⟨rfl, rfl, rfl, rfl⟩, .inl ⟨_, rfl, ?_⟩⟩
         rw [Array.toList_append, Array.toList_append, ext_zero, ext_zero, Array.toList_reverse]
         exact first m4 (beq_iff_eq.mp d3)
        rw [if_neg d3]
        have d3 : i' ≠ 1 := fun e => d3 (beq_iff_eq.mpr e)
        by_cases d5 : (i' == 0) = true
        ·rw [if_pos d5]
         refine wpS_pure ⟨sm.trans ⟨rfl, rfl, rfl, rfl⟩, .inl ⟨_, rfl, ?_⟩⟩
         rw [Array.toList_append, Array.toList_append, ext_zero, ext_zero, Array.toList_reverse]
         exact m4.endB hA (beq_iff_eq.mp d5)
        rw [if_neg d5]
        have d5 : i' ≠ 0 := fun e => d5 (beq_iff_eq.mpr e)
        refine wpS_bind (wpS_elem (atA pa (by omega)) ?_)
        have m6 : Mh lt a.toList b.toList ((out2.push b[pb] ++ (b.extract i' pb).reverse).push a[pa]).toList pa i' := by
         rw [Array.toList_push]
         exact m4.pushA L hA (by omega) hle'
        by_cases d4 : (pa == 0) = true
        ·rw [if_pos d4]
         refine wpS_pure ⟨sm.trans ⟨rfl, rfl, rfl, rfl⟩, .inl ⟨_, rfl, ?_⟩⟩
         rw [Array.toList_append, Array.toList_append, ext_zero, ext_zero, Array.toList_reverse]
         exact m6.endA hB (beq_iff_eq.mp d4)
        rw [if_neg d4]
        have d4 : pa ≠ 0 := fun e => d4 (beq_iff_eq.mpr e)
        split
        ·exact wpS_pure ⟨sm.trans ⟨rfl, rfl, rfl, rfl⟩, .inr ⟨rfl, m6, by show 0 < pa; omega, by show pa ≤ a.size; omega, by show 1 < i'; omega, by show i' ≤ b.size; omega, by show pa + i' ≤ na' + nb'; omega⟩⟩
        ·exact wpS_pure ⟨sm.trans ⟨rfl, rfl, rfl, rfl⟩, rfl, m6, by show 0 < pa; omega, by show pa ≤ a.size; omega, by show 1 < i'; omega, by show i' ≤ b.size; omega, by show pa + i' ≤ na' + nb'; omega⟩
       ·rw [if_neg kp']
        have k0' : i' = pb := by omega
        subst k0'
        refine wpS_bind (wpS_elem (atA pa (by omega)) ?_)
        have m6 : Mh lt a.toList b.toList ((out2.push b[i']).push a[pa]).toList pa i' := by
         rw [Array.toList_push]
         exact m3.pushA L hA (by omega) hle'
        by_cases d4 : (pa == 0) = true
        ·rw [if_pos d4]
         refine wpS_pure ⟨sm.trans ⟨rfl, rfl, rfl, rfl⟩, .inl ⟨_, rfl, ?_⟩⟩
         rw [Array.toList_append, Array.toList_append, ext_zero, ext_zero, Array.toList_reverse]
         exact m6.endA hB (beq_iff_eq.mp d4)
        rw [if_neg d4]
        have d4 : pa ≠ 0 := fun e => d4 (beq_iff_eq.mpr e)
        split
        ·exact wpS_pure ⟨sm.trans ⟨rfl, rfl, rfl, rfl⟩, .inr ⟨rfl, m6, by show 0 < pa; omega, by show pa ≤ a.size; omega, by show 1 < i'; omega, by show i' ≤ b.size; omega, by show pa + i' ≤ na' + nb'; omega⟩⟩
        ·exact wpS_pure ⟨sm.trans ⟨rfl, rfl, rfl, rfl⟩, rfl, m6, by show 0 < pa; omega, by show pa ≤ a.size; omega, by show 1 < i'; omega, by show i' ≤ b.size; omega, by show pa + i' ≤ na' + nb'; omega⟩
end
end Ts
set_option linter.all false
set_option Elab.async false
set_option maxHeartbeats 4000000
namespace Ts
open PySem PyProof.Rows
def seg (xs : Array Keyed) (i n : Nat) : List Keyed := (xs.toList.drop i).take n
theorem seg_len {xs : Array Keyed} {i n : Nat} (h : i + n ≤ xs.size) : (seg xs i n).length = n := by
 unfold seg
 rw [List.length_take, List.length_drop, Array.length_toList]; omega
theorem seg_cut {xs : Array Keyed} {i n k : Nat} (h : k ≤ n) : seg xs i n = seg xs i k ++ seg xs (i + k) (n - k) := by
 unfold seg
 have := List.take_append_drop k ((xs.toList.drop i).take n)
 rw [List.take_take, Nat.min_eq_left h, List.drop_take, List.drop_drop] at this
 exact this.symm
theorem split3 (xs : Array Keyed) (i n : Nat) : xs.toList = xs.toList.take i ++ seg xs i n ++ xs.toList.drop (i + n) := by
 unfold seg
 have h1 := List.take_append_drop i xs.toList
 have h2 := List.take_append_drop n (xs.toList.drop i)
 rw [List.drop_drop] at h2
 rw [List.append_assoc, h2, h1]
theorem laid (sa : Nat) : ∀ (m : List Keyed) (n : Nat) (xs : Array Keyed), sa + n + m.length ≤ xs.size →
  ((m.zipIdx n).foldl (fun a (q : Keyed × Nat) => a.setIfInBounds (sa + q.2) q.1) xs).toList = xs.toList.take (sa + n) ++ m ++ xs.toList.drop (sa + n + m.length)
 | [], n, xs, _ => by
  rw [List.zipIdx_nil, List.foldl_nil, List.append_nil, List.length_nil, Nat.add_zero, List.take_append_drop]
 | x :: m, n, xs, h => by
  rw [List.length_cons] at h
  rw [List.zipIdx_cons, List.foldl_cons, laid sa m (n + 1) _ (by rw [Array.size_setIfInBounds]; omega)]
  rw [Array.toList_setIfInBounds]
  have hl : sa + n < xs.toList.length := by rw [Array.length_toList]; omega
  have e1 : (xs.toList.set (sa + n) x).take (sa + (n + 1)) = xs.toList.take (sa + n) ++ [x] := by
   rw [← Nat.add_assoc, List.take_succ, List.take_set_of_le (Nat.le_refl _), List.getElem?_set_self hl]; rfl
  have e2 : (xs.toList.set (sa + n) x).drop (sa + (n + 1) + m.length) = xs.toList.drop (sa + n + (m.length + 1)) := by
   rw [List.drop_set_of_lt (by omega)]
   congr 1
   omega
  rw [e1, e2, List.append_assoc, List.append_assoc, List.append_assoc]; rfl
section
variable {M : Model} {A : Around} {E : Value → Shared → Prop} {s : Shared}
theorem wpS_set {σ : Type} {x st : σ} {Q : PUnit → σ → Prop} (h : Q ⟨⟩ x) : wpS M A E s (set x : StateT σ Sem PUnit) Q st := by
 unfold wpS; rw [StateT.run_set]; exact wpAny_pure ⟨rfl, h⟩
def Chg (xs ys : Array Keyed) (i n : Nat) (m : List Keyed) : Prop := m.Perm (seg xs i n) ∧ ys.toList = xs.toList.take i ++ m ++ xs.toList.drop (i + n)
theorem wpS_mergeAt {κ : SortKind} {S : Keyed → Prop} {lt : Keyed → Keyed → Bool} (L : Less lt) (H : Asks M A E s κ S lt) {i sa na w1 nb w2 : Nat} {Q : Bool → SortSt → Prop} {st : SortSt} (hk : kindOf st = κ) (hf : failedOf st = none)
    (h1 : (pendingOf st)[i]? = some (sa, na, w1)) (h2 : (pendingOf st)[i + 1]? = some (sa + na, nb, w2)) (na0 : 0 < na) (nb0 : 0 < nb) (hz : sa + na + nb ≤ (arrOf st).size)
    (hA : (seg (arrOf st) sa na).Pairwise (Le lt)) (hB : (seg (arrOf st) (sa + na) nb).Pairwise (Le lt)) (hS : ∀ x ∈ (arrOf st).toList, S x)
    (h : ∀ st' m, kindOf st' = κ → failedOf st' = none → pendingOf st' = ((pendingOf st).setIfInBounds i (sa, na + nb, w1)).eraseIdxIfInBounds (i + 1) → Chg (arrOf st) (arrOf st') sa (na + nb) m → m.Pairwise (Le lt) → Q true st') :
    wpS M A E s (mergeAt' i) Q st := by
  cases st
  rename_i kd xs pd g f
  dsimp only [arrOf, kindOf, pendingOf, failedOf] at hk hf h1 h2 hz hA hB hS h
  subst hk hf
  have memS : ∀ i (hi : i < xs.size), S xs[i] := fun i hi => hS _ (Array.getElem_mem_toList hi)
  have at_ : ∀ i (hi : i < xs.size), xs[i]? = some xs[i] := fun i hi => getElem?_pos xs i hi
  have segS : ∀ i n, ∀ x ∈ seg xs i n, S x := fun i n x hx => hS x (List.mem_of_mem_drop (List.mem_of_mem_take hx))
  have stay : ∀ st', kindOf st' = kd → failedOf st' = none → pendingOf st' = (pd.setIfInBounds i (sa, na + nb, w1)).eraseIdxIfInBounds (i + 1) → arrOf st' = xs → (seg xs sa na ++ seg xs (sa + na) nb).Pairwise (Le lt) → Q true st' := by
    intro st' e1 e2 e3 e4 hs
    have e5 := seg_cut (xs := xs) (i := sa) (n := na + nb) (k := na) (by omega)
    rw [Nat.add_sub_cancel_left] at e5
    refine h st' _ e1 e2 e3 ⟨List.Perm.of_eq e5.symm, ?_⟩ hs
    show (arrOf st').toList = _
    rw [e4, ← e5]
    exact split3 xs sa (na + nb)
  have hb0 : ∀ {x : Keyed}, Le lt x xs[sa + na] → ∀ y ∈ seg xs (sa + na) nb, Le lt x y := by
    intro x hx y hy
    have hlen := seg_len (xs := xs) (i := sa + na) (n := nb) (by omega)
    have e : (seg xs (sa + na) nb)[0] = xs[sa + na] := by
      unfold seg
      rw [List.getElem_take, List.getElem_drop]
      rfl
    exact head_le L hB (i := 0) (by omega) (by rw [e]; exact hx) y hy
  unfold mergeAt'
  refine wpS_bind (wpS_get ?_)
  dsimp only
  rw [h1, h2]
  refine wpS_bind (wpS_set ?_)
  refine wpS_bind (wpS_elem (at_ (sa + na) (by omega)) ?_)
  refine wpS_bind (wpS_gal (b := sa) (n := na) L H rfl (memS _ (by omega)) (by omega) (segS sa na) hA na0 ?_)
  intro k kn hle hge
  dsimp only
  have hlenA := seg_len (xs := xs) (i := sa) (n := na) (by omega)
  have eA := seg_cut (xs := xs) (i := sa) (n := na) (k := k) kn
  have hA2 := hA
  rw [eA, List.pairwise_append] at hA2
  have hge : ∀ x ∈ seg xs (sa + k) (na - k), Le lt xs[sa + na] x := by
    have : ((xs.toList.drop sa).take na).drop k = seg xs (sa + k) (na - k) := by
      unfold seg; rw [List.drop_take, List.drop_drop]
    rw [this] at hge
    exact hge
  have hle : ∀ x ∈ seg xs sa k, Le lt x xs[sa + na] := hle
  by_cases c1 : (na - k == 0) = true
  · rw [if_pos c1]
    have c1 := beq_iff_eq.mp c1
    have : k = na := by omega
    subst this
    refine wpS_pure (stay _ rfl rfl rfl rfl ?_)
    rw [List.pairwise_append]
    exact ⟨hA, hB, fun x hx => hb0 (hle x hx)⟩
  rw [if_neg c1]
  have c1 : na - k ≠ 0 := fun e => c1 (beq_iff_eq.mpr e)
  have el : sa + k + (na - k) - 1 = sa + na - 1 := by omega
  rw [el]
  refine wpS_bind (wpS_elem (at_ (sa + na - 1) (by omega)) ?_)
  refine wpS_bind (wpS_gal (b := sa + na) (n := nb) L H rfl (memS _ (by omega)) (by omega) (segS (sa + na) nb) hB (by omega) ?_)
  intro k' kn' hle' hge'
  dsimp only
  have hge' : ∀ x ∈ seg xs (sa + na + k') (nb - k'), Le lt xs[sa + na - 1] x := by
    have : ((xs.toList.drop (sa + na)).take nb).drop k' = seg xs (sa + na + k') (nb - k') := by
      unfold seg; rw [List.drop_take, List.drop_drop]
    rw [this] at hge'
    exact hge'
  have hle' : ∀ x ∈ seg xs (sa + na) k', Le lt x xs[sa + na - 1] := hle'
  have lastA : ∀ {y : Keyed}, Le lt xs[sa + na - 1] y → ∀ x ∈ seg xs sa na, Le lt x y := by
    intro y hy x hx
    have e : (seg xs sa na)[na - 1] = xs[sa + na - 1] := by
      unfold seg
      rw [List.getElem_take, List.getElem_drop, Array.getElem_toList]
      congr 1
      omega
    have := last_ge L hA (i := na - 1) (by omega) (by rw [e]; exact hy) x
    rw [show na - 1 + 1 = na by omega, List.take_of_length_le (by omega)] at this
    exact this hx
  by_cases c2 : (k' == 0) = true
  · rw [if_pos c2]
    have c2 := beq_iff_eq.mp c2
    subst c2
    refine wpS_pure (stay _ rfl rfl rfl rfl ?_)
    rw [List.pairwise_append]
    exact ⟨hA, hB, fun x hx y hy => lastA (hge' y hy) x hx⟩
  rw [if_neg c2]
  have c2 : k' ≠ 0 := fun e => c2 (beq_iff_eq.mpr e)
  have eB := seg_cut (xs := xs) (i := sa + na) (n := nb) (k := k') kn'
  have hB2 := hB
  rw [eB, List.pairwise_append] at hB2
  have exx : (xs.extract (sa + k) (sa + na)).toList = seg xs (sa + k) (na - k) := by
    have := ext_toList xs (sa + k) (na - k) (by omega)
    rw [show sa + k + (na - k) = sa + na by omega] at this
    exact this
  have exy : (xs.extract (sa + na) (sa + na + k')).toList = seg xs (sa + na) k' := ext_toList xs (sa + na) k' (by omega)
  have sx : (xs.extract (sa + k) (sa + na)).size = na - k := by rw [Array.size_extract]; omega
  have sy : (xs.extract (sa + na) (sa + na + k')).size = k' := by rw [Array.size_extract]; omega
  have fin : ∀ (r : Array Keyed) (st' : SortSt), Sim (SortSt.mk' kd xs ((pd.setIfInBounds i (sa, na + nb, w1)).eraseIdxIfInBounds (i + 1)) g none) st' → Res lt (seg xs (sa + k) (na - k)) (seg xs (sa + na) k') r.toList →
      Q true (setArr st' (List.foldl (fun a (x : Keyed × Nat) => a.setIfInBounds (sa + k + x.2) x.1) (arrOf st') r.toList.zipIdx)) := by
    intro r st' sm hr
    have lr : r.toList.length = na - k + k' := by rw [hr.1.length_eq, List.length_append, seg_len (by omega), seg_len (by omega)]
    refine h _ (seg xs sa k ++ r.toList ++ seg xs (sa + na + k') (nb - k')) sm.kind sm.failed sm.pend ⟨?_, ?_⟩ ?_
    · have e5 := seg_cut (xs := xs) (i := sa) (n := na + nb) (k := na) (by omega)
      rw [Nat.add_sub_cancel_left, eA, eB] at e5
      rw [e5, List.append_assoc, List.append_assoc]
      refine List.Perm.append_left _ ?_
      rw [← List.append_assoc]
      exact List.Perm.append_right _ hr.1
    · show (List.foldl _ (arrOf st') _).toList = _
      rw [sm.arr]
      show (List.foldl _ xs _).toList = _
      have := laid (sa + k) r.toList 0 xs (by omega)
      rw [Nat.add_zero, lr] at this
      refine this.trans ?_
      have e1 : xs.toList.take (sa + k) = xs.toList.take sa ++ seg xs sa k := by unfold seg; rw [List.take_add]
      have e2 : xs.toList.drop (sa + k + (na - k + k')) = seg xs (sa + na + k') (nb - k') ++ xs.toList.drop (sa + (na + nb)) := by
        unfold seg
        have := List.take_append_drop (nb - k') (xs.toList.drop (sa + na + k'))
        rw [List.drop_drop] at this
        rw [show sa + k + (na - k + k') = sa + na + k' by omega, show sa + (na + nb) = sa + na + k' + (nb - k') by omega]
        exact this.symm
      rw [e1, e2]
      simp only [List.append_assoc]
    · rw [List.append_assoc, List.pairwise_append, List.pairwise_append]
      have mem : ∀ y ∈ r.toList, y ∈ seg xs (sa + k) (na - k) ∨ y ∈ seg xs (sa + na) k' := fun y hy => List.mem_append.mp (hr.1.mem_iff.mp hy)
      refine ⟨hA2.1, ⟨hr.2, hB2.2.1, fun x hx y hy => ?_⟩, fun x hx y hy => ?_⟩
      · rcases mem x hx with hx | hx
        · exact lastA (hge' y hy) x (by rw [eA]; exact List.mem_append_right _ hx)
        · exact hB2.2.2 x hx y hy
      · rcases List.mem_append.mp hy with hy | hy
        · rcases mem y hy with hy | hy
          · exact hA2.2.2 x hx y hy
          · exact hb0 (hle x hx) y (by rw [eB]; exact List.mem_append_left _ hy)
        · exact hb0 (hle x hx) y (by rw [eB]; exact List.mem_append_right _ hy)
  have e0 : ∀ (h0 : 0 < (xs.extract (sa + na) (sa + na + k')).size), (xs.extract (sa + na) (sa + na + k'))[0] = xs[sa + na] := fun h0 => by
    rw [Array.getElem_extract]; rfl
  have eL : ∀ y ∈ seg xs (sa + na) k', ∀ x ∈ (seg xs (sa + k) (na - k)).drop (na - k - 1), Le lt y x := by
    intro y hy x hx
    have e : (seg xs (sa + k) (na - k)).drop (na - k - 1) = [xs[sa + na - 1]] := by
      have hl := seg_len (xs := xs) (i := sa + k) (n := na - k) (by omega)
      rw [List.drop_eq_getElem_cons (by omega), List.drop_of_length_le (by omega)]
      congr 1
      unfold seg
      rw [List.getElem_take, List.getElem_drop, Array.getElem_toList]
      congr 1
      omega
    rw [e] at hx
    rw [List.mem_singleton.mp hx]
    exact hle' y hy
  by_cases c3 : na - k ≤ k'
  · rw [if_pos c3]
    refine wpS_bind (wpS_mergeLo L H rfl (by rw [exx]; exact hA2.2.1) (by rw [exy]; exact hB2.1) (by rw [exx]; exact segS _ _) (by rw [exy]; exact segS _ _) (by rw [sx]; omega) (by rw [sy]; omega) (by rw [exx, e0]; exact hge) (by rw [exx, exy, sx]; exact eL) fun r st' sm hr => ?_)
    rw [exx, exy] at hr
    refine wpS_bind (wpS_modify ?_)
    refine wpS_bind (wpS_get ?_)
    have := fin r st' sm hr
    refine wpS_pure ?_
    have ef : failedOf st' = none := sm.failed
    show Q (Option.isNone (failedOf st')) _
    rw [ef]
    exact this
  · rw [if_neg c3]
    refine wpS_bind (wpS_mergeHi L H rfl (by rw [exx]; exact hA2.2.1) (by rw [exy]; exact hB2.1) (by rw [exx]; exact segS _ _) (by rw [exy]; exact segS _ _) (by rw [sx]; omega) (by rw [sy]; omega) (by rw [exx, e0]; exact hge) (by rw [exx, exy, sx]; exact eL) fun r st' sm hr => ?_)
    rw [exx, exy] at hr
    refine wpS_bind (wpS_modify ?_)
    refine wpS_bind (wpS_get ?_)
    have := fin r st' sm hr
    refine wpS_pure ?_
    have ef : failedOf st' = none := sm.failed
    show Q (Option.isNone (failedOf st')) _
    rw [ef]
    exact this
end
end Ts
set_option linter.all false
set_option Elab.async false
set_option maxHeartbeats 4000000
namespace Ts
open PySem PyProof.Rows
def at' (xs : Array Keyed) (i : Nat) : Keyed := (xs[i]?).getD (.none, .none)
theorem at_congr {xs ys : Array Keyed} {i j : Nat} (h : xs[i]? = ys[j]?) : at' xs i = at' ys j := by unfold at'; rw [h]
theorem at_get {xs : Array Keyed} {i : Nat} (h : i < xs.size) : xs[i]? = some (at' xs i) := by unfold at'; rw [getElem?_pos xs i h]; rfl
def Up (lt : Keyed → Keyed → Bool) (xs : Array Keyed) (lo n : Nat) : Prop := ∀ p q, p ≤ q → q < n → Le lt (at' xs (lo + p)) (at' xs (lo + q))
def Down (lt : Keyed → Keyed → Bool) (xs : Array Keyed) (lo n : Nat) : Prop := ∀ p q, p ≤ q → q < n → Le lt (at' xs (lo + q)) (at' xs (lo + p))
structure Keep (xs ys : Array Keyed) (lo : Nat) : Prop where
 perm : ys.Perm xs
 low : ∀ j, j < lo → ys[j]? = xs[j]?
theorem Keep.refl (xs : Array Keyed) (lo : Nat) : Keep xs xs lo := ⟨Array.Perm.refl _, fun _ _ => rfl⟩
theorem Keep.trans {xs ys zs : Array Keyed} {lo : Nat} (h : Keep xs ys lo) (h' : Keep ys zs lo) : Keep xs zs lo := ⟨h'.perm.trans h.perm, fun j hj => (h'.low j hj).trans (h.low j hj)⟩
theorem Keep.size {xs ys : Array Keyed} {lo : Nat} (h : Keep xs ys lo) : ys.size = xs.size := h.perm.size_eq
theorem Keep.mem {xs ys : Array Keyed} {lo : Nat} {S : Keyed → Prop} (h : Keep xs ys lo) (hS : ∀ x ∈ xs.toList, S x) : ∀ x ∈ ys.toList, S x := fun x hx => hS x ((Array.perm_iff_toList_perm.mp h.perm).mem_iff.mp hx)
theorem keep_mirror {xs : Array Keyed} {lo i j : Nat} (hi : lo ≤ i) (hj : j ≤ xs.size) : Keep xs (mirror xs i j ((j - i) / 2)) lo := by
 refine ⟨mirror_perm _ _ _ _, fun k hk => ?_⟩
 rw [getElem?_mirror_all hj, if_neg (by omega)]
theorem at_mirror {xs : Array Keyed} {i j : Nat} (hj : j ≤ xs.size) (k : Nat) : at' (mirror xs i j ((j - i) / 2)) k = if i ≤ k ∧ k < j then at' xs (i + j - 1 - k) else at' xs k := by
 have := getElem?_mirror_all (i := i) hj k
 by_cases h : i ≤ k ∧ k < j
 ·rw [if_pos h] at this ⊢; exact at_congr this
 ·rw [if_neg h] at this ⊢; exact at_congr this
theorem at_bubble {xs : Array Keyed} {src d : Nat} (hs : src < xs.size) (hd : d ≤ src) (k : Nat) : at' (bubble xs src d) k = if k = src - d then at' xs src else if src - d < k ∧ k ≤ src then at' xs (k - 1) else at' xs k := by
 have := getElem?_bubble hs d hd k
 by_cases h : k = src - d
 ·rw [if_pos h] at this ⊢; exact at_congr this
 ·rw [if_neg h] at this ⊢
  by_cases h2 : src - d < k ∧ k ≤ src
  ·rw [if_pos h2] at this ⊢; exact at_congr this
  ·rw [if_neg h2] at this ⊢; exact at_congr this
section
variable {M : Model} {A : Around} {E : Value → Shared → Prop} {s : Shared}
theorem wpS_ltI {κ : SortKind} {S : Keyed → Prop} {lt : Keyed → Keyed → Bool} (H : Asks M A E s κ S lt) {i j : Nat} {Q : Option Bool → SortSt → Prop} {st : SortSt} (hk : kindOf st = κ) (hS : ∀ x ∈ (arrOf st).toList, S x) (hi : i < (arrOf st).size) (hj : j < (arrOf st).size)
  (h : Q (some (lt (at' (arrOf st) i) (at' (arrOf st) j))) st) : wpS M A E s (ltAt' i j) Q st := by
 rw [ltAt'_eq]
 refine wpS_bind (wpS_get ?_)
 refine wpS_bind (wpS_elem (at_get hi) ?_)
 refine wpS_bind (wpS_elem (at_get hj) ?_)
 have m : ∀ {i}, i < (arrOf st).size → S (at' (arrOf st) i) := fun {i} hi => hS _ (by rw [← Array.mem_def]; exact Array.mem_of_getElem? (at_get hi))
 exact H _ _ _ _ (m hi) (m hj) hk h
theorem wpS_rev {i j : Nat} {Q : Unit → SortSt → Prop} {st : SortSt} (h : Q () (setArr st (mirror (arrOf st) i j ((j - i) / 2)))) : wpS M A E s (reverseSlice' i j) Q st := by
 rw [reverseSlice'_eq]; exact wpS_modify h
theorem wpS_mov {i j : Nat} {Q : Unit → SortSt → Prop} {st : SortSt} (h : Q () (setArr st (bubble (arrOf st) i (i - j)))) : wpS M A E s (moveDown' i j) Q st := by
 rw [moveDown'_eq]; exact wpS_modify h
structure Re (st st' : SortSt) (lo : Nat) : Prop where
 kind : kindOf st' = kindOf st
 failed : failedOf st' = failedOf st
 pend : pendingOf st' = pendingOf st
 keep : Keep (arrOf st) (arrOf st') lo
theorem Re.refl (st : SortSt) (lo : Nat) : Re st st lo := ⟨rfl, rfl, rfl, Keep.refl _ _⟩
theorem Re.set {st st' : SortSt} {lo : Nat} (h : Re st st' lo) {ys : Array Keyed} (k : Keep (arrOf st') ys lo) : Re st (setArr st' ys) lo := ⟨h.kind, h.failed, h.pend, h.keep.trans k⟩
theorem wpS_binary {κ : SortKind} {S : Keyed → Prop} {lt : Keyed → Keyed → Bool} (L : Less lt) (H : Asks M A E s κ S lt) {lo n ok : Nat} {Q : Bool → SortSt → Prop} {st : SortSt} (hk : kindOf st = κ) (hS : ∀ x ∈ (arrOf st).toList, S x) (hn : lo + n ≤ (arrOf st).size) (hok : ok ≤ n) (hu : Up lt (arrOf st) lo ok)
  (h : ∀ st', Re st st' lo → Up lt (arrOf st') lo n → Q true st') : wpS M A E s (binarySort' lo n ok) Q st := by
 unfold binarySort'
 refine wpS_bind (wpS_mono (wpS_forRange (I := fun k (c : Option Bool × Unit) st' => c.1 = none ∧ Re st st' lo ∧ Up lt (arrOf st') lo (min k n)) (Q := fun (c : Option Bool × Unit) st' => c.1 = none ∧ Re st st' lo ∧ Up lt (arrOf st') lo n) ?step ?fin ?init) ?post)
 case init =>
  refine ⟨rfl, Re.refl _ _, fun p q hpq hq => ?_⟩
  by_cases h0 : q < ok
  ·exact hu p q hpq h0
  ·have e1 : q = 0 := by omega
   have e2 : p = 0 := by omega
   subst e1 e2
   exact L.le_refl _
 case fin =>
  rintro ⟨c, u⟩ st' ⟨e, r, hu'⟩
  refine ⟨e, r, ?_⟩
  rw [show min (max (max ok 1) n) n = n by omega] at hu'
  exact hu'
 case post =>
  rintro ⟨c, u⟩ st' ⟨e, r, hu'⟩
  dsimp only at e ⊢
  subst e
  exact wpS_pure (h st' r hu')
 case step =>
  rintro k ⟨c, u⟩ st1 hk1 hkn ⟨e, r, hu1⟩
  dsimp only at e hu1 ⊢
  rw [show min k n = k by omega] at hu1
  have sz := r.keep.size
  refine wpS_bind (wpS_mono (wpS_forRange (I := fun x (c : Option Bool × Nat × Nat) st' => c.1 = none ∧ st1 = st' ∧ c.2.1 ≤ c.2.2 ∧ c.2.2 ≤ k ∧ c.2.2 - c.2.1 + x ≤ k ∧ (∀ p, p < c.2.1 → Le lt (at' (arrOf st1) (lo + p)) (at' (arrOf st1) (lo + k))) ∧ (∀ p, c.2.2 ≤ p → p < k → Le lt (at' (arrOf st1) (lo + k)) (at' (arrOf st1) (lo + p))))
   (Q := fun (c : Option Bool × Nat × Nat) st' => c.1 = none ∧ st1 = st' ∧ c.2.1 = c.2.2 ∧ c.2.2 ≤ k ∧ (∀ p, p < c.2.1 → Le lt (at' (arrOf st1) (lo + p)) (at' (arrOf st1) (lo + k))) ∧ (∀ p, c.2.2 ≤ p → p < k → Le lt (at' (arrOf st1) (lo + k)) (at' (arrOf st1) (lo + p)))) ?step ?fin ?init) ?post)
  case init => exact ⟨rfl, rfl, Nat.zero_le _, Nat.le_refl _, by show k - 0 + 0 ≤ k; omega, fun p hp => absurd hp (by show ¬ p < 0; omega), fun p hp hpk => absurd hp (by show ¬ k ≤ p; omega)⟩
  case fin =>
   rintro ⟨c, l, r'⟩ st' ⟨e, e2, h1, h2, h3, h4, h5⟩
   dsimp only at e h1 h2 h3 h4 h5 ⊢
   exact ⟨e, e2, by omega, h2, h4, h5⟩
  case step =>
   rintro x ⟨c, l, r'⟩ st' _ hx ⟨e, rfl, h1, h2, h3, h4, h5⟩
   dsimp only at e h1 h2 h3 h4 h5 ⊢
   by_cases hd : l ≥ r'
   ·rw [if_pos hd]
    exact wpS_pure ⟨rfl, rfl, by show l = r'; omega, h2, h4, h5⟩
   ·rw [if_neg hd]
    refine wpS_bind (wpS_ltI H (r.kind.trans hk) (r.keep.mem hS) (by omega) (by omega) ?_)
    dsimp only
    cases hb : lt (at' (arrOf st1) (lo + k)) (at' (arrOf st1) (lo + (l + r') / 2)) with
    | true =>
     rw [if_pos rfl]
     refine wpS_pure ⟨rfl, rfl, by show l ≤ (l + r') / 2; omega, by show (l + r') / 2 ≤ k; omega, by show (l + r') / 2 - l + (x + 1) ≤ k; omega, h4, fun p hp hpk => ?_⟩
     exact L.trans (L.of_lt hb) (hu1 _ _ hp hpk)
    | false =>
     rw [if_neg (by simp)]
     refine wpS_pure ⟨rfl, rfl, by show (l + r') / 2 + 1 ≤ r'; omega, h2, by show r' - ((l + r') / 2 + 1) + (x + 1) ≤ k; omega, fun p hp => ?_, h5⟩
     have hp : p < (l + r') / 2 + 1 := hp
     exact L.trans (hu1 p ((l + r') / 2) (by omega) (by omega)) hb
  case post =>
   rintro ⟨c, l, r'⟩ st' ⟨e, rfl, h1, h2, h4, h5⟩
   dsimp only at e h1 h2 h4 h5 ⊢
   subst e h1
   dsimp only
   refine wpS_bind (wpS_mov ?_)
   have hd : lo + k - (lo + l) = k - l := by omega
   refine wpS_pure ⟨rfl, r.set ⟨bubble_perm _ _ _, fun j hj => ?_⟩, fun p q hpq hq => ?_⟩
   ·rw [getElem?_bubble (by omega) _ (by omega), if_neg (by omega), if_neg (by omega)]
   ·have hq : q < k + 1 := by omega
    show Le lt (at' (bubble _ _ _) _) (at' (bubble _ _ _) _)
    rw [at_bubble (by omega) (by omega), at_bubble (by omega) (by omega)]
    by_cases p1 : p < l
    ·rw [if_neg (by omega), if_neg (by omega)]
     by_cases q1 : q < l
     ·rw [if_neg (by omega), if_neg (by omega)]
      exact hu1 p q hpq (by omega)
     ·by_cases q2 : q = l
      ·rw [if_pos (by omega)]
       exact h4 p p1
      ·rw [if_neg (by omega), if_pos (by omega), show lo + q - 1 = lo + (q - 1) by omega]
       exact hu1 p (q - 1) (by omega) (by omega)
    ·by_cases p2 : p = l
     ·rw [if_pos (by omega)]
      by_cases q2 : q = l
      ·rw [if_pos (by omega)]; exact L.le_refl _
      ·rw [if_neg (by omega), if_pos (by omega), show lo + q - 1 = lo + (q - 1) by omega]
       exact h5 (q - 1) (by omega) (by omega)
     ·rw [if_neg (by omega), if_pos (by omega), if_neg (by omega), if_pos (by omega), show lo + q - 1 = lo + (q - 1) by omega, show lo + p - 1 = lo + (p - 1) by omega]
      exact hu1 (p - 1) (q - 1) (by omega) (by omega)
end
end Ts
set_option linter.all false
set_option Elab.async false
set_option maxHeartbeats 4000000
namespace Ts
open PySem PyProof.Rows
theorem Up.one {lt : Keyed → Keyed → Bool} (L : Less lt) (xs : Array Keyed) (lo : Nat) : Up lt xs lo 1 := fun p q hpq hq => by
 have e1 : q = 0 := by omega
 have e2 : p = 0 := by omega
 subst e1 e2
 exact L.le_refl _
theorem Up.succ {lt : Keyed → Keyed → Bool} (L : Less lt) {xs : Array Keyed} {lo n : Nat} (h : Up lt xs lo (n + 1)) (hb : Le lt (at' xs (lo + n)) (at' xs (lo + (n + 1)))) : Up lt xs lo (n + 1 + 1) := fun p q hpq hq => by
 by_cases hq1 : q < n + 1
 ·exact h p q hpq hq1
 ·have e : q = n + 1 := by omega
  subst e
  by_cases hp : p = n + 1
  ·subst hp; exact L.le_refl _
  ·exact L.trans (h p n (by omega) (by omega)) hb
theorem Down.succ {lt : Keyed → Keyed → Bool} (L : Less lt) {xs : Array Keyed} {lo n : Nat} (h : Down lt xs lo (n + 1)) (hb : Le lt (at' xs (lo + (n + 1))) (at' xs (lo + n))) : Down lt xs lo (n + 1 + 1) := fun p q hpq hq => by
 by_cases hq1 : q < n + 1
 ·exact h p q hpq hq1
 ·have e : q = n + 1 := by omega
  subst e
  by_cases hp : p = n + 1
  ·subst hp; exact L.le_refl _
  ·exact L.trans hb (h p n (by omega) (by omega))
def Alike (lt : Keyed → Keyed → Bool) (xs : Array Keyed) (lo n e : Nat) : Prop := ∀ p q, n ≤ p + (e + 1) → n ≤ q + (e + 1) → p < n → q < n → Le lt (at' xs (lo + p)) (at' xs (lo + q))
theorem down_mirror {lt : Keyed → Keyed → Bool} (L : Less lt) {xs : Array Keyed} {lo n e : Nat} (hn : lo + n ≤ xs.size) (he : e + 1 ≤ n) (hd : Down lt xs lo n) (ha : Alike lt xs lo n e) :
  Down lt (mirror xs (lo + n - (e + 1)) (lo + n) ((lo + n - (lo + n - (e + 1))) / 2)) lo n ∧ Alike lt (mirror xs (lo + n - (e + 1)) (lo + n) ((lo + n - (lo + n - (e + 1))) / 2)) lo n e ∧
  ∀ k, lo + n ≤ k → at' (mirror xs (lo + n - (e + 1)) (lo + n) ((lo + n - (lo + n - (e + 1))) / 2)) k = at' xs k := by
 have A : ∀ p, p < n → at' (mirror xs (lo + n - (e + 1)) (lo + n) ((lo + n - (lo + n - (e + 1))) / 2)) (lo + p) = if n ≤ p + (e + 1) then at' xs (lo + (n + n - (e + 1) - 1 - p)) else at' xs (lo + p) := by
  intro p hp
  rw [at_mirror (by omega)]
  by_cases c : n ≤ p + (e + 1)
  ·rw [if_pos (by omega), if_pos c]; congr 1; omega
  ·rw [if_neg (by omega), if_neg c]
 refine ⟨fun p q hpq hq => ?_, fun p q h1 h2 h3 h4 => ?_, fun k hk => ?_⟩
 ·rw [A p (by omega), A q (by omega)]
  by_cases c : n ≤ p + (e + 1)
  ·rw [if_pos c, if_pos (by omega)]
   exact ha _ _ (by omega) (by omega) (by omega) (by omega)
  ·rw [if_neg c]
   by_cases c2 : n ≤ q + (e + 1)
   ·rw [if_pos c2]
    exact hd p _ (by omega) (by omega)
   ·rw [if_neg c2]
    exact hd p q hpq hq
 ·rw [A p h3, A q h4, if_pos h1, if_pos h2]
  exact ha _ _ (by omega) (by omega) (by omega) (by omega)
 ·rw [at_mirror (by omega), if_neg (by omega)]
section
variable {M : Model} {A : Around} {E : Value → Shared → Prop} {s : Shared}
theorem wpS_count {κ : SortKind} {S : Keyed → Prop} {lt : Keyed → Keyed → Bool} (L : Less lt) (H : Asks M A E s κ S lt) {lo nrem : Nat} {Q : Option Nat → SortSt → Prop} {st : SortSt} (hk : kindOf st = κ) (hS : ∀ x ∈ (arrOf st).toList, S x) (hn : lo + nrem ≤ (arrOf st).size) (h1 : 1 ≤ nrem)
    (h : ∀ m st', 1 ≤ m → m ≤ nrem → Re st st' lo → Up lt (arrOf st') lo m → Q (some m) st') : wpS M A E s (countRun' lo nrem) Q st := by
  unfold countRun'
  refine wpS_bind (wpS_mono (wpS_forRange (I := fun x (c : Option (Option Nat) × Nat) st' => c.1 = none ∧ st = st' ∧ c.2 = x ∧ Up lt (arrOf st) lo x ∧ 1 ≤ x)
    (Q := fun (c : Option (Option Nat) × Nat) st' => c.1 = none ∧ st = st' ∧ 1 ≤ c.2 ∧ c.2 ≤ nrem ∧ Up lt (arrOf st) lo c.2 ∧ (c.2 < nrem → lt (at' (arrOf st) (lo + c.2)) (at' (arrOf st) (lo + (c.2 - 1))) = true)) ?step ?fin ⟨rfl, rfl, rfl, Up.one L _ _, Nat.le_refl _⟩) ?post)
  case fin =>
    rintro ⟨c, n⟩ st' ⟨e, rfl, e2, hu, hx⟩
    dsimp only at e e2 ⊢
    rw [show max 1 nrem = nrem by omega] at e2 hu
    subst e2
    exact ⟨e, rfl, h1, Nat.le_refl _, hu, fun z => absurd z (Nat.lt_irrefl _)⟩
  case step =>
    rintro x ⟨c, n⟩ st' hx1 hx ⟨e, rfl, e2, hu, _⟩
    dsimp only at e e2 ⊢
    subst e2
    refine wpS_bind (wpS_ltI H hk hS (by omega) (by omega) ?_)
    dsimp only
    cases hb : lt (at' (arrOf st) (lo + n)) (at' (arrOf st) (lo + n - 1)) with
    | true => exact wpS_pure ⟨rfl, rfl, hx1, by show n ≤ nrem; omega, hu, fun _ => by show lt _ (at' _ (lo + (n - 1))) = true; rw [show lo + (n - 1) = lo + n - 1 by omega]; exact hb⟩
    | false =>
      rw [if_neg (by simp)]
      obtain ⟨m, rfl⟩ : ∃ m, n = m + 1 := ⟨n - 1, by omega⟩
      exact wpS_pure ⟨rfl, rfl, rfl, hu.succ L hb, by omega⟩
  case post =>
    rintro ⟨c, n⟩ st' ⟨e, rfl, n1, n2, hu, hlt⟩
    dsimp only at e n1 n2 hu hlt ⊢
    subst e
    dsimp only
    by_cases c1 : (n == nrem) = true
    · rw [if_pos c1]
      exact wpS_pure (h n st n1 n2 (Re.refl _ _) hu)
    rw [if_neg c1]
    have c1 : n ≠ nrem := fun e => c1 (beq_iff_eq.mpr e)
    have hlt := hlt (by omega)
    -- what comes behind the first two parts
    have desc : ∀ st1, Re st st1 lo → Down lt (arrOf st1) lo (n + 1) → wpS M A E s (do
        let mut cc := n + 1
        let mut dd := 0
        for _ in [cc:nrem] do
          let some uu ← ltAt' (lo + cc) (lo + cc - 1) | return none
          if uu then
            if dd > 0 then reverseSlice' (lo + cc - (dd + 1)) (lo + cc)
            dd := 0
          else
            let some vv ← ltAt' (lo + cc - 1) (lo + cc) | return none
            if vv then break
            dd := dd + 1
          cc := cc + 1
        if dd > 0 then reverseSlice' (lo + cc - (dd + 1)) (lo + cc)
        reverseSlice' lo (lo + cc)
        for _ in [cc:nrem] do
          let some uu ← ltAt' (lo + cc) (lo + cc - 1) | return none
          if uu then break
          cc := cc + 1
        return some cc) Q st1 := by
      intro st1 r1 hd1
      refine wpS_bind (wpS_mono (wpS_forRange (I := fun x (c : Option (Option Nat) × Nat × Nat) st' => c.1 = none ∧ Re st st' lo ∧ c.2.1 = x ∧ n + 1 ≤ x ∧ x ≤ nrem ∧ c.2.2 + 1 ≤ x ∧ Down lt (arrOf st') lo x ∧ Alike lt (arrOf st') lo x c.2.2)
        (Q := fun (c : Option (Option Nat) × Nat × Nat) st' => c.1 = none ∧ Re st st' lo ∧ n + 1 ≤ c.2.1 ∧ c.2.1 ≤ nrem ∧ c.2.2 + 1 ≤ c.2.1 ∧ Down lt (arrOf st') lo c.2.1 ∧ Alike lt (arrOf st') lo c.2.1 c.2.2) ?step ?fin ⟨rfl, r1, rfl, Nat.le_refl _, by omega, by show 0 + 1 ≤ n + 1; omega, hd1, ?init⟩) ?post)
      case init =>
        intro p q hp hq hp2 hq2
        have hp : n + 1 ≤ p + (0 + 1) := hp
        have hq : n + 1 ≤ q + (0 + 1) := hq
        have : p = q := by omega
        subst this; exact L.le_refl _
      case fin =>
        rintro ⟨c, m, e⟩ st' ⟨e1, r, e2, x1, x2, x3, x4, x5⟩
        dsimp only at e1 e2 x3 x5 ⊢
        rw [show max (n + 1) nrem = nrem by omega] at e2 x1 x2 x3 x4 x5
        subst e2
        exact ⟨e1, r, x1, Nat.le_refl _, x3, x4, x5⟩
      case step =>
        rintro x ⟨c, m, e⟩ st' hx1 hx2 ⟨e1, r, e2, x1, x2, x3, x4, x5⟩
        dsimp only at e1 e2 x3 x5 ⊢
        subst e2
        have sz := r.keep.size
        obtain ⟨m', rfl⟩ : ∃ m', m = m' + 1 := ⟨m - 1, by omega⟩
        refine wpS_bind (wpS_ltI H (r.kind.trans hk) (r.keep.mem hS) (by omega) (by omega) ?_)
        dsimp only
        rw [show lo + (m' + 1) - 1 = lo + m' by omega]
        cases hb : lt (at' (arrOf st') (lo + (m' + 1))) (at' (arrOf st') (lo + m')) with
        | true =>
          rw [if_pos rfl]
          have one : ∀ xs : Array Keyed, Alike lt xs lo (m' + 1 + 1) 0 := by
            intro xs p q hp hq hp2 hq2
            have : p = q := by omega
            subst this; exact L.le_refl _
          by_cases c2 : e > 0
          · rw [if_pos c2]
            refine wpS_bind (wpS_rev ?_)
            obtain ⟨g1, g2, g3⟩ := down_mirror L (xs := arrOf st') (lo := lo) (n := m' + 1) (e := e) (by omega) x3 x4 x5
            refine wpS_pure ⟨rfl, r.set (keep_mirror (by omega) (by omega)), rfl, by omega, by omega, by show 0 + 1 ≤ m' + 1 + 1; omega, Down.succ L g1 ?_, one _⟩
            rw [g3 _ (by omega)]
            have : at' (mirror (arrOf st') (lo + (m' + 1) - (e + 1)) (lo + (m' + 1)) ((lo + (m' + 1) - (lo + (m' + 1) - (e + 1))) / 2)) (lo + m') = at' (arrOf st') (lo + (m' + 1 - (e + 1))) := by
              rw [at_mirror (by omega), if_pos (by omega)]; congr 1; omega
            rw [this]
            exact L.trans (L.of_lt hb) (x5 m' (m' + 1 - (e + 1)) (by omega) (by omega) (by omega) (by omega))
          · rw [if_neg c2]
            exact wpS_pure ⟨rfl, r, rfl, by omega, by omega, by show 0 + 1 ≤ m' + 1 + 1; omega, Down.succ L x4 (L.of_lt hb), one _⟩
        | false =>
          rw [if_neg (by simp)]
          refine wpS_bind (wpS_ltI H (r.kind.trans hk) (r.keep.mem hS) (by omega) (by omega) ?_)
          dsimp only
          cases hb2 : lt (at' (arrOf st') (lo + m')) (at' (arrOf st') (lo + (m' + 1))) with
          | true => exact wpS_pure ⟨rfl, r, x1, x2, x3, x4, x5⟩
          | false =>
            rw [if_neg (by simp)]
            refine wpS_pure ⟨rfl, r, rfl, by omega, by omega, by show e + 1 + 1 ≤ m' + 1 + 1; omega, Down.succ L x4 hb2, ?_⟩
            intro p q hp hq hp2 hq2
            have hp : m' + 1 + 1 ≤ p + (e + 1 + 1) := hp
            have hq : m' + 1 + 1 ≤ q + (e + 1 + 1) := hq
            by_cases p1 : p = m' + 1
            · subst p1
              by_cases q1 : q = m' + 1
              · subst q1; exact L.le_refl _
              · exact L.trans hb2 (x5 m' q (by omega) (by omega) (by omega) (by omega))
            · by_cases q1 : q = m' + 1
              · subst q1
                exact L.trans (x5 p m' (by omega) (by omega) (by omega) (by omega)) hb
              · exact x5 p q (by omega) (by omega) (by omega) (by omega)
      case post =>
        rintro ⟨c, m, e⟩ st2 ⟨e1, r, x1, x2, x3, x4, x5⟩
        dsimp only at e1 x1 x2 x3 x4 x5 ⊢
        subst e1
        dsimp only
        have last : ∀ st3, Re st st3 lo → Down lt (arrOf st3) lo m → wpS M A E s (do
            reverseSlice' lo (lo + m)
            let mut cc := m
            for _ in [cc:nrem] do
              let some uu ← ltAt' (lo + cc) (lo + cc - 1) | return none
              if uu then break
              cc := cc + 1
            return some cc) Q st3 := by
          intro st3 r3 hd3
          have sz := r3.keep.size
          refine wpS_bind (wpS_rev ?_)
          have r4 := r3.set (keep_mirror (xs := arrOf st3) (lo := lo) (i := lo) (j := lo + m) (Nat.le_refl _) (by omega))
          have u4 : Up lt (mirror (arrOf st3) lo (lo + m) ((lo + m - lo) / 2)) lo m := by
            intro p q hpq hq
            rw [at_mirror (by omega), at_mirror (by omega), if_pos (by omega), if_pos (by omega), show lo + (lo + m) - 1 - (lo + p) = lo + (m - 1 - p) by omega, show lo + (lo + m) - 1 - (lo + q) = lo + (m - 1 - q) by omega]
            exact hd3 _ _ (by omega) (by omega)
          generalize hst4 : setArr st3 (mirror (arrOf st3) lo (lo + m) ((lo + m - lo) / 2)) = st4 at r4
          have u4 : Up lt (arrOf st4) lo m := by rw [← hst4]; exact u4
          have sz4 := r4.keep.size
          refine wpS_bind (wpS_mono (wpS_forRange (I := fun x (c : Option (Option Nat) × Nat) st' => c.1 = none ∧ st4 = st' ∧ c.2 = x ∧ Up lt (arrOf st4) lo x ∧ m ≤ x)
            (Q := fun (c : Option (Option Nat) × Nat) st' => c.1 = none ∧ st4 = st' ∧ 1 ≤ c.2 ∧ c.2 ≤ nrem ∧ Up lt (arrOf st4) lo c.2) ?step ?fin ⟨rfl, rfl, rfl, u4, Nat.le_refl _⟩) ?post)
          case fin =>
            rintro ⟨c, y⟩ st' ⟨e, rfl, e2, hu, hx⟩
            dsimp only at e e2 ⊢
            rw [show max m nrem = nrem by omega] at e2 hu
            subst e2
            exact ⟨e, rfl, h1, Nat.le_refl _, hu⟩
          case step =>
            rintro x ⟨c, y⟩ st' hx1 hx ⟨e, rfl, e2, hu, _⟩
            dsimp only at e e2 ⊢
            subst e2
            refine wpS_bind (wpS_ltI H (r4.kind.trans hk) (r4.keep.mem hS) (by omega) (by omega) ?_)
            dsimp only
            cases hb : lt (at' (arrOf st4) (lo + y)) (at' (arrOf st4) (lo + y - 1)) with
            | true => exact wpS_pure ⟨rfl, rfl, by show 1 ≤ y; omega, by show y ≤ nrem; omega, hu⟩
            | false =>
              rw [if_neg (by simp)]
              obtain ⟨y', rfl⟩ : ∃ m, y = m + 1 := ⟨y - 1, by omega⟩
              exact wpS_pure ⟨rfl, rfl, rfl, hu.succ L hb, by omega⟩
          case post =>
            rintro ⟨c, y⟩ st' ⟨e, rfl, y1, y2, hu⟩
            dsimp only at e y1 y2 hu ⊢
            subst e
            exact wpS_pure (h y st4 y1 y2 r4 hu)
        have sz := r.keep.size
        by_cases c2 : e > 0
        · rw [if_pos c2]
          refine wpS_bind (wpS_rev ?_)
          obtain ⟨g1, g2, g3⟩ := down_mirror L (xs := arrOf st2) (lo := lo) (n := m) (e := e) (by omega) x3 x4 x5
          exact last _ (r.set (keep_mirror (by omega) (by omega))) g1
        · rw [if_neg c2]
          exact last _ r x4
    by_cases c2 : n > 1
    · rw [if_pos c2]
      refine wpS_bind (wpS_ltI H hk hS (by omega) (by omega) ?_)
      dsimp only
      cases hb : lt (at' (arrOf st) lo) (at' (arrOf st) (lo + n - 1)) with
      | true =>
        rw [if_pos rfl]
        exact wpS_pure (h n st n1 n2 (Re.refl _ _) hu)
      | false =>
        rw [if_neg (by simp)]
        refine wpS_bind (wpS_rev ?_)
        refine wpS_bind (wpS_lift (wpAny_rule ⟨rfl, ?_⟩))
        have all : ∀ p q, p < n → q < n → Le lt (at' (arrOf st) (lo + p)) (at' (arrOf st) (lo + q)) := by
          intro p q hp hq
          have hb' : Le lt (at' (arrOf st) (lo + (n - 1))) (at' (arrOf st) (lo + 0)) := by rw [show lo + (n - 1) = lo + n - 1 by omega]; exact hb
          exact L.trans (L.trans (hu p (n - 1) (by omega) (by omega)) hb') (hu 0 q (by omega) hq)
        refine desc _ ((Re.refl st lo).set (keep_mirror (Nat.le_refl _) (by omega))) ?_
        have A : ∀ p, p < n → at' (mirror (arrOf st) lo (lo + n) ((lo + n - lo) / 2)) (lo + p) = at' (arrOf st) (lo + (n - 1 - p)) := by
          intro p hp
          rw [at_mirror (by omega), if_pos (by omega)]; congr 1; omega
        have An : at' (mirror (arrOf st) lo (lo + n) ((lo + n - lo) / 2)) (lo + n) = at' (arrOf st) (lo + n) := by
          rw [at_mirror (by omega), if_neg (by omega)]
        intro p q hpq hq
        show Le lt (at' (mirror _ _ _ _) _) (at' (mirror _ _ _ _) _)
        by_cases q1 : q = n
        · subst q1
          by_cases p1 : p = q
          · subst p1; exact L.le_refl _
          · rw [An, A p (by omega)]
            exact L.trans (L.of_lt hlt) (all _ _ (by omega) (by omega))
        · rw [A p (by omega), A q (by omega)]
          exact all _ _ (by omega) (by omega)
    · rw [if_neg c2]
      refine wpS_bind (wpS_lift (wpAny_rule ⟨rfl, ?_⟩))
      refine desc _ (Re.refl st lo) ?_
      have e1 : n = 1 := by omega
      subst e1
      refine Down.succ L (fun p q hpq hq => ?_) (L.of_lt hlt)
      have e1 : q = 0 := by omega
      have e2 : p = 0 := by omega
      subst e1 e2
      exact L.le_refl _
end
end Ts
set_option linter.all false
set_option Elab.async false
set_option maxHeartbeats 4000000
namespace Ts
open PySem PyProof.Rows
theorem seg_get {xs : Array Keyed} {s n j : Nat} : (seg xs s n)[j]? = if j < n then xs[s + j]? else none := by
 unfold seg
 by_cases h : j < n
 ·rw [if_pos h, List.getElem?_take_of_lt h, List.getElem?_drop, Array.getElem?_toList]
 ·rw [if_neg h, List.getElem?_take_eq_none (by omega)]
theorem seg_eq {xs ys : Array Keyed} {s n : Nat} (h : ∀ j, s ≤ j → j < s + n → ys[j]? = xs[j]?) : seg ys s n = seg xs s n := by
 refine List.ext_getElem? fun j => ?_
 rw [seg_get, seg_get]
 by_cases c : j < n
 ·rw [if_pos c, if_pos c, h _ (by omega) (by omega)]
 ·rw [if_neg c, if_neg c]
theorem Up.seg {lt : Keyed → Keyed → Bool} {xs : Array Keyed} {lo n : Nat} (h : Up lt xs lo n) (hn : lo + n ≤ xs.size) : (seg xs lo n).Pairwise (Le lt) := by
 rw [List.pairwise_iff_getElem]
 intro i j hi hj hij
 have hl := seg_len hn
 have e : ∀ i (hi : i < (Ts.seg xs lo n).length), (Ts.seg xs lo n)[i] = at' xs (lo + i) := by
  intro i hi
  have h1 : (Ts.seg xs lo n)[i]? = some (Ts.seg xs lo n)[i] := List.getElem?_eq_getElem hi
  rw [seg_get, if_pos (by omega), at_get (by omega)] at h1
  exact (Option.some.inj h1).symm
 rw [e i hi, e j hj]
 exact h i j (by omega) (by omega)
def Runs (lt : Keyed → Keyed → Bool) (xs : Array Keyed) : Nat → List (Nat × Nat) → Nat → Prop
 | i, [], hi => i = hi
 | i, (s, n) :: ps, hi => s = i ∧ 1 ≤ n ∧ (seg xs s n).Pairwise (Le lt) ∧ Runs lt xs (i + n) ps hi
def kys (p : Array (Nat × Nat × Nat)) : List (Nat × Nat) := p.toList.map fun q => (q.1, q.2.1)
theorem Runs.app {lt : Keyed → Keyed → Bool} {xs : Array Keyed} : ∀ {l1 l2 : List (Nat × Nat)} {i hi : Nat}, Runs lt xs i (l1 ++ l2) hi ↔ ∃ m, Runs lt xs i l1 m ∧ Runs lt xs m l2 hi
 | [], l2, i, hi => ⟨fun h => ⟨i, rfl, h⟩, fun ⟨m, e, h⟩ => by cases e; exact h⟩
 | (s, n) :: l1, l2, i, hi => by
  constructor
  ·rintro ⟨h1, h2, h3, h4⟩
   obtain ⟨m, h5, h6⟩ := Runs.app.mp h4
   exact ⟨m, ⟨h1, h2, h3, h5⟩, h6⟩
  ·rintro ⟨m, ⟨h1, h2, h3, h5⟩, h6⟩
   exact ⟨h1, h2, h3, Runs.app.mpr ⟨m, h5, h6⟩⟩
theorem Runs.le {lt : Keyed → Keyed → Bool} {xs : Array Keyed} : ∀ {l : List (Nat × Nat)} {i hi : Nat}, Runs lt xs i l hi → i + l.length ≤ hi
 | [], i, hi, h => Nat.le_of_eq h
 | (s, n) :: l, i, hi, ⟨h1, h2, h3, h4⟩ => by
  have := Runs.le h4
  rw [List.length_cons]; omega
theorem Runs.congr {lt : Keyed → Keyed → Bool} {xs ys : Array Keyed} : ∀ {l : List (Nat × Nat)} {i hi : Nat}, Runs lt xs i l hi → (∀ j, i ≤ j → j < hi → ys[j]? = xs[j]?) → Runs lt ys i l hi
 | [], i, hi, h, _ => h
 | (s, n) :: l, i, hi, ⟨h1, h2, h3, h4⟩, h => by
  have := Runs.le h4
  refine ⟨h1, h2, ?_, Runs.congr h4 fun j hj => h j (by omega)⟩
  rw [seg_eq fun j h5 h6 => h j (by omega) (by omega)]
  exact h3
theorem Chg.get {xs ys : Array Keyed} {i n : Nat} {m : List Keyed} (h : Chg xs ys i n m) (hn : i + n ≤ xs.size) (j : Nat) : ys[j]? = if j < i then xs[j]? else if j < i + n then m[j - i]? else xs[j]? := by
 have hl : m.length = n := by rw [h.1.length_eq, seg_len hn]
 rw [← Array.getElem?_toList, h.2, List.append_assoc, List.getElem?_append, List.length_take, Array.length_toList, Nat.min_eq_left (by omega)]
 by_cases c : j < i
 ·rw [if_pos c, if_pos c, List.getElem?_take_of_lt c, Array.getElem?_toList]
 ·rw [if_neg c, if_neg c, List.getElem?_append, hl]
  by_cases c2 : j < i + n
  ·rw [if_pos (by omega), if_pos c2]
  ·rw [if_neg (by omega), if_neg c2, List.getElem?_drop, Array.getElem?_toList]
   congr 1; omega
theorem Chg.seg {xs ys : Array Keyed} {i n : Nat} {m : List Keyed} (h : Chg xs ys i n m) (hn : i + n ≤ xs.size) : Ts.seg ys i n = m := by
 have hl : m.length = n := by rw [h.1.length_eq, seg_len hn]
 refine List.ext_getElem? fun j => ?_
 rw [seg_get, h.get hn]
 by_cases c : j < n
 ·rw [if_pos c, if_neg (by omega), if_pos (by omega), show i + j - i = j by omega]
 ·rw [if_neg c, List.getElem?_eq_none (by omega)]
theorem Chg.perm {xs ys : Array Keyed} {i n : Nat} {m : List Keyed} (h : Chg xs ys i n m) : ys.Perm xs := by
 rw [Array.perm_iff_toList_perm, h.2]
 conv => rhs; rw [split3 xs i n]
 exact List.Perm.append_right _ (List.Perm.append_left _ h.1)
theorem Runs.merge {lt : Keyed → Keyed → Bool} {xs ys : Array Keyed} {l1 l2 : List (Nat × Nat)} {sa na sb nb hi : Nat} {m : List Keyed} (h : Runs lt xs 0 (l1 ++ (sa, na) :: (sb, nb) :: l2) hi) (hz : hi ≤ xs.size) (c : Chg xs ys sa (na + nb) m) (hm : m.Pairwise (Le lt)) : Runs lt ys 0 (l1 ++ (sa, na + nb) :: l2) hi := by
 obtain ⟨k, h1, h2, h3, h4, h5, h6, h7, h8⟩ := Runs.app.mp h
 subst h2 h5
 have e1 := Runs.le h1
 have e2 := Runs.le h8
 refine Runs.app.mpr ⟨sa, Runs.congr h1 fun j _ hj => ?_, rfl, by omega, ?_, ?_⟩
 ·rw [c.get (by omega), if_pos hj]
 ·rw [c.seg (by omega)]; exact hm
 ·rw [← Nat.add_assoc]
  refine Runs.congr h8 fun j hj _ => ?_
  rw [c.get (by omega), if_neg (by omega), if_neg (by omega)]
theorem list_at2 {l : List (Nat × Nat × Nat)} {i : Nat} {x y : Nat × Nat × Nat} (h1 : l[i]? = some x) (h2 : l[i + 1]? = some y) : l = l.take i ++ x :: y :: l.drop (i + 2) ∧ (l.take i).length = i := by
 have hi := (List.getElem?_eq_some_iff.mp h1).1
 have hi2 := (List.getElem?_eq_some_iff.mp h2).1
 refine ⟨?_, by rw [List.length_take]; omega⟩
 have e1 := (List.getElem?_eq_some_iff.mp h1).2
 have e2 := (List.getElem?_eq_some_iff.mp h2).2
 conv => lhs; rw [← List.take_append_drop i l, List.drop_eq_getElem_cons hi, List.drop_eq_getElem_cons hi2, e1, e2]
theorem ite_lt {c : Prop} [Decidable c] {n : Nat} (h : ¬ n ≤ 1) : (if c then n - 2 - 1 else n - 2) + 1 < n := by split <;> omega
section
variable {M : Model} {A : Around} {E : Value → Shared → Prop} {s : Shared}
structure Inv (κ : SortKind) (lt : Keyed → Keyed → Bool) (a0 : Array Keyed) (st : SortSt) (lo : Nat) : Prop where
 kind : kindOf st = κ
 failed : failedOf st = none
 perm : (arrOf st).Perm a0
 runs : Runs lt (arrOf st) 0 (kys (pendingOf st)) lo
theorem Inv.mem {κ : SortKind} {lt : Keyed → Keyed → Bool} {a0 : Array Keyed} {st : SortSt} {lo : Nat} {S : Keyed → Prop} (h : Inv κ lt a0 st lo) (hS : ∀ x ∈ a0.toList, S x) : ∀ x ∈ (arrOf st).toList, S x := fun x hx => hS x ((Array.perm_iff_toList_perm.mp h.perm).mem_iff.mp hx)
theorem wpS_mergeI {κ : SortKind} {S : Keyed → Prop} {lt : Keyed → Keyed → Bool} (L : Less lt) (H : Asks M A E s κ S lt) {a0 : Array Keyed} {i lo : Nat} {Q : Bool → SortSt → Prop} {st : SortSt} (I : Inv κ lt a0 st lo) (hS : ∀ x ∈ a0.toList, S x) (hz : lo ≤ a0.size) (hi : i + 1 < (pendingOf st).size)
  (h : ∀ st', Inv κ lt a0 st' lo → (pendingOf st').size + 1 = (pendingOf st).size → (∀ j, lo ≤ j → (arrOf st')[j]? = (arrOf st)[j]?) → Q true st') : wpS M A E s (mergeAt' i) Q st := by
 have sz := I.perm.size_eq
 obtain ⟨⟨sa, na, w1⟩, h1⟩ : ∃ x, (pendingOf st)[i]? = some x := ⟨_, getElem?_pos _ i (by omega)⟩
 obtain ⟨⟨sb, nb, w2⟩, h2⟩ : ∃ x, (pendingOf st)[i + 1]? = some x := ⟨_, getElem?_pos _ (i + 1) hi⟩
 have g1 : (pendingOf st).toList[i]? = some (sa, na, w1) := by rw [Array.getElem?_toList]; exact h1
 have g2 : (pendingOf st).toList[i + 1]? = some (sb, nb, w2) := by rw [Array.getElem?_toList]; exact h2
 obtain ⟨e, le⟩ := list_at2 g1 g2
 have r := I.runs
 unfold kys at r
 rw [e, List.map_append, List.map_cons, List.map_cons] at r
 obtain ⟨k, r1, r2, r3, r4, r5, r6, r7, r8⟩ := Runs.app.mp r
 dsimp only at r2 r3 r4 r5 r6 r7 r8
 subst r2 r5
 have l1 := Runs.le r1
 have l8 := Runs.le r8
 refine wpS_mergeAt L H I.kind I.failed h1 h2 r3 r6 (by omega) r4 r7 (I.mem hS) fun st' m e1 e2 e3 c hm => ?_
 have eP : (pendingOf st').toList = (pendingOf st).toList.take i ++ (sa, na + nb, w1) :: (pendingOf st).toList.drop (i + 2) := by
  rw [e3, Array.toList_eraseIdxIfInBounds, Array.toList_setIfInBounds]
  conv => lhs; rw [e]
  rw [List.set_append_right _ _ (by omega), le, Nat.sub_self, List.set_cons_zero, List.eraseIdx_append_of_length_le (by omega), le, show i + 1 - i = 1 by omega]
  rfl
 refine h st' ⟨e1, e2, c.perm.trans I.perm, ?_⟩ ?_ fun j hj => ?_
 ·unfold kys
  rw [eP, List.map_append, List.map_cons]
  exact Runs.merge r (by omega) c hm
 ·rw [← Array.length_toList, eP, ← Array.length_toList (xs := pendingOf st)]
  conv => rhs; rw [e]
  simp only [List.length_append, List.length_cons]
  omega
 ·rw [c.get (by omega), if_neg (by omega), if_neg (by omega)]
theorem Inv.push {κ : SortKind} {lt : Keyed → Keyed → Bool} {a0 : Array Keyed} {st : SortSt} {lo n : Nat} (I : Inv κ lt a0 st lo) (hs : (seg (arrOf st) lo n).Pairwise (Le lt)) (hn : 1 ≤ n) : Inv κ lt a0 (setPending st ((pendingOf st).push (lo, n, 0))) (lo + n) := by
 refine ⟨I.kind, I.failed, I.perm, ?_⟩
 show Runs lt (arrOf st) 0 (kys ((pendingOf st).push (lo, n, 0))) (lo + n)
 unfold kys
 rw [Array.toList_push, List.map_append]
 exact Runs.app.mpr ⟨lo, I.runs, rfl, hn, hs, rfl⟩
theorem kys_modify {p : Array (Nat × Nat × Nat)} {k w : Nat} : kys (p.modify k fun x => (x.1, x.2.1, w)) = kys p := by
 unfold kys
 refine List.ext_getElem? fun j => ?_
 rw [List.getElem?_map, List.getElem?_map, Array.getElem?_toList, Array.getElem?_toList, Array.getElem?_modify]
 by_cases c : k = j
 ·rw [if_pos c]
  cases p[j]? <;> rfl
 ·rw [if_neg c]
theorem Inv.modif {κ : SortKind} {lt : Keyed → Keyed → Bool} {a0 : Array Keyed} {st : SortSt} {lo k w : Nat} (I : Inv κ lt a0 st lo) : Inv κ lt a0 (setPending st ((pendingOf st).modify k fun x => (x.1, x.2.1, w))) lo := by
 refine ⟨I.kind, I.failed, I.perm, ?_⟩
 show Runs lt (arrOf st) 0 (kys ((pendingOf st).modify k fun x => (x.1, x.2.1, w))) lo
 rw [kys_modify]
 exact I.runs
theorem wpS_ite {α : Type} {c : Prop} [Decidable c] {t e : StateT SortSt Sem α} {Q : α → SortSt → Prop} {st : SortSt} (h1 : c → wpS M A E s t Q st) (h2 : ¬ c → wpS M A E s e Q st) : wpS M A E s (if c then t else e) Q st := by
 by_cases h : c
 ·rw [if_pos h]; exact h1 h
 ·rw [if_neg h]; exact h2 h
theorem wpS_sort {κ : SortKind} {S : Keyed → Prop} {lt : Keyed → Keyed → Bool} (L : Less lt) (H : Asks M A E s κ S lt) {Q : Unit → SortSt → Prop} {st : SortSt} (hk : kindOf st = κ) (hf : failedOf st = none) (hp : pendingOf st = #[]) (hS : ∀ x ∈ (arrOf st).toList, S x)
  (h : ∀ st', (arrOf st').Perm (arrOf st) → failedOf st' = none → (arrOf st').toList.Pairwise (Le lt) → Q () st') : wpS M A E s sortRuns' Q st := by
 have I0 : Inv κ lt (arrOf st) st 0 := ⟨hk, hf, Array.Perm.refl _, by rw [hp]; rfl⟩
 generalize ha : arrOf st = a0 at hS h I0
 unfold sortRuns'
 refine wpS_bind (wpS_get ?_)
 have ez : (arrOf st).size = a0.size := by rw [ha]
 dsimp only
 refine wpS_bind (wpS_mono (wpS_forRange (I := fun x (c : Option Unit × Nat) st' => c.1 = none ∧ Inv κ lt a0 st' c.2 ∧ x ≤ c.2 ∧ c.2 ≤ a0.size) (Q := fun (c : Option Unit × Nat) st' => c.1 = none ∧ Inv κ lt a0 st' a0.size) ?step ?fin ⟨rfl, I0, Nat.le_refl _, Nat.zero_le _⟩) ?post)
 case fin =>
  rintro ⟨c, lo⟩ st' ⟨e, I, h1, h2⟩
  have h1 : max 0 (arrOf st).size ≤ lo := h1
  have h2 : lo ≤ a0.size := h2
  have e2 : lo = a0.size := by omega
  subst e2
  exact ⟨e, I⟩
 case step =>
  rintro x ⟨c, lo⟩ st1 _ hx ⟨e, I, h1, h2⟩
  dsimp only at e I h1 h2 ⊢
  generalize hN : (arrOf st).size = N at hx ez ⊢
  have sz := I.perm.size_eq
  refine wpS_ite (fun hd => ?_) (fun hd => ?_)
  ·have e2 : lo = a0.size := by omega
   subst e2
   exact wpS_pure ⟨rfl, I⟩
  ·refine wpS_bind (wpS_count L H I.kind (I.mem hS) (by omega) (by omega) fun m st2 m1 m2 r2 u2 => ?_)
   dsimp only
   refine wpS_ite (fun hm => ?_) (fun hm => ?_)
   ·have sz2 := r2.keep.size
    refine wpS_bind (wpS_lift (wpAny_rule ⟨rfl, ?_⟩))
    refine wpS_bind (wpS_binary L H (r2.kind.trans I.kind) (r2.keep.mem (I.mem hS)) (by omega) (by omega) u2 fun st3 r3' u3 => ?_)
    rw [if_neg (by simp)]
    have r3 : Re st1 st3 lo := ⟨r3'.kind.trans r2.kind, r3'.failed.trans r2.failed, r3'.pend.trans r2.pend, r2.keep.trans r3'.keep⟩
    have sz3 := r3.keep.size
    have sg := u3.seg (by omega)
    have I3 : Inv κ lt a0 st3 lo := ⟨r3.kind.trans I.kind, r3.failed.trans I.failed, r3.keep.perm.trans I.perm, by rw [r3.pend]; exact Runs.congr I.runs fun j _ hj => r3.keep.low j hj⟩
    refine wpS_bind (wpS_get ?_)
    cases hb : (pendingOf st3).back? with
    | none =>
     dsimp only
     refine wpS_bind (wpS_modify ?_)
     exact wpS_pure ⟨rfl, I3.push sg (by omega), by dsimp only; omega, by dsimp only; omega⟩
    | some t =>
     obtain ⟨s1, n1, w1⟩ := t
     dsimp only
     refine wpS_bind (wpS_mono (wpS_forRange (I := fun x (c : Option Unit × Unit) st' => c.1 = none ∧ Inv κ lt a0 st' lo ∧ ∀ j, lo ≤ j → (arrOf st')[j]? = (arrOf st3)[j]?) (Q := fun (c : Option Unit × Unit) st' => c.1 = none ∧ Inv κ lt a0 st' lo ∧ ∀ j, lo ≤ j → (arrOf st')[j]? = (arrOf st3)[j]?) ?_ (fun _ _ z => z) ⟨rfl, I3, fun _ _ => rfl⟩) ?_)
     ·rintro y ⟨c, u⟩ st4 _ _ ⟨e, I4, k4⟩
      refine wpS_bind (wpS_get ?_)
      by_cases hz : (pendingOf st4).size > 1
      ·rw [if_pos hz]
       obtain ⟨⟨q1, q2, q3⟩, hq⟩ : ∃ q, (pendingOf st4)[(pendingOf st4).size - 2]? = some q := ⟨_, getElem?_pos _ _ (by omega)⟩
       rw [hq]
       dsimp only
       refine wpS_ite (fun _ => ?_) (fun _ => ?_)
       ·exact wpS_pure ⟨rfl, I4, k4⟩
       ·refine wpS_bind (wpS_mergeI L H I4 hS (by omega) (by show (pendingOf st4).size - 2 + 1 < (pendingOf st4).size; omega) fun st5 I5 _ k5 => ?_)
        rw [if_neg (by simp)]
        exact wpS_pure ⟨rfl, I5, fun j hj => (k5 j hj).trans (k4 j hj)⟩
      ·rw [if_neg hz]
       exact wpS_pure ⟨rfl, I4, k4⟩
     ·rintro ⟨c, u⟩ st4 ⟨e, I4, k4⟩
      dsimp only at e ⊢
      subst e
      dsimp only
      refine wpS_bind (wpS_modify ?_)
      refine wpS_bind (wpS_modify ?_)
      have sg4 := sg
      rw [← seg_eq (ys := arrOf st4) fun j hj _ => k4 j hj] at sg4
      exact wpS_pure ⟨rfl, I4.modif.push sg4 (by omega), by dsimp only; omega, by dsimp only; omega⟩
   ·have r3 := r2
    have u3 := u2
    have sz3 := r3.keep.size
    have sg := u3.seg (by omega)
    generalize st2 = st3 at r3 u3 sz3 sg ⊢
    have I3 : Inv κ lt a0 st3 lo := ⟨r3.kind.trans I.kind, r3.failed.trans I.failed, r3.keep.perm.trans I.perm, by rw [r3.pend]; exact Runs.congr I.runs fun j _ hj => r3.keep.low j hj⟩
    refine wpS_bind (wpS_get ?_)
    cases hb : (pendingOf st3).back? with
    | none =>
     dsimp only
     refine wpS_bind (wpS_modify ?_)
     exact wpS_pure ⟨rfl, I3.push sg (by omega), by dsimp only; omega, by dsimp only; omega⟩
    | some t =>
     obtain ⟨s1, n1, w1⟩ := t
     dsimp only
     refine wpS_bind (wpS_mono (wpS_forRange (I := fun x (c : Option Unit × Unit) st' => c.1 = none ∧ Inv κ lt a0 st' lo ∧ ∀ j, lo ≤ j → (arrOf st')[j]? = (arrOf st3)[j]?) (Q := fun (c : Option Unit × Unit) st' => c.1 = none ∧ Inv κ lt a0 st' lo ∧ ∀ j, lo ≤ j → (arrOf st')[j]? = (arrOf st3)[j]?) ?_ (fun _ _ z => z) ⟨rfl, I3, fun _ _ => rfl⟩) ?_)
     ·rintro y ⟨c, u⟩ st4 _ _ ⟨e, I4, k4⟩
      refine wpS_bind (wpS_get ?_)
      by_cases hz : (pendingOf st4).size > 1
      ·rw [if_pos hz]
       obtain ⟨⟨q1, q2, q3⟩, hq⟩ : ∃ q, (pendingOf st4)[(pendingOf st4).size - 2]? = some q := ⟨_, getElem?_pos _ _ (by omega)⟩
       rw [hq]
       dsimp only
       refine wpS_ite (fun _ => ?_) (fun _ => ?_)
       ·exact wpS_pure ⟨rfl, I4, k4⟩
       ·refine wpS_bind (wpS_mergeI L H I4 hS (by omega) (by show (pendingOf st4).size - 2 + 1 < (pendingOf st4).size; omega) fun st5 I5 _ k5 => ?_)
        rw [if_neg (by simp)]
        exact wpS_pure ⟨rfl, I5, fun j hj => (k5 j hj).trans (k4 j hj)⟩
      ·rw [if_neg hz]
       exact wpS_pure ⟨rfl, I4, k4⟩
     ·rintro ⟨c, u⟩ st4 ⟨e, I4, k4⟩
      dsimp only at e ⊢
      subst e
      dsimp only
      refine wpS_bind (wpS_modify ?_)
      refine wpS_bind (wpS_modify ?_)
      have sg4 := sg
      rw [← seg_eq (ys := arrOf st4) fun j hj _ => k4 j hj] at sg4
      exact wpS_pure ⟨rfl, I4.modif.push sg4 (by omega), by dsimp only; omega, by dsimp only; omega⟩
 case post =>
  rintro ⟨c, lo⟩ st1 ⟨e, I⟩
  dsimp only at e ⊢
  subst e
  dsimp only
  have sz := I.perm.size_eq
  have n0 : (pendingOf st1).size ≤ a0.size := by
   have := Runs.le I.runs
   unfold kys at this
   rw [List.length_map, Array.length_toList] at this
   omega
  refine wpS_bind (wpS_mono (wpS_forRange (I := fun x (c : Option Unit × Unit) st' => c.1 = none ∧ Inv κ lt a0 st' a0.size ∧ ((pendingOf st').size + x ≤ a0.size ∨ (pendingOf st').size ≤ 1)) (Q := fun (c : Option Unit × Unit) st' => c.1 = none ∧ Inv κ lt a0 st' a0.size ∧ (pendingOf st').size ≤ 1) ?step ?fin ⟨rfl, I, .inl n0⟩) ?post)
  case fin =>
   rintro ⟨c, u⟩ st' ⟨e, I, h1⟩
   refine ⟨e, I, ?_⟩
   have h1 : (pendingOf st').size + max 0 (arrOf st).size ≤ a0.size ∨ (pendingOf st').size ≤ 1 := h1
   omega
  case step =>
   rintro x ⟨c, u⟩ st2 _ hx ⟨e, I, h1⟩
   dsimp only at e h1 ⊢
   refine wpS_bind (wpS_get ?_)
   refine wpS_ite (fun hd => ?_) (fun hd => ?_)
   ·exact wpS_pure ⟨rfl, I, hd⟩
   ·refine wpS_bind (wpS_mergeI L H I hS (Nat.le_refl _) ?_ fun st3 I3 h3 _ => ?_)
    ·have hd : ¬ (pendingOf st2).size ≤ 1 := hd
     exact ite_lt hd
    ·rw [if_neg (by simp)]
     refine wpS_pure ⟨rfl, I3, ?_⟩
     show (pendingOf st3).size + (x + 1) ≤ a0.size ∨ (pendingOf st3).size ≤ 1
     have hd : ¬ (pendingOf st2).size ≤ 1 := hd
     omega
  case post =>
   rintro ⟨c, u⟩ st2 ⟨e, I, h1⟩
   dsimp only at e h1 ⊢
   subst e
   have r := I.runs
   have szz := I.perm.size_eq
   refine wpS_pure (h st2 I.perm I.failed ?_)
   match hq : kys (pendingOf st2), r with
   | [], r =>
    have r : 0 = a0.size := r
    have : (arrOf st2).toList = [] := List.eq_nil_of_length_eq_zero (by rw [Array.length_toList]; omega)
    rw [this]
    exact List.Pairwise.nil
   | [(s1, n1)], ⟨r1, r2, r3, r4⟩ =>
    have r4 : 0 + n1 = a0.size := r4
    subst r1
    have : seg (arrOf st2) 0 n1 = (arrOf st2).toList := by
     unfold seg
     rw [List.drop_zero, List.take_of_length_le (by rw [Array.length_toList]; omega)]
    rw [this] at r3
    exact r3
   | x :: y :: l, r =>
    have : (kys (pendingOf st2)).length = (pendingOf st2).size := by unfold kys; rw [List.length_map, Array.length_toList]
    rw [hq, List.length_cons, List.length_cons] at this
    omega
end
end Ts
set_option linter.all false
set_option Elab.async false
set_option maxHeartbeats 4000000
set_option maxRecDepth 100000
namespace Ts
open PySem PyProof.Rows PySem.W
section
variable {prog : Program} {w : World} {A : Around} {E : Value → Shared → Prop} {s : Shared}
def Sorts (prog : Program) (w : World) (s : Shared) (a : Addr) (ks : List Value) (κ : SortKind) (S : Keyed → Prop) (lt : Keyed → Keyed → Bool) : Prop :=
 ∀ (A : Around) (E : Value → Shared → Prop) (h : Heap), (∀ b o, b ≠ a → s.heap.get? b = some o → h.get? b = some o) →
  (2 ≤ ks.length → ∀ Q, Q κ { s with heap := h } → wpAny (model prog w) A (keyKind' ks.toArray) Q E { s with heap := h }) ∧ Asks (model prog w) A E { s with heap := h } κ S lt
theorem sort_any {κ : SortKind} {S : Keyed → Prop} {lt : Keyed → Keyed → Bool} (L : Less lt) {a : Addr} {vs : List Value} {n : Nat} {P : Fin → Shared → Prop} (ho : s.heap.get? a = some (seqObj "list" vs.toArray n)) (hz : vs.length ≤ sizeLine)
  (hs : Sorts prog w s a vs κ S lt) (hS : ∀ x ∈ (pairsOf vs).toList, S x)
  (h : ∀ out : Array Keyed, out.Perm (pairsOf vs) → out.toList.Pairwise (Le lt) → P (.done (.ret .none)) { s with heap := sortedHeap s.heap a vs (out.map (·.2)) }) :
  wpAny (model prog w) A (Builtin.«list.sort» ⟨[.ref a], []⟩) P E s := by
 rw [list_sort_plain]
 have ha : a < s.heap.objs.size := Heap.lt_size ho
 have hsz : vs.toArray.size = vs.length := by simp
 refine wpAny_bind (listItems_at ho rfl ?_)
 refine wpAny_bind (listUpdate_at ho rfl ?_ (by omega) (Nat.zero_le _))
 obtain ⟨e1, ho1⟩ : ∃ e1, (s.heap.update a (Obj.mapSeq fun _ => #[])).get? a = some (seqObj "list" #[] e1) := ⟨_, get?_update_seq ho (fun _ => #[])⟩
 refine wpAny_bind (seqEpoch_at ho1 rfl ?_)
 refine wpAny_bind (wpAny_newTuple ?_ (by first | exact hz | (simp; exact hz)))
 refine wpAny_bind (wpAny_newList ?_)
 refine wpAny_holding ?_
 show wpAny (model prog w) A _ P E { s with heap := ((s.heap.update a (Obj.mapSeq fun _ => #[])).push (seqObj "tuple" vs.toArray 0)).push (seqObj "list" #[] 0) }
 generalize hH6 : ((s.heap.update a (Obj.mapSeq fun _ => #[])).push (seqObj "tuple" vs.toArray 0)).push (seqObj "list" #[] 0) = h6
 have ho6 : h6.get? a = some (seqObj "list" #[] e1) := by
  rw [← hH6, Heap.get?_push_ne _ _ _ (by rw [size_push', Heap.size_update]; exact Nat.ne_of_lt (Nat.lt_succ_of_lt ha)), Heap.get?_push_ne _ _ _ (by rw [Heap.size_update]; exact Nat.ne_of_lt ha)]
  exact ho1
 have keep : ∀ b o, b ≠ a → s.heap.get? b = some o → h6.get? b = some o := fun b o hb q => by
  rw [← hH6]
  exact Heap.get?_push_of_some _ (Heap.get?_push_of_some _ ((Heap.get?_update_other _ _ (Ne.symm hb)).trans q))
 have fin : ∀ out : Array Keyed, out.Perm (pairsOf vs) → out.toList.Pairwise (Le lt) → P (.done (.ret .none)) { s with heap := h6.update a (Obj.mapSeq fun _ => out.map (·.2)) } := by
  intro out hp hs
  rw [← hH6]
  exact h out hp hs
 dsimp only
 obtain ⟨hk, hasks⟩ := hs A E h6 keep
 by_cases h2 : vs.toArray.size < 2
 ·rw [if_pos h2, if_pos h2]
  refine wpAny_bind (wpAny_pure ?_)
  rw [StateT.run_pure]
  refine wpAny_bind (wpAny_pure ?_)
  dsimp only
  refine wpAny_bind (seqEpoch_at ho6 rfl ?_)
  refine wpAny_bind (listUpdate_at ho6 rfl ?_ (by simp) (by rw [Array.size_map]; show (pairsOf vs).size ≤ _; rw [pairsOf_size, sizeLine_eq]; omega))
  simp only [bne_self_eq_false, Bool.false_eq_true, if_false]
  refine wpAny_pure (fin (vs.toArray.zip vs.toArray) (Array.Perm.refl _) ?_)
  show (pairsOf vs).toList.Pairwise _
  rw [pairsOf_toList]
  match vs, hsz, h2 with
  | [], _, _ => exact List.Pairwise.nil
  | [v], _, _ => exact List.pairwise_singleton _ _
  | v₁ :: v₂ :: rest, e, h2 => simp at h2; omega
 ·rw [if_neg h2, if_neg h2]
  refine wpAny_bind (hk (by omega) _ ?_)
  refine wpAny_bind (wpAny_mono (wpS_sort (E := E) (s := { s with heap := h6 }) (A := A) L hasks (st := SortSt.mk' κ (vs.toArray.zip vs.toArray) #[] 7 none)
   (Q := fun _ st' => (arrOf st').Perm (pairsOf vs) ∧ failedOf st' = none ∧ (arrOf st').toList.Pairwise (Le lt)) rfl rfl rfl hS fun st' a1 a2 a3 => ⟨a1, a2, a3⟩) ?_ fun _ _ e => e)
  rintro ⟨⟨⟩, st'⟩ s' ⟨rfl, hp, hf, hs⟩
  dsimp only
  refine wpAny_bind (seqEpoch_at ho6 rfl ?_)
  refine wpAny_bind (listUpdate_at ho6 rfl ?_ (by simp) (by refine Nat.le_trans (Nat.le_of_eq ((Array.size_map ..).trans (hp.size_eq.trans (pairsOf_size _)))) ?_; omega))
  rw [hf]
  simp only [bne_self_eq_false, Bool.false_eq_true, if_false]
  exact wpAny_pure (fin _ hp hs)
end
def plt (p q : Int × Int) : Bool := decide (p.1 < q.1) || (decide (p.1 = q.1) && decide (p.2 < q.2))
def ple (p q : Int × Int) : Prop := p.1 < q.1 ∨ (p.1 = q.1 ∧ p.2 ≤ q.2)
theorem plt_f {p q : Int × Int} : plt p q = false ↔ ple q p := by
 unfold plt ple
 rw [Bool.or_eq_false_iff, Bool.and_eq_false_iff, decide_eq_false_iff_not, decide_eq_false_iff_not, decide_eq_false_iff_not]
 omega
theorem plt_t {p q : Int × Int} : plt p q = true ↔ p.1 < q.1 ∨ (p.1 = q.1 ∧ p.2 < q.2) := by
 unfold plt
 rw [Bool.or_eq_true, Bool.and_eq_true, decide_eq_true_eq, decide_eq_true_eq, decide_eq_true_eq]
theorem less_pairs (g : Value → Int × Int) : Less fun x y => plt (g x.1) (g y.1) := by
 constructor
 ·intro x y h
  have h := plt_t.mp h
  refine plt_f.mpr ?_
  unfold ple
  omega
 ·intro x y z h1 h2
  have h1 := plt_f.mp h1
  have h2 := plt_f.mp h2
  refine plt_f.mpr ?_
  unfold ple at h1 h2 ⊢
  omega
section
variable {prog : Program} {w : World} {s : Shared}
theorem asks_of {M : Model} {A : Around} {E : Value → Shared → Prop} {s : Shared} {κ : SortKind} {S : Keyed → Prop} {lt : Keyed → Keyed → Bool} (h : ∀ x y, S x → S y → ∀ (Q' : Bool → Shared → Prop) (E' : Value → Shared → Prop), Q' (lt x y) s → wpAny M A (keyLt' κ x.1 y.1) Q' E' s) : Asks M A E s κ S lt := by
 intro x y st Q hx hy hk q
 rw [lt'_eq]
 refine wpS_bind (wpS_get ?_)
 rw [hk]
 refine wpS_bind (wpS_lift (wpAny_attempt (h x y hx hy _ _ ⟨rfl, ?_⟩)))
 exact wpS_pure q
def PairAt (h : Heap) (v : Value) (p : Int × Int) : Prop := ∃ b o t u n, v = .ref b ∧ h.get? b = some o ∧ o.cls = .type "tuple" ∧ o.data = .seq #[.int p.1 t, .int p.2 u] n
theorem pairs_lt {A : Around} {E : Value → Shared → Prop} {v u : Value} {p q : Int × Int} {Q : Bool → Shared → Prop} (hv : PairAt s.heap v p) (hu : PairAt s.heap u q) (h : Q (plt p q) s) : wpAny (model prog w) A (keyLt' (tuples' true) v u) Q E s := by
 obtain ⟨b, o, t1, t2, n, rfl, h1, _, d1⟩ := hv
 obtain ⟨c, o2, t3, t4, m, rfl, h2, _, d2⟩ := hu
 refine kat_lt h1 d1 h2 d2 ?_
 refine kat_cons (wpAny_eqBool_int ?_)
 refine kat_go (fun e => kat_yes ?_) (fun e => kat_no ?_)
 ·have e1 : p.1 = q.1 := by simpa using e
  refine kat_cons (wpAny_eqBool_int ?_)
  refine kat_go (fun e => kat_yes ?_) (fun e => kat_no ?_)
  ·have e2 : p.2 = q.2 := by simpa using e
   refine kat_nil ?_
   have : plt p q = false := plt_f.mpr (by unfold ple; omega)
   rw [this] at h
   exact h
  ·have e2 : ¬ p.2 = q.2 := by simpa using e
   refine kat_one _ _ (wpAny_lt_int ?_)
   show Q _ _
   have : plt p q = decide (p.2 < q.2) := by unfold plt; rw [e1]; simp
   rw [this] at h
   exact h
 ·have e1 : ¬ p.1 = q.1 := by simpa using e
  refine oneLt_int ?_
  have : plt p q = decide (p.1 < q.1) := by unfold plt; simp [e1]
  rw [this] at h
  exact h
theorem sorts_pairs {a : Addr} {vs : List Value} {g : Value → Int × Int} (hv : ∀ v ∈ vs, PairAt s.heap v (g v) ∧ v ≠ .ref a) : Sorts prog w s a vs (tuples' true) (fun x => x ∈ (pairsOf vs).toList) (fun x y => plt (g x.1) (g y.1)) := by
  intro A E h keep
  have hv' : ∀ v ∈ vs, PairAt h v (g v) := by
    intro v hm
    obtain ⟨⟨b, o, t, u, n, rfl, h1, h2, h3⟩, hne⟩ := hv v hm
    exact ⟨b, o, t, u, n, rfl, keep b o (fun e => hne (by rw [e])) h1, h2, h3⟩
  refine ⟨fun h2 Q q => ?_, ?_⟩
  · have key : ∀ (us : List Value), (∀ v ∈ us, PairAt h v (g v)) → ∃ fs, KatTups h us fs ∧ fs.length = us.length ∧ ∀ f ∈ fs, ∃ i t, f = .int i t := by
      intro us
      induction us with
      | nil => intro _; exact ⟨[], KatTups.nil, rfl, fun f hf => nomatch hf⟩
      | cons v us ih =>
        intro hu
        obtain ⟨fs, k1, k2, k3⟩ := ih fun v hv => hu v (List.mem_cons_of_mem _ hv)
        obtain ⟨b, o, t, u, n, e, h1, h2, h3⟩ := hu v List.mem_cons_self
        refine ⟨.int (g v).1 t :: fs, ?_, by rw [List.length_cons, List.length_cons, k2], fun f hf => ?_⟩
        · rw [e]
          rw [e] at h3
          exact KatTups.cons h1 h2 h3 rfl k1
        · rcases List.mem_cons.mp hf with rfl | hf
          · exact ⟨_, _, rfl⟩
          · exact k3 f hf
    obtain ⟨fs, k1, k2, k3⟩ := key vs hv'
    refine kat_kind (T := .type "int") k1 (by omega) (fun f hf => ?_) (by decide) ?_
    · obtain ⟨i, t, rfl⟩ := k3 f hf
      exact Looks.of_pure rfl
    · have : (Value.type "int" != Value.type "tuple") = true := by decide
      rw [this]
      exact q
  · refine asks_of fun x y hx hy Q' E' q => ?_
    rw [pairsOf_toList] at hx hy
    exact pairs_lt (hv' _ (mem_zip_self hx).2) (hv' _ (mem_zip_self hy).2) q
end
end Ts
set_option Elab.async false
set_option linter.all false
set_option maxRecDepth 100000
set_option maxHeartbeats 4000000
namespace L2
open PySem PySem.Spec PyProof.Rows
def PtV (H : Hp) (v : V) (p : Int × Int) : Prop := ∃ b, v = .ref b ∧ H b = some (.tup [.int p.1, .int p.2])
def toV : Value → V
 | .ref b => .ref b
 | _ => .non
theorem vals_refs : ∀ {us : List Value}, (∀ u ∈ us, ∃ b, u = .ref b) → Vals (us.map toV) us
 | [], _ => .nil
 | u :: us, h => by
  obtain ⟨b, rfl⟩ := h u List.mem_cons_self
  exact .cons rfl (vals_refs fun u hu => h u (List.mem_cons_of_mem _ hu))
end L2
set_option linter.all false
set_option Elab.async false
set_option maxHeartbeats 4000000
namespace Sm
abbrev Pnt := Int × Int
def oth (nb : Pnt → List Pnt) (a b : Pnt) : List Pnt := (nb b).filter fun c => !decide (c = a)
def fin : Pnt → Pnt → List Pnt → Pnt × Pnt
 | a, b, [] => (a, b)
 | _, b, c :: l => fin b c l
section
variable {nb : Pnt → List Pnt}
end
end Sm
set_option linter.all false
set_option Elab.async false
set_option maxHeartbeats 4000000
namespace Sm
section
variable {nb : Pnt → List Pnt}
end
end Sm
set_option Elab.async false
set_option linter.all false
set_option maxRecDepth 100000
set_option maxHeartbeats 4000000
namespace Ts
open PySem PyProof.Rows PySem.W
section
variable {prog : Program} {w : World} {A : Around} {E : Value → Shared → Prop} {s : Shared}
end
end Ts
namespace L2
open PySem PySem.Spec PyProof.Rows
section
variable {K : PySem.W.Frag} {σ : St} {H : Hp} {Q : VK} {te : TE} {tt : TT} {cap : List (Option Nat)} {l : Addr}
end
end L2
set_option Elab.async false
set_option linter.all false
set_option maxRecDepth 100000
set_option maxHeartbeats 4000000
namespace Ts
open PySem PyProof.Rows PySem.W
end Ts
namespace L2
open PySem PySem.Spec PyProof.Rows PySem.W
section
variable {X : Cx} {pins : List (Addr × Obj)} {σ : St} {H H1 H2 : Hp} {s0 s s' : Shared}
end
end L2
set_option Elab.async false
set_option linter.all false
set_option maxHeartbeats 4000000
namespace Sm
section
variable {nb : Pnt → List Pnt}
end
end Sm
set_option Elab.async false
set_option linter.all false
set_option maxRecDepth 100000
set_option maxHeartbeats 4000000
namespace L2
open PySem PySem.Spec PyProof.Rows PySem.W
section
variable {prog : Program} {w : World} {κ : Type} [DecidableEq κ] {kd : HeapKind prog w κ} {A : Around} {E : Value → Shared → Prop} {s : Shared} {d a : Addr} {xs : List (κ × Addr × Value)} {k : κ} {v : Value}
end
section
variable {X : Cx} {pins : List (Addr × Obj)} {σ : St} {H : Hp} {s : Shared} {a b : Addr} {z : V} {r : Value} {A : Around} {E : Value → Shared → Prop} {kvs : List (List Key × V)} {k : List Key}
end
end L2
set_option Elab.async false
set_option linter.all false
set_option maxRecDepth 100000
set_option maxHeartbeats 4000000
namespace L2
open PySem PySem.Spec PyProof.Rows PySem.W
section
variable {X : Cx} (K : PySem.W.Frag) (hK : X.K = K) (hc : X.calm = true)
include hK hc
end
end L2
set_option Elab.async false
set_option linter.all false
set_option maxHeartbeats 4000000
namespace NR
def grid (n m : Nat) (F : Int × Int → Int) : Int := sm n fun x => sm m fun y => F ((x : Int), (y : Int))
end NR
namespace Sm
end Sm
set_option Elab.async false
set_option linter.all false
set_option maxRecDepth 100000
set_option maxHeartbeats 4000000
namespace L2
open PySem PySem.Spec PyProof.Rows PySem.W
end L2
set_option Elab.async false
set_option linter.all false
set_option maxHeartbeats 4000000
namespace Sm
section
variable {nb nb' : Pnt → List Pnt}
end
end Sm
set_option Elab.async false
set_option linter.all false
set_option maxRecDepth 100000
set_option maxHeartbeats 4000000
namespace L2
open PySem PySem.Spec PyProof.Rows
theorem compW_zip5 {K : PySem.W.Frag} {σ : St} {H : Hp} {Q : VK} {te : TE} {l a b : Addr} {xs ys : List V} (F : Nat → V) (hx : H a = some (.lst xs)) (hy : H b = some (.lst ys)) (he : xs.length = ys.length) (hz : xs.length ≤ 5000) (hl : H l = none)
  (step : ∀ (i : Nat) x y H' (Q' : VK), xs[i]? = some x → ys[i]? = some y → Same H H' → (∀ H5, Same H' H5 → Q' (F i) H5) → te [some x, some y] H' Q')
  (fin : ∀ H', Same H H' → H' l = some (.lst ((List.range xs.length).map F)) → Q (.ref l) H') : CompW (Itz K a b) (gTup K 2 (gCons (gName 0) (gCons (gName 1) gNil))) tTrue te [none, none] l σ H Q := by
 refine ⟨xs.length, fun i zs σ' H' => zs = (List.range i).map F ∧ (∃ o o', σ' = [o, o']) ∧ Same H H' ∧ H' l = some (.lst zs), ⟨rfl, ⟨none, none, rfl⟩, Same.new hl, upd_same⟩, ?_, ?_⟩
 ·rintro i zs σ' H' hi ⟨rfl, ⟨o, o', rfl⟩, s, e⟩
  refine ⟨⟨xs, ys, xs[i], ys[i]'(by omega), SqL.of (s _ _ hx), SqL.of (s _ _ hy), by simp [hi], by simp⟩, fun v H2 z => ?_⟩
  obtain ⟨T, rfl, hT, z⟩ := z
  obtain ⟨x, y, ex, ey, rfl⟩ := z xs ys (SqL.of (s _ _ hx)) (SqL.of (s _ _ hy))
  have sT := Same.new (o := HO.tup [x, y]) hT
  refine rd_gtup upd_same rfl (rd_gcons (rd_name (rd_gcons (rd_name (rd_gnil (rd_true (iteT ?_)))))))
  refine step i x y _ _ ex ey (s.trans sT) fun H5 s5 => ⟨s5 _ _ (sT _ _ e), ?_, ?_⟩
  ·rw [List.length_map, List.length_range]
   exact Nat.lt_of_lt_of_le (by omega : i < 6000) (by decide)
  ·refine ⟨?_, ⟨_, _, rfl⟩, ((s.trans sT).trans s5).later hl, upd_same⟩
   rw [List.range_succ, List.map_append]
   rfl
 ·rintro zs σ' H' ⟨rfl, _, s, e⟩
  exact ⟨⟨xs, ys, SqL.of (s _ _ hx), SqL.of (s _ _ hy), .inl (Nat.le_refl _)⟩, fin H' s e⟩
theorem compW_zipT5 {K : PySem.W.Frag} {σ : St} {H : Hp} {Q : VK} {te : TE} {l a b : Addr} {xs ys : List V} (F : Nat → V) (hx : H a = some (.tup xs)) (hy : H b = some (.tup ys)) (he : xs.length = ys.length) (hz : xs.length ≤ 5000) (hl : H l = none)
  (step : ∀ (i : Nat) x y H' (Q' : VK), xs[i]? = some x → ys[i]? = some y → Same H H' → (∀ H5, Same H' H5 → Q' (F i) H5) → te [some x, some y] H' Q')
  (fin : ∀ H', Same H H' → H' l = some (.lst ((List.range xs.length).map F)) → Q (.ref l) H') : CompW (Itzt K a b) (gTup K 2 (gCons (gName 0) (gCons (gName 1) gNil))) tTrue te [none, none] l σ H Q := by
 refine ⟨xs.length, fun i zs σ' H' => zs = (List.range i).map F ∧ (∃ o o', σ' = [o, o']) ∧ Same H H' ∧ H' l = some (.lst zs), ⟨rfl, ⟨none, none, rfl⟩, Same.new hl, upd_same⟩, ?_, ?_⟩
 ·rintro i zs σ' H' hi ⟨rfl, ⟨o, o', rfl⟩, s, e⟩
  refine ⟨⟨xs, ys, xs[i], ys[i]'(by omega), SqT.of (s _ _ hx), SqT.of (s _ _ hy), by simp [hi], by simp⟩, fun v H2 z => ?_⟩
  obtain ⟨T, rfl, hT, z⟩ := z
  obtain ⟨x, y, ex, ey, rfl⟩ := z xs ys (SqT.of (s _ _ hx)) (SqT.of (s _ _ hy))
  have sT := Same.new (o := HO.tup [x, y]) hT
  refine rd_gtup upd_same rfl (rd_gcons (rd_name (rd_gcons (rd_name (rd_gnil (rd_true (iteT ?_)))))))
  refine step i x y _ _ ex ey (s.trans sT) fun H5 s5 => ⟨s5 _ _ (sT _ _ e), ?_, ?_⟩
  ·rw [List.length_map, List.length_range]
   exact Nat.lt_of_lt_of_le (by omega : i < 6000) (by decide)
  ·refine ⟨?_, ⟨_, _, rfl⟩, ((s.trans sT).trans s5).later hl, upd_same⟩
   rw [List.range_succ, List.map_append]
   rfl
 ·rintro zs σ' H' ⟨rfl, _, s, e⟩
  exact ⟨⟨xs, ys, SqT.of (s _ _ hx), SqT.of (s _ _ hy), Nat.le_refl _⟩, fin H' s e⟩
end L2
set_option Elab.async false
set_option linter.all false
set_option maxRecDepth 100000
set_option maxHeartbeats 4000000
namespace L2
open PySem PySem.Spec PyProof.Rows PySem.W
section
variable {X : Cx} {pins : List (Addr × Obj)} {σ : St} {H H' : Hp} {s : Shared} {h' : Heap}
end
section
variable {X : Cx}
end
end L2
set_option Elab.async false
set_option linter.all false
set_option maxRecDepth 100000
set_option maxHeartbeats 4000000
namespace L2
open PySem PySem.Spec PyProof.Rows PySem.W
def RawAt (d : Addr) (es : Array DictEntry) (ep : Nat) (h : Heap) : Prop := ∃ o, h.get? d = some o ∧ o.ExactDict ∧ o.data = .dict es ep
section
variable {prog : Program} {w : World} {A : Around} {E : Value → Shared → Prop} {s : Shared} {d it : Addr} {es : Array DictEntry} {ep i n : Nat}
theorem RawAt.ty (r : RawAt d es ep s.heap) : s.TypeIs (.ref d) "dict" := let ⟨o, e, x, _⟩ := r; ⟨o, e, x.1⟩
theorem RawAt.lt {h : Heap} (r : RawAt d es ep h) : d < h.objs.size := let ⟨_, e, _⟩ := r; Heap.lt_size e
theorem RawAt.mv {h h' : Heap} (r : RawAt d es ep h) (k : ∀ o, h.get? d = some o → h'.get? d = some o) : RawAt d es ep h' := let ⟨o, e, x⟩ := r; ⟨o, k o e, x⟩
theorem raw_iter {Q : Value → Shared → Prop} (lo : (d == sysModules) = false) (r : RawAt d es ep s.heap)
  (q : Q (.ref s.heap.objs.size) { s with heap := s.heap.push { cls := .type "dict_keyiterator", data := .fields #[.ref d, .int 0 0, .int es.size 0, .int ep 0] } }) : wpAny (model prog w) A (pyIter (.ref d)) Q E s := by
 obtain ⟨ob, eo, xo, dto⟩ := id r
 refine wpAny_pyIter_slot r.ty F.slot_dict_iter (wpAny_call_entry F.slot_dict_iter r.ty F.entry_dict_iter ?g1 (F.args_dict_iter_1 _))
 case g1 =>
  unfold Builtin.«dict.__iter__» Builtin.Dict.dictSlotNone
  have sh : Builtin.Dict.showsAll d = pure () := by unfold Builtin.Dict.showsAll; rw [lo]; rfl
  refine wpAny_bind (wpAny_bind (wpAny_notOrdered_dict r.ty (show wpAny _ _ (pure (Value.ref d)) _ _ s from wpAny_pure (show wpAny _ _ (Builtin.Dict.showsAll d >>= _) _ _ s from ?g2))))
  case g2 =>
   rw [sh]
   refine wpAny_bind (wpAny_pure (wpAny_bind (wpAny_dictEntries eo dto (wpAny_bind (wpAny_dictEpoch eo dto (wpAny_bind (wpAny_newObj_type (wpAny_pure ⟨_, rfl, "dict_keyiterator", _, ⟨_, Heap.get?_push_size _ rfl, rfl⟩, F.slot_dict_keyiterator_next.lookup, ?g3⟩))))))))
   case g3 => simpa [rawInt] using q
theorem own_no : Builtin.Dict_items.ownsTuple "dict_keyiterator" = false := by decide
theorem raw_item {e : DictEntry} {Q : Option Value → Shared → Prop} (hit : s.heap.IsKeyIter it d i es.size ep) (r : RawAt d es ep s.heap) (hx : es[i]? = some e)
  (q : ∀ h', h'.IsKeyIter it d (i + 1) es.size ep → Heap.SameBut it s.heap h' → Q (some e.key) { s with heap := h' }) : wpAny (model prog w) A (pyNext (.ref it)) Q E s := by
 obtain ⟨oi, ei, ci, di⟩ := id hit
 obtain ⟨ob, eo, xo, dto⟩ := id r
 obtain ⟨hlt, hxe⟩ := Array.getElem?_eq_some_iff.mp hx
 have nn : ¬ ((i : Int) < 0) := Int.not_lt.mpr (Int.natCast_nonneg i)
 have hn : (s.heap.update it (Obj.mapFields (·.setIfInBounds 1 (rawInt ((i : Int) + 1))))).IsKeyIter it d (i + 1) es.size ep :=
  ⟨_, Heap.get?_update_self _ ei (Obj.isFreed_of_fields (Obj.data_mapFields di _)), (Obj.cls_mapFields ..).trans ci, (Obj.data_mapFields di _).trans (by simp [rawInt])⟩
 unfold pyNext
 refine wpAny_bind (wpAny_attempt (wpAny_callSpecial?_slot (name := Str.ofString "__next__") hit.typeIs F.slot_dict_keyiterator_next (wpAny_call_entry F.slot_dict_keyiterator_next hit.typeIs F.entry_dict_keyiterator_next ?g1 (F.args_dict_keyiterator_next_1 _))))
 case g1 =>
  refine wpAny_bind (wpAny_pure (wpAny_bind (wpAny_bind (wpAny_bind (wpAny_typeNameOfWhole_keyiter hit.typeIs (wpAny_pure (wpAny_bind (wpAny_fieldsOf ei di ?g2))))))))
  case g2 =>
   simp only [own_no, Bool.false_eq_true, if_false]
   (show wpAny _ _ (if (Value.ref d == Value.none) = true then _ else _) _ _ s; rw [show (Value.ref d == Value.none) = false from rfl, if_neg Bool.false_ne_true])
   refine wpAny_bind (wpAny_pure (wpAny_bind (wpAny_dictEntries eo dto ?g3)))
   case g3 =>
    rw [if_neg (by simp)]
    refine wpAny_bind (wpAny_pure (wpAny_bind (wpAny_dictEpoch eo dto ?g4)))
    case g4 =>
     rw [if_neg (by simp)]
     refine wpAny_pure ?g5
     case g5 =>
      simp only [nn, if_false, Int.toNat_natCast, hx]
      refine wpAny_bind (wpAny_bind (wpAny_typeNameOfWhole_keyiter hit.typeIs (wpAny_pure (wpAny_bind (wpAny_isOneOf_keyiter hit.typeIs (show wpAny _ _ (setField (.ref it) 1 (rawInt ((i : Int) + 1)) >>= _) _ _ s from wpAny_bind (wpAny_setField ei di (by simp) (wpAny_bind (wpAny_holding (wpAny_bind (wpAny_isOneOf_keyiter hn.typeIs ?g6)))))))))))
      case g6 =>
       show wpAny _ _ (pure e.key) _ _ _
       exact wpAny_pure (wpAny_pure ⟨_, rfl, wpAny_pure (q _ hn (Heap.SameBut.update ..))⟩)
theorem raw_end {Q : Option Value → Shared → Prop} (hh : A.handled = none) (hit : s.heap.IsKeyIter it d es.size es.size ep) (r : RawAt d es ep s.heap)
  (q : ∀ h', Heap.ExtBut it s.heap h' → Q none { s with heap := h' }) : wpAny (model prog w) A (pyNext (.ref it)) Q E s := by
 obtain ⟨oi, ei, ci, di⟩ := id hit
 obtain ⟨ob, eo, xo, dto⟩ := id r
 have nn : ¬ ((es.size : Int) < 0) := Int.not_lt.mpr (Int.natCast_nonneg _)
 have hx : es[es.size]? = none := Array.getElem?_eq_none (Nat.le_refl _)
 unfold pyNext
 refine wpAny_bind (wpAny_attempt (wpAny_callSpecial?_slot (name := Str.ofString "__next__") hit.typeIs F.slot_dict_keyiterator_next (wpAny_call_entry F.slot_dict_keyiterator_next hit.typeIs F.entry_dict_keyiterator_next ?g1 (F.args_dict_keyiterator_next_1 _))))
 case g1 =>
  refine wpAny_bind (wpAny_pure (wpAny_bind (wpAny_bind (wpAny_bind (wpAny_typeNameOfWhole_keyiter hit.typeIs (wpAny_pure (wpAny_bind (wpAny_fieldsOf ei di ?g2))))))))
  case g2 =>
   simp only [own_no, Bool.false_eq_true, if_false]
   (show wpAny _ _ (if (Value.ref d == Value.none) = true then _ else _) _ _ s; rw [show (Value.ref d == Value.none) = false from rfl, if_neg Bool.false_ne_true])
   refine wpAny_bind (wpAny_pure (wpAny_bind (wpAny_dictEntries eo dto ?g3)))
   case g3 =>
    rw [if_neg (by simp)]
    refine wpAny_bind (wpAny_pure (wpAny_bind (wpAny_dictEpoch eo dto ?g4)))
    case g4 =>
     rw [if_neg (by simp)]
     refine wpAny_pure ?g5
     case g5 =>
      simp only [nn, if_false, Int.toNat_natCast, hx]
      refine wpAny_bind (wpAny_bind (wpAny_typeNameOfWhole_keyiter hit.typeIs (wpAny_pure (show wpAny _ _ (setField (.ref it) 0 .none >>= _) _ _ s from wpAny_bind (wpAny_setField ei di (by simp) (show wpAny _ _ (newExc (.type "StopIteration") [] >>= _) _ _ _ from wpAny_bind ?g6))))))
      case g6 =>
       simp only [newExc, newTuple]
       refine wpAny_bind (wpAny_newObj_type (wpAny_bind (m := firstArgMember _ _) (wpAny_of_eq (a := Value.none) (by first | rfl | (simp only [firstArgMember]; rfl)) (wpAny_newObj_type ?g7 (by size_fits)))) (by size_fits))
       case g7 =>
        simp only [raiseNew]
        refine wpAny_bind (wpAny_handled ?g8)
        case g8 =>
         (rw [show A.in1.handled = none from hh]; refine wpAny_bind (wpAny_pure (wpAny_throw ?g9)))
         case g9 => exact wpAny_bind (wpAny_isInstance (T := "StopIteration") (b := true) ⟨_, Heap.get?_push_size _ rfl, rfl⟩ isSubtype_stop (wpAny_pure (q _ (((Heap.SameBut.update ..).extBut.push _).push _))))
theorem raw_src (lo : (d == sysModules) = false) : KdlSrc prog w "dict" d d es.size (fun i v => ∃ e, es[i]? = some e ∧ v = e.key) (RawAt d es ep) where
 type := fun _ r => r.ty
 there := fun _ r => ⟨r.lt, r.lt⟩
 keep := fun _ _ r k => r.mv fun o e => k d (.inl rfl) o e
 notList := by decide
 notTuple := by decide
 hint := fun _ _ _ _ r q => kdl_hint_dict r.ty q
 iter := fun A s hh r => by
  have ne : d ≠ s.heap.objs.size := Nat.ne_of_lt r.lt
  refine ⟨_, fun i h => h.IsKeyIter s.heap.objs.size d i es.size ep ∧ RawAt d es ep h, fun E Q q => raw_iter lo r q, ⟨fun b hb => by simp at hb; simp [hb], fun i h h' st k => ⟨st.1.at fun o e => k _ (by simp) o e, st.2.mv fun o e => k d (by simp) o e⟩, fun i s1 Q E hi st q => ?_, fun s1 Q E st q => ?_, fun i s1 Q E st q => wpAny_pyIter_keyiter st.1 q⟩, ⟨_, Heap.get?_push_size _ rfl, rfl, rfl⟩, r.mv fun o e => Heap.get?_push_of_some _ e⟩
  ·have hx : es[i]? = some es[i] := Array.getElem?_eq_getElem hi
   exact raw_item st.1 st.2 hx fun h' hit' sb => q _ h' s1.toks ⟨_, hx, rfl⟩ ⟨hit', st.2.mv fun o e => sb.extBut d o ne e⟩ fun b o hb e => sb.extBut b o (fun z => hb (by simp [z])) e
  ·exact raw_end hh st.1 st.2 fun h' eb => q h' s1.toks fun b o hb e => eb b o (fun z => hb (by simp [z])) e
end
end L2
set_option Elab.async false
set_option linter.all false
set_option maxRecDepth 100000
set_option maxHeartbeats 4000000
namespace L2
open PySem PySem.Spec PyProof.Rows PySem.W
def tDisp1 (tk tv : TE) : TE := fun σ H Q => ∀ p, H p = none → tk σ (upd H p (.dT [])) fun x H1 => tv σ H1 fun y H2 => ∃ b ks z, [(x, y)] = [(V.ref b, z)] ∧ H2 b = some (.tup (ks.map kV)) ∧ H2 p = some (.dT []) ∧ Q (.ref p) (upd H2 p (.dT [(ks, z)]))
theorem pe_disp1 {X : Cx} {pos : Pos} {k v : Expr} {tk tv : TE} (hu : X.A.units + 1 < cLine) (hk : PE X k tk) (hv : PE X v tv) : PE X (.Dict [some k] [v] pos) (tDisp1 tk tv) := by
 intro pins s σ H Q I q
 have hn := I.hok.fresh (Nat.le_refl s.heap.objs.size)
 have I1 := I.laid (a := s.heap.objs.size) (o := .dT []) (h' := s.heap.push { cls := .type "dict", data := .dict #[] }) (t' := s.toks) (fun _ _ q => Heap.get?_push_of_some _ q) (Nat.le_refl _) (dt_empty s.heap I.big)
 have pp := pps_cons (pos := pos) hk hv pps_nil pins _ σ _ (fun ps H2 => ∃ b ks y, ps = [(.ref b, y)] ∧ H2 b = some (.tup (ks.map kV)) ∧ H2 s.heap.objs.size = some (.dT []) ∧ Q (.ref s.heap.objs.size) (upd H2 s.heap.objs.size (.dT [(ks, y)]))) I1
 refine wpAny_Dict_any rfl rfl (fun z => nomatch z) (Nat.le_add_left 1 14) (thn (pp ?_) fun ws s2 ⟨ps, H2, I2, rel, b, ks, y, ep, eb, ed, q2⟩ => ?_)
 ·exact q _ hn
 ·subst ep
  cases rel with
  | @cons _ u _ _ r t =>
   cases t
   obtain ⟨u1, u2⟩ := u
   obtain ⟨r1, r2⟩ := r
   cases (show u1 = Value.ref b from r1)
   obtain ⟨z, lo, xs, rl, dd⟩ := dt_of I2.hok ed
   cases rl
   have hu' : (tupleKind (mixKind X.prog X.w)).room X.A := (by show X.A.units < cLine; omega)
   unfold storeAll
   rw [List.forIn_cons]
   refine wpAny_bind (wpAny_bind (wpAny_dictSet_heap (hsz := Nat.zero_le _) hu' (key_of I2.hok eb) dd fun h' dd' hs => wpAny_pure ?_))
   dsimp only
   rw [List.forIn_nil]
   refine wpAny_pure ?_
   obtain ⟨q', es, ep, hq, h2', h3, h4, _, h5⟩ := dd'
   refine ⟨.ref s.heap.objs.size, _, d_write (ob := .dT [(ks, y)]) I2 (by rw [ed]; exact True.intro) hs ⟨q', hq⟩ ⟨by show 1 ≤ sizeLine; decide, lo, storedH [] ks b u2, ?_, q', es, ep, hq, h2', h3, h4, h5⟩, rfl, q2⟩
   exact .cons ⟨rfl, (upd_ne (ne_of eb ed (fun z => nomatch z))).trans eb, r2⟩ .nil
theorem rd_disp1 {tk tv : TE} {σ : St} {H : Hp} {Q : VK} (h : ∀ p, H p = none → tk σ (upd H p (.dT [])) fun x H1 => tv σ H1 fun y H2 => ∃ b ks z, [(x, y)] = [(V.ref b, z)] ∧ H2 b = some (.tup (ks.map kV)) ∧ H2 p = some (.dT []) ∧ Q (.ref p) (upd H2 p (.dT [(ks, z)]))) : tDisp1 tk tv σ H Q := h
end L2
set_option linter.all false
set_option Elab.async false
set_option maxHeartbeats 4000000
namespace Fm
abbrev Strip := List L2.Key
abbrev Tie := Strip × Strip × Int
inductive Con (F : List Tie) : Strip → Strip → Prop
 | refl (a : Strip) : Con F a a
 | fwd {a b c : Strip} {w : Int} : Con F a b → (b, c, w) ∈ F → Con F a c
 | bwd {a b c : Strip} {w : Int} : Con F a b → (c, b, w) ∈ F → Con F a c
section
variable {F : List Tie} {v : Strip → Int} {G : Strip → Strip × Int} {D : List Strip}
end
end Fm
set_option Elab.async false
set_option linter.all false
set_option maxRecDepth 100000
set_option maxHeartbeats 4000000
namespace L2
open PySem PySem.Spec PyProof.Rows PySem.W
def rDGet (x y : V) (H : Hp) (Q : VK) : Prop := ∃ a v, x = .ref a ∧ DGet H a y (some v) ∧ Q v H
theorem rd_dget {td ty : TE} {σ : St} {H : Hp} {Q : VK} (h : td σ H fun x H1 => ty σ H1 fun y H2 => rDGet x y H2 Q) : tDGet td ty σ H Q := h
theorem rd_dgetT {H : Hp} {Q : VK} {a b : Addr} {kvs : List (List Key × V)} {k : List Key} {v : V} (hd : H a = some (.dT kvs)) (hb : H b = some (.tup (k.map kV))) (e : valV kvs k = some v) (q : Q v H) : rDGet (.ref a) (.ref b) H Q :=
 ⟨a, v, rfl, e ▸ DGet.t hd hb, q⟩
def sx (i : Int) : List Key := [.inr "x", .inl i]
def sy (i : Int) : List Key := [.inr "y", .inl i]
def ButL (S : List Addr) (H H' : Hp) : Prop := ∀ b o, H b = some o → b ∉ S → H' b = some o
theorem ButL.refl (S : List Addr) (H : Hp) : ButL S H H := fun _ _ e _ => e
theorem ButL.upd {S : List Addr} {H H1 : Hp} {p : Addr} {o : HO} (a : ButL S H H1) (h : p ∈ S) : ButL S H (L2.upd H1 p o) := fun c o' e n => by
 rw [upd_ne (fun z => n (by rw [z]; exact h))]; exact a c o' e n
end L2
set_option Elab.async false
set_option linter.all false
set_option maxRecDepth 100000
set_option maxHeartbeats 4000000
namespace L2
open PySem PySem.Spec PyProof.Rows
end L2
set_option Elab.async false
set_option linter.all false
set_option maxRecDepth 100000
set_option maxHeartbeats 4000000
namespace L2
open PySem PySem.Spec PyProof.Rows PySem.W
section
variable {X : Cx} {pins : List (Addr × Obj)} {σ : St} {H : Hp} {s : Shared} {d : Addr} {kvs : List (Key × V)} {vs : List (Key × Value)} {ep : Nat}
end
end L2
namespace L2
open PySem PySem.Spec PyProof.Rows PySem.W
end L2
namespace L2
open PySem PySem.Spec PyProof.Rows PySem.W
section
variable {K : PySem.W.Frag} {H : Hp} {Q : VK}
end
end L2
set_option Elab.async false
set_option linter.all false
set_option maxRecDepth 100000
set_option maxHeartbeats 4000000
namespace L2
open PySem PySem.Spec PyProof.Rows PySem.W
section
variable {K : PySem.W.Frag} {σ : St} {H : Hp} {Q : VK} {te : TE} {tt : TT} {cap : List (Option Nat)} {l : Addr}
end
end L2
namespace L2
open PySem PySem.Spec PyProof.Rows PySem.W
theorem rd_rng2 {σ : St} {H : Hp} {ta : TA} {R : It → Hp → Prop} (h : ta σ H fun vs H1 => ∃ i j : Int, vs = [.int i, .int j] ∧ (-(2 ^ 62) ≤ i ∧ i < 2 ^ 62 ∧ -(2 ^ 62) ≤ j ∧ j < 2 ^ 62) ∧ R (Itr i (j - i).toNat) H1) : iRng2 ta σ H R := h
end L2
set_option Elab.async false
set_option linter.all false
set_option maxRecDepth 100000
set_option maxHeartbeats 4000000
namespace L2
open PySem PySem.Spec PyProof.Rows PySem.W
end L2
set_option Elab.async false
set_option linter.all false
set_option maxRecDepth 100000
set_option maxHeartbeats 4000000
namespace PySem
end PySem
set_option Elab.async false
set_option linter.all false
set_option maxRecDepth 100000
set_option maxHeartbeats 4000000
namespace PyProof.Rows
open PySem PySem.Spec
section
variable {prog : Program} {w : World} {A : Around} {R : Result → Shared → Prop} {I : Addr} {fp wr : List Addr} {G : Array GenState → Array GenState → Prop} {n : Nat} {P : Nat → Value → Prop} {St : Nat → Shared → Prop} {K : Type} [DecidableEq K] {knd : PySem.KeyKind prog w K}
end
end PyProof.Rows
set_option Elab.async false
set_option linter.all false
set_option maxRecDepth 100000
set_option maxHeartbeats 4000000
namespace PySem
open PySem.Spec PyProof.Rows
section
variable {prog : Program} {w : World} {K : Type} [DecidableEq K] {knd : KeyKind prog w K} {A : Around} {E : Value → Shared → Prop} {s : Shared}
end
end PySem
set_option Elab.async false
set_option linter.all false
set_option maxRecDepth 100000
set_option maxHeartbeats 4000000
namespace L2
open PySem PySem.Spec PyProof.Rows PySem.W
section
variable {X : Cx} {pins : List (Addr × Obj)} {σ : St} {H : Hp} {s : Shared}
end
end L2
set_option Elab.async false
set_option linter.all false
set_option maxRecDepth 100000
set_option maxHeartbeats 4000000
namespace L2
open PySem PySem.Spec PyProof.Rows
end L2
set_option Elab.async false
set_option linter.all false
set_option maxRecDepth 100000
namespace L2
open PySem PySem.Spec PyProof.Rows
section
variable {K : PySem.W.Frag} {x qual : Str} {st : Stmt} {f : Addr} {fd : FuncData}
theorem Fun.b1 {p0 : Str} (F : Fun K x qual st f fd) (h : ∀ (kV doc pm : Value) (an : Option Addr) (cdv ct a0 : Value), bindArgs (PySem.W.fnOf x qual (defArgs st) (defBody st) (defScope st) .none kV doc pm an cdv ct) ⟨[a0], []⟩ = pure [(p0, a0)]) : Binds K fd [p0] [] :=
 F.binds fun kV doc pm an cdv ct us hl => by obtain ⟨a0, rfl⟩ := len1 hl; exact h kV doc pm an cdv ct a0
theorem Fun.b2 {p0 p1 : Str} (F : Fun K x qual st f fd) (h : ∀ (kV doc pm : Value) (an : Option Addr) (cdv ct a0 a1 : Value), bindArgs (PySem.W.fnOf x qual (defArgs st) (defBody st) (defScope st) .none kV doc pm an cdv ct) ⟨[a0, a1], []⟩ = pure [(p0, a0), (p1, a1)]) : Binds K fd [p0, p1] [] :=
 F.binds fun kV doc pm an cdv ct us hl => by obtain ⟨a0, a1, rfl⟩ := len2 hl; exact h kV doc pm an cdv ct a0 a1
theorem Fun.b3 {p0 p1 p2 : Str} (F : Fun K x qual st f fd) (h : ∀ (kV doc pm : Value) (an : Option Addr) (cdv ct a0 a1 a2 : Value), bindArgs (PySem.W.fnOf x qual (defArgs st) (defBody st) (defScope st) .none kV doc pm an cdv ct) ⟨[a0, a1, a2], []⟩ = pure [(p0, a0), (p1, a1), (p2, a2)]) : Binds K fd [p0, p1, p2] [] :=
 F.binds fun kV doc pm an cdv ct us hl => by obtain ⟨a0, a1, a2, rfl⟩ := len3 hl; exact h kV doc pm an cdv ct a0 a1 a2
theorem Fun.b4 {p0 p1 p2 p3 : Str} (F : Fun K x qual st f fd) (h : ∀ (kV doc pm : Value) (an : Option Addr) (cdv ct a0 a1 a2 a3 : Value), bindArgs (PySem.W.fnOf x qual (defArgs st) (defBody st) (defScope st) .none kV doc pm an cdv ct) ⟨[a0, a1, a2, a3], []⟩ = pure [(p0, a0), (p1, a1), (p2, a2), (p3, a3)]) : Binds K fd [p0, p1, p2, p3] [] :=
 F.binds fun kV doc pm an cdv ct us hl => by obtain ⟨a0, a1, a2, a3, rfl⟩ := len4 hl; exact h kV doc pm an cdv ct a0 a1 a2 a3
theorem Fun.b5 {p0 p1 p2 p3 p4 : Str} (F : Fun K x qual st f fd) (h : ∀ (kV doc pm : Value) (an : Option Addr) (cdv ct a0 a1 a2 a3 a4 : Value), bindArgs (PySem.W.fnOf x qual (defArgs st) (defBody st) (defScope st) .none kV doc pm an cdv ct) ⟨[a0, a1, a2, a3, a4], []⟩ = pure [(p0, a0), (p1, a1), (p2, a2), (p3, a3), (p4, a4)]) : Binds K fd [p0, p1, p2, p3, p4] [] :=
 F.binds fun kV doc pm an cdv ct us hl => by obtain ⟨a0, a1, a2, a3, a4, rfl⟩ := len5 hl; exact h kV doc pm an cdv ct a0 a1 a2 a3 a4
theorem Fun.bl {p : Str} (F : Fun K x qual st f fd) (h : ∀ (kV doc pm : Value) (an : Option Addr) (cdv ct a : Value), bindArgs (PySem.W.fnOf x qual (defArgs st) (defBody st) (defScope st) .none kV doc pm an cdv ct) ⟨[a], []⟩ = pure [(p, a)]) (s : Shared) (v : Value) : BindsTo s fd ⟨[v], []⟩ [(p, v)] := by
 obtain ⟨_, _, kV, doc, pm, an, cdv, ct, _, rfl, _, _⟩ := F.ex
 exact .of_eq (h kV doc pm an cdv ct v)
end
theorem FnScope.by {N P : List Str} {sc : Scope} (h1 : sc.kind = .function := by rfl) (h2 : sc.isCoroutine = false := by rfl) (h3 : sc.isGenerator = false := by rfl) (h4 : N.Nodup := by decide +kernel) (h5 : N.take P.length = P := by rfl) (h6 : ∀ x ∈ P, sc.names.lookup x = some .local ∨ sc.names.lookup x = some .cell := by decide +kernel) (h7 : ∀ y ∈ sc.names, y.2 ≠ .free := by decide +kernel) : FnScope N P sc := ⟨h1, h2, h3, h4, h5, h6, h7⟩
end L2
set_option Elab.async false
set_option linter.all false
set_option maxRecDepth 100000
set_option maxHeartbeats 4000000
namespace L2
open PySem PySem.Spec PyProof.Rows PySem.W
section
variable {prog : Program} {w : World} {κ : Type} [DecidableEq κ] {knd : KeyKind prog w κ} {A : Around} {E : Value → Shared → Prop} {s : Shared} {d : Addr} {kvs : List (κ × Value)} {k : κ} {key v : Value}
end
section
variable {X : Cx} {pins : List (Addr × Obj)} {σ : St} {H : Hp} {s : Shared} {a : Addr} {z : V} {r u : Value} {A : Around} {E : Value → Shared → Prop} {kvs : List (Key × V)} {k : Key}
end
theorem valV_at {κ : Type} [DecidableEq κ] : ∀ {kvs : List (κ × V)} {i : Nat} {k : κ} {v : V}, (kvs.map (·.1)).Nodup → kvs[i]? = some (k, v) → valV kvs k = some v
 | [], i, k, v, _, h => by simp at h
 | (k', v') :: r, 0, k, v, _, h => by
  simp only [List.getElem?_cons_zero, Option.some.injEq, Prod.mk.injEq] at h
  obtain ⟨rfl, rfl⟩ := h
  exact valV_pos rfl
 | (k', v') :: r, i + 1, k, v, nd, h => by
  rw [List.map_cons, List.nodup_cons] at nd
  have h : r[i]? = some (k, v) := by simpa using h
  rw [valV_neg (fun z => nd.1 (by rw [z]; exact List.mem_map.mpr ⟨_, List.mem_of_getElem? h, rfl⟩))]
  exact valV_at nd.2 h
end L2
set_option linter.all false
set_option Elab.async false
set_option maxHeartbeats 4000000
namespace Wn
abbrev Pnt := Int × Int
def gt (M : List Pnt) (k : Nat) : Pnt := M.getD k (0, 0)
def pv (n k : Nat) : Nat := if k = 0 then n - 1 else k - 1
def vw (p q : Pnt) : Option Pnt := if p.1 = q.1 then some (p.1, if q.2 < p.2 then q.2 else p.2) else none
def W (M : List Pnt) : List Pnt := (List.range M.length).filterMap fun k => vw (gt M (pv M.length k)) (gt M k)
def rw (M : List Pnt) (y : Int) : List Int := ((W M).filter fun p => decide (p.2 = y)).map (·.1)
def ins (M : List Pnt) (q : Pnt) : Bool := decide (((rw M q.2).filter fun x => decide (x ≤ q.1)).length % 2 = 1)
def within : List Int → Int → Bool
 | a :: b :: t, x => (decide (a ≤ x) && decide (x < b)) || within t x
 | _, _ => false
def span (a b : Int) (y : Int) : List Pnt := (List.range (b - a).toNat).map fun i => (a + ((i : Nat) : Int), y)
def cl (y : Int) : List Int → List Pnt
 | a :: b :: t => span a b y ++ cl y t
 | _ => []
theorem nodup_few {l : List Pnt} (nd : l.Nodup) {n : Nat} (h : ∀ q ∈ l, (0 ≤ q.1 ∧ q.1 < (n : Nat)) ∧ 0 ≤ q.2 ∧ q.2 < (n : Nat)) : l.length ≤ n * n := by
 have key : ∀ (a b : List Pnt), a.Nodup → (∀ x ∈ a, x ∈ b) → a.length ≤ b.length := by
  intro a
  induction a with
  | nil => intro b _ _; exact Nat.zero_le _
  | cons x a ih =>
   intro b hn hs
   rw [List.nodup_cons] at hn
   have hx := hs x List.mem_cons_self
   have := ih (b.erase x) hn.2 fun y hy => (List.mem_erase_of_ne (show y ≠ x from fun e => hn.1 (by rw [← e]; exact hy))).mpr (hs y (List.mem_cons_of_mem _ hy))
   rw [List.length_erase_of_mem hx] at this
   have := List.length_pos_of_mem hx
   rw [List.length_cons]
   omega
 have := key l ((List.range n).flatMap fun i => (List.range n).map fun j => (((i : Nat) : Int), ((j : Nat) : Int))) nd fun q hq => by
  obtain ⟨⟨a, b⟩, c, d⟩ := h q hq
  exact List.mem_flatMap.mpr ⟨q.1.toNat, List.mem_range.mpr (by omega), List.mem_map.mpr ⟨q.2.toNat, List.mem_range.mpr (by omega), Prod.ext (by show ((q.1.toNat : Nat) : Int) = q.1; omega) (by show ((q.2.toNat : Nat) : Int) = q.2; omega)⟩⟩
 refine Nat.le_trans this ?_
 rw [List.length_flatMap]
 simp only [List.length_map, List.length_range, List.map_const', List.sum_replicate_nat]
 exact Nat.le_refl _
end Wn
set_option Elab.async false
set_option linter.all false
set_option maxRecDepth 100000
set_option maxHeartbeats 4000000
namespace L2
open PySem PySem.Spec PyProof.Rows PySem.W
def k2 (p : Int × Int) : List Key := [.inl p.1, .inl p.2]
def ptG (H : Hp) : V → Int × Int
 | .ref b => match H b with
  | some (.tup [.int x, .int y]) => (x, y)
  | _ => (0, 0)
 | _ => (0, 0)
theorem ptG_eq {H : Hp} {b : Addr} {p : Int × Int} (h : H b = some (.tup [.int p.1, .int p.2])) : ptG H (.ref b) = p := by simp only [ptG, h]
def rSortD : List V → Hp → VK → Prop := fun xs H Q => ∃ (d : Addr) (kvs : List (List Key × V)) (ps : List (Int × Int)), xs = [.ref d] ∧ H d = some (.dT kvs) ∧ kvs.map (·.1) = ps.map k2 ∧
 ∀ (l : Addr) (ys : List V) (g : V → Int × Int), H l = none → (∀ v ∈ ys, PtV H v (g v)) → (ys.map g).Perm ps → ys.Pairwise (fun x y => Ts.ple (g x) (g y)) → Q (.ref l) (upd H l (.lst ys))
theorem sortedHeap_new {h : Heap} {a : Addr} {vs : List Value} {out : Array Value} (ho : h.get? a = some (seqObj "list" vs.toArray 0)) : ∃ n, (sortedHeap h a vs out).get? a = some { cls := .type "list", data := .seq out n } := by
 unfold sortedHeap
 have h2 := get?_update_seq ho (fun _ => #[])
 have h3 := Heap.get?_push_of_some (seqObj "list" #[] 0) (Heap.get?_push_of_some (seqObj "tuple" vs.toArray 0) h2)
 exact ⟨_, get?_update_seq h3 (fun _ => out)⟩
theorem cI_sortedD {X : Cx} (hc : X.calm = true) : CallR X (.builtin "sorted") rSortD := by
  intro pins s σ H xs us Q I r h
  obtain ⟨d, kvs, ps, rfl, hd, hks, q⟩ := h
  obtain ⟨u, rfl, rx⟩ := vals1 r
  cases rx
  obtain ⟨z, lo, zs, rel, o, es, ep, eo, xo, dto, he, nd⟩ := I.hok d _ hd
  have sz : es.size = kvs.length := by rw [← Array.length_toList, he, List.length_map, ← Paired.length rel]
  refine Calls.call_function_entry kind_sorted plain_sorted entry_sorted (args_sorted1 _) ?_
  unfold Builtin.«sorted»
  refine wpAny_bind (m := checkCount "sorted" 1 1 _) (wpAny_pure ?_)
  refine wpAny_bind (kdu_collect (raw_src (es := es) (ep := ep) lo) (I.ok.hd hc) ⟨o, eo, xo, dto⟩ (by rw [sz]; exact z) fun h1 tk acc kp it => ?_)
  have la : acc.toList.length = zs.length := by rw [Array.length_toList, it.1, ← Array.length_toList, he, List.length_map]
  have ea : acc.toList = (zs.map fun x => Value.ref x.2.1) := List.ext_getElem? fun i => by
    cases hv : acc.toList[i]? with
    | none =>
      rw [List.getElem?_eq_none_iff] at hv
      rw [List.getElem?_eq_none (by rw [List.length_map]; omega)]
    | some v =>
      obtain ⟨en, h1, h2⟩ := it.2 i v (by rw [← Array.getElem?_toList]; exact hv)
      rw [← Array.getElem?_toList, he, List.getElem?_map] at h1
      obtain ⟨x, h3, rfl⟩ := Option.map_eq_some_iff.mp h1
      rw [List.getElem?_map, h3, h2]; rfl
  rw [ea]
  have hz' : (zs.map fun x => Value.ref x.2.1).length ≤ sizeLine := by rw [List.length_map, ← Paired.length rel]; exact z
  -- each key is a pair
  have gx : ∀ x ∈ zs, ∃ p : Int × Int, x.1 = k2 p ∧ H x.2.1 = some (.tup [.int p.1, .int p.2]) := by
    have key : ∀ {kvs : List (List Key × V)} {zs : List (List Key × Addr × Value)} {ps : List (Int × Int)}, Paired (fun (p : List Key × V) (q : List Key × Addr × Value) => p.1 = q.1 ∧ H q.2.1 = some (.tup (p.1.map kV)) ∧ RelV p.2 q.2.2) kvs zs → kvs.map (·.1) = ps.map k2 → ∀ x ∈ zs, ∃ p : Int × Int, x.1 = k2 p ∧ H x.2.1 = some (.tup [.int p.1, .int p.2]) := by
      intro kvs zs ps rel
      induction rel generalizing ps with
      | nil => intro _ x hx; cases hx
      | cons r t ih =>
        intro e x hx
        cases ps with
        | nil => simp at e
        | cons p ps =>
          rw [List.map_cons, List.map_cons] at e
          injection e with e1 e2
          rcases List.mem_cons.mp hx with rfl | hx
          · refine ⟨p, r.1.symm.trans e1, ?_⟩
            have := r.2.1
            rw [e1] at this
            exact this
          · exact ih e2 x hx
    exact key rel hks
  obtain ⟨g, hg0⟩ : ∃ g, g = ptG H := ⟨_, rfl⟩
  have gd : ∀ {b : Addr} {p : Int × Int}, H b = some (.tup [.int p.1, .int p.2]) → g (.ref b) = p := fun {b p} hb => by rw [hg0]; exact ptG_eq hb
  have hmem : ∀ u ∈ (zs.map fun x => Value.ref x.2.1), ∃ (b : Addr) (p : Int × Int), u = .ref b ∧ H b = some (.tup [.int p.1, .int p.2]) := fun u hu => by
    obtain ⟨x, hx, rfl⟩ := List.mem_map.mp hu
    obtain ⟨p, _, hp⟩ := gx x hx
    exact ⟨_, p, rfl, hp⟩
  have I1 : Inv X pins σ H { s with heap := h1, toks := tk } := I.kept kp
  have hlt : ∀ {b : Addr} {p : Int × Int}, H b = some (.tup [.int p.1, .int p.2]) → b < h1.objs.size ∧ Ts.PairAt h1 (.ref b) p := fun {b p} hb => by
    obtain ⟨_, its2, r2, o, ho, hc, n, hd⟩ := I1.hok _ _ hb
    refine ⟨Heap.lt_size ho, ?_⟩
    cases r2 with
    | cons q1 r2 =>
    obtain ⟨t1, rfl⟩ := q1
    cases r2 with
    | cons q2 r2 =>
    obtain ⟨t2, rfl⟩ := q2
    cases r2
    exact ⟨b, o, t1, t2, n, rfl, ho, hc, hd⟩
  have pmz : ((zs.map fun x => Value.ref x.2.1).map fun u => g (toV u)) = ps := by
    have key : ∀ {kvs : List (List Key × V)} {zs : List (List Key × Addr × Value)} {ps : List (Int × Int)}, Paired (fun (p : List Key × V) (q : List Key × Addr × Value) => p.1 = q.1 ∧ H q.2.1 = some (.tup (p.1.map kV)) ∧ RelV p.2 q.2.2) kvs zs → kvs.map (·.1) = ps.map k2 → ((zs.map fun x => Value.ref x.2.1).map fun u => g (toV u)) = ps := by
      intro kvs zs ps rel
      induction rel generalizing ps with
      | nil => intro e; cases ps with | nil => rfl | cons p ps => simp at e
      | cons r t ih =>
        intro e
        cases ps with
        | nil => simp at e
        | cons p ps =>
          rw [List.map_cons, List.map_cons] at e
          injection e with e1 e2
          rw [List.map_cons, List.map_cons, ih e2]
          have := r.2.1
          rw [e1] at this
          rw [show g (toV (Value.ref _)) = p from gd this]
    exact key rel hks
  generalize (zs.map fun x => Value.ref x.2.1) = its at hz' hmem pmz
  refine wpAny_bind (wpAny_newList ?_ hz')
  have hoL : (h1.push (seqObj "list" its.toArray 0)).get? h1.objs.size = some (seqObj "list" its.toArray 0) := Heap.get?_push_size _ rfl
  have keep : ∀ b o, h1.get? b = some o → (h1.push (seqObj "list" its.toArray 0)).get? b = some o := fun b o q => Heap.get?_push_of_some _ q
  have srt : Ts.Sorts X.prog X.w { s with heap := h1.push (seqObj "list" its.toArray 0), toks := tk } h1.objs.size its (tuples' true) (fun x => x ∈ (pairsOf its).toList) (fun x y => Ts.plt (g (toV x.1)) (g (toV y.1))) :=
    Ts.sorts_pairs (g := fun u => g (toV u)) fun u hu => by
      obtain ⟨b, p, rfl, hb⟩ := hmem u hu
      obtain ⟨h3, b', o, t1, t2, n, e, h4, h5, h6⟩ := hlt hb
      cases e
      rw [show g (toV (Value.ref b)) = p from gd hb]
      exact ⟨⟨b, o, t1, t2, n, rfl, keep _ _ h4, h5, h6⟩, fun e => by injection e with e; rw [e] at h3; exact absurd h3 (Nat.lt_irrefl _)⟩
  show wpAny _ _ _ _ _ { s with heap := h1.push (seqObj "list" its.toArray 0), toks := tk }
  refine wpAny_bind (wpAny_holding (wpAny_call_entry slot_list_sort ⟨_, hoL, rfl⟩ entry_list_sort (Ts.sort_any (s := { s with heap := h1.push (seqObj "list" its.toArray 0), toks := tk }) (Ts.less_pairs fun u => g (toV u)) hoL hz' srt (fun x hx => hx) fun out hperm hs => ⟨_, rfl, ?_⟩) (args_list_sort _)))
  refine wpAny_pure ⟨_, rfl, ?_⟩
  have hperm' : out.toList.Perm (its.zip its) := by rw [← pairsOf_toList]; exact Array.perm_iff_toList_perm.mp hperm
  have hmo : ∀ p ∈ out.toList, p.1 = p.2 ∧ p.1 ∈ its := fun p hp' => mem_zip_self (hperm'.mem_iff.mp hp')
  have e2 : (out.map (·.2)).toList = out.toList.map (·.1) := by rw [Array.toList_map]; exact List.map_congr_left fun p hp' => (hmo p hp').1.symm
  have pm : (out.toList.map (·.1)).Perm its := by
    have := hperm'.map Prod.fst
    rw [List.map_fst_zip (Nat.le_refl _)] at this
    exact this
  have hn : H h1.objs.size = none := I1.hok.fresh (Nat.le_refl _)
  have refs : ∀ u ∈ out.toList.map (·.1), ∃ b, u = Value.ref b := fun u hu => let ⟨b, _, e, _⟩ := hmem u (pm.mem_iff.mp hu); ⟨b, e⟩
  have q' := q h1.objs.size ((out.toList.map (·.1)).map toV) g hn (fun v hv => by
      obtain ⟨u, hu, rfl⟩ := List.mem_map.mp hv
      obtain ⟨b, p, rfl, hb⟩ := hmem u (pm.mem_iff.mp hu)
      exact ⟨b, rfl, by rw [show g (toV (Value.ref b)) = p from gd hb]; exact hb⟩) (by
      rw [List.map_map]
      have := pm.map fun u => g (toV u)
      rw [pmz] at this
      exact this) (by
      rw [List.map_map, List.pairwise_map]
      exact hs.imp fun {x y} hxy => Ts.plt_f.mp hxy)
  have hnew := sortedHeap_new (out := out.map (·.2)) hoL
  have kall : ∀ b o, h1.get? b = some o → (sortedHeap (h1.push (seqObj "list" its.toArray 0)) h1.objs.size its (out.map (·.2))).get? b = some o := fun b o e => by
    have hl := Heap.lt_size e
    unfold sortedHeap
    rw [Heap.get?_update_ne _ _ _ _ (Nat.ne_of_lt hl)]
    refine Heap.get?_push_of_some _ (Heap.get?_push_of_some _ ?_)
    rw [Heap.get?_update_ne _ _ _ _ (Nat.ne_of_lt hl)]
    exact keep _ _ e
  obtain ⟨n, hnew⟩ := hnew
  refine ⟨.ref h1.objs.size, _, I1.laid (t' := tk) (o := .lst ((out.toList.map (·.1)).map toV)) kall (Nat.le_refl _) ?_, rfl, q'⟩
  refine ⟨by rw [List.length_map, pm.length_eq]; exact hz', out.toList.map (·.1), n, vals_refs refs, ?_⟩
  rw [hnew, ← e2, Array.toArray_toList]
theorem rd_sortD {H : Hp} {Q : VK} {d : Addr} {kvs : List (List Key × V)} {ps : List (Int × Int)} (hd : H d = some (.dT kvs)) (e : kvs.map (·.1) = ps.map k2)
  (q : ∀ (l : Addr) (ys : List V) (g : V → Int × Int), H l = none → (∀ v ∈ ys, PtV H v (g v)) → (ys.map g).Perm ps → ys.Pairwise (fun x y => Ts.ple (g x) (g y)) → Q (.ref l) (upd H l (.lst ys))) : rSortD [.ref d] H Q := ⟨d, kvs, ps, rfl, hd, e, q⟩
def tHold (t : TE) : TE := t
theorem pe_hold {X : Cx} {e : Expr} {t : TE} (h : PE X e t) : PE X e (tHold t) := h
theorem rd_andVB {ta tb : TE} {σ : St} {H : Hp} {Q : VK} (c d : Bool) (ha : ∀ Q' : VK, Q' (.bl c) H → ta σ H Q') (hb : c = true → ∀ Q' : VK, Q' (.bl d) H → tb σ H Q') (q : Q (.bl (c && d)) H) : tHold (tAndV ta tb) σ H Q := by
 refine ha _ ⟨c, rfl, ?_⟩
 cases c with
 | false => exact q
 | true => exact hb rfl _ q
end L2
set_option linter.all false
set_option Elab.async false
set_option maxHeartbeats 4000000
namespace Bf
abbrev Pnt := Int × Int
inductive Walk (nb : Pnt → List Pnt) (a : Pnt) : Pnt → Nat → Prop
 | here : Walk nb a a 0
 | on {b c : Pnt} {m : Nat} : Walk nb a b m → c ∈ nb b → Walk nb a c (m + 1)
variable {nb : Pnt → List Pnt} {root : Pnt}
theorem Walk.app {a b c : Pnt} {m n : Nat} (h : Walk nb a b m) (h' : Walk nb b c n) : Walk nb a c (m + n) := by
 induction h' with
 | here => exact h
 | on _ e ih => exact .on ih e
theorem Walk.first {a b c : Pnt} {n : Nat} (e : b ∈ nb a) (h' : Walk nb b c n) : Walk nb a c (n + 1) := by
 rw [Nat.add_comm]; exact (Walk.on .here e).app h'
structure St (nb : Pnt → List Pnt) (root : Pnt) (qs : List Pnt) (ps ds : List Nat) (pl : Nat) (dn : List Pnt) : Prop where
 hd : qs[0]? = some root
 h0 : ds[0]? = some 0
 nd : qs.Nodup
 lp : ps.length = qs.length
 ld : ds.length = qs.length
 par : ∀ (j : Nat) c p, 0 < j → qs[j]? = some c → ps[j]? = some p → p < j ∧ p ≤ pl ∧ ∃ c' d, qs[p]? = some c' ∧ c ∈ nb c' ∧ ds[p]? = some d ∧ ds[j]? = some (d + 1)
 mono : ∀ (i j : Nat) p q, 0 < i → i ≤ j → ps[i]? = some p → ps[j]? = some q → p ≤ q
 cl : ∀ (i : Nat) c d, i < pl → qs[i]? = some c → ds[i]? = some d → ∀ c' ∈ nb c, ∃ (j d' : Nat), qs[j]? = some c' ∧ ds[j]? = some d' ∧ d' ≤ d + 1
 dn : ∀ c' ∈ dn, ∀ d, ds[pl]? = some d → ∃ (j d' : Nat), qs[j]? = some c' ∧ ds[j]? = some d' ∧ d' ≤ d + 1
theorem St.start : St nb root [root] [0] [0] 0 [] where
 hd := rfl
 h0 := rfl
 nd := by simp
 lp := rfl
 ld := rfl
 par := fun j c p h e => by cases j with | zero => omega | succ j => simp at e
 mono := fun i j p q h hij e1 e2 => by
  cases i with
  | zero => omega
  | succ i => simp at e1
 cl := fun i c d h => absurd h (Nat.not_lt_zero i)
 dn := fun c h => by cases h
section
variable {qs : List Pnt} {ps ds : List Nat} {pl : Nat} {dn : List Pnt}
theorem at_snoc {α : Type} {l : List α} {a b : α} {i : Nat} (h : (l ++ [a])[i]? = some b) : (i < l.length ∧ l[i]? = some b) ∨ (i = l.length ∧ a = b) := by
 by_cases hi : i < l.length
 ·rw [List.getElem?_append_left hi] at h
  exact .inl ⟨hi, h⟩
 ·rw [List.getElem?_append_right (by omega)] at h
  cases hk : i - l.length with
  | zero =>
   rw [hk] at h
   simp only [List.getElem?_cons_zero, Option.some.injEq] at h
   exact .inr ⟨by omega, h⟩
  | succ k => rw [hk] at h; simp at h
theorem at_app {α : Type} {l r : List α} {b : α} {i : Nat} (h : l[i]? = some b) : (l ++ r)[i]? = some b := by
 rw [List.getElem?_append_left (List.getElem?_eq_some_iff.mp h).1]; exact h
theorem at_end {α : Type} {l : List α} {a : α} : (l ++ [a])[l.length]? = some a := by simp
theorem St.far (h : St nb root qs ps ds pl dn) : ∀ (j i : Nat) d d', i ≤ j → ds[i]? = some d → ds[j]? = some d' → d ≤ d' := by
 intro j
 induction j using Nat.strongRecOn with
 | ind j ih =>
  intro i d d' hij e1 e2
  by_cases hi : i = 0
  ·subst hi
   rw [h.h0] at e1
   cases e1
   exact Nat.zero_le _
  ·have lj : j < qs.length := by rw [← h.ld]; exact (List.getElem?_eq_some_iff.mp e2).1
   have li : i < qs.length := by omega
   obtain ⟨b1, b2, c1, d1, q1, q2, q3, q4⟩ := h.par i _ _ (by omega) (List.getElem?_eq_getElem li) (List.getElem?_eq_getElem (show i < ps.length by rw [h.lp]; exact li))
   obtain ⟨a1, a2, c2, d2, r1, r2, r3, r4⟩ := h.par j _ _ (by omega) (List.getElem?_eq_getElem lj) (List.getElem?_eq_getElem (show j < ps.length by rw [h.lp]; exact lj))
   rw [e1] at q4
   rw [e2] at r4
   cases q4
   cases r4
   have m := h.mono i j _ _ (by omega) hij (List.getElem?_eq_getElem (show i < ps.length by rw [h.lp]; exact li)) (List.getElem?_eq_getElem (show j < ps.length by rw [h.lp]; exact lj))
   have := ih _ a1 _ _ _ m q3 r3
   omega
theorem St.near (h : St nb root qs ps ds pl dn) {d : Nat} (hp : ds[pl]? = some d) : ∀ (j d' : Nat), ds[j]? = some d' → d' ≤ d + 1 := by
 intro j d' e
 by_cases hj : j = 0
 ·subst hj
  rw [h.h0] at e
  cases e
  omega
 ·have lj : j < qs.length := by rw [← h.ld]; exact (List.getElem?_eq_some_iff.mp e).1
  obtain ⟨a1, a2, c2, d2, r1, r2, r3, r4⟩ := h.par j _ _ (by omega) (List.getElem?_eq_getElem lj) (List.getElem?_eq_getElem (show j < ps.length by rw [h.lp]; exact lj))
  rw [e] at r4
  cases r4
  have := h.far pl _ _ _ a2 r3 hp
  omega
theorem St.skip (h : St nb root qs ps ds pl dn) {c : Pnt} (hc : c ∈ qs) : St nb root qs ps ds pl (dn ++ [c]) :=
 ⟨h.hd, h.h0, h.nd, h.lp, h.ld, h.par, h.mono, h.cl, fun c' hc' d hd => by
  rcases List.mem_append.mp hc' with z | z
  ·exact h.dn c' z d hd
  ·rw [List.mem_singleton.mp z]
   obtain ⟨j, hj⟩ := List.mem_iff_getElem?.mp hc
   have lj : j < ds.length := by rw [h.ld]; exact (List.getElem?_eq_some_iff.mp hj).1
   exact ⟨j, _, hj, List.getElem?_eq_getElem lj, h.near hd j _ (List.getElem?_eq_getElem lj)⟩⟩
theorem St.add (h : St nb root qs ps ds pl dn) {c0 c : Pnt} {d0 : Nat} (hp : qs[pl]? = some c0) (hd : ds[pl]? = some d0) (hc : c ∈ nb c0) (hn : c ∉ qs) : St nb root (qs ++ [c]) (ps ++ [pl]) (ds ++ [d0 + 1]) pl (dn ++ [c]) where
 hd := at_app h.hd
 h0 := at_app h.h0
 nd := by
  rw [List.nodup_append]
  exact ⟨h.nd, by simp, fun a ha b hb z => hn (by rw [← List.mem_singleton.mp hb, ← z]; exact ha)⟩
 lp := by rw [List.length_append, List.length_append, h.lp]; rfl
 ld := by rw [List.length_append, List.length_append, h.ld]; rfl
 par := fun j u p hj e1 e2 => by
  have lq := (List.getElem?_eq_some_iff.mp hp).1
  rcases at_snoc e1 with ⟨h1, h2⟩ | ⟨h1, h2⟩
  ·rcases at_snoc e2 with ⟨h3, h4⟩ | ⟨h3, h4⟩
   ·obtain ⟨a1, a2, c2, d2, r1, r2, r3, r4⟩ := h.par j u p hj h2 h4
    exact ⟨a1, a2, c2, d2, at_app r1, r2, at_app r3, at_app r4⟩
   ·rw [h3, h.lp] at h1; exact absurd h1 (Nat.lt_irrefl _)
  ·rcases at_snoc e2 with ⟨h3, h4⟩ | ⟨h3, h4⟩
   ·rw [h1, h.lp] at h3; exact absurd h3 (Nat.lt_irrefl _)
   ·subst h2 h4
    refine ⟨by omega, Nat.le_refl _, c0, d0, at_app hp, hc, at_app hd, ?_⟩
    rw [h1, ← h.ld]; exact at_end
 mono := fun i j p q hi hij e1 e2 => by
  rcases at_snoc e1 with ⟨h1, h2⟩ | ⟨h1, h2⟩
  ·rcases at_snoc e2 with ⟨h3, h4⟩ | ⟨h3, h4⟩
   ·exact h.mono i j p q hi hij h2 h4
   ·rw [← h4]
    have li : i < qs.length := by rw [← h.lp]; exact h1
    exact (h.par i _ p hi (List.getElem?_eq_getElem li) h2).2.1
  ·rcases at_snoc e2 with ⟨h3, h4⟩ | ⟨h3, h4⟩
   ·omega
   ·omega
 cl := fun i u d hi e1 e2 c' hc' => by
  rcases at_snoc e1 with ⟨h1, h2⟩ | ⟨h1, h2⟩
  ·rcases at_snoc e2 with ⟨h3, h4⟩ | ⟨h3, h4⟩
   ·obtain ⟨j, d', g1, g2, g3⟩ := h.cl i u d hi h2 h4 c' hc'
    exact ⟨j, d', at_app g1, at_app g2, g3⟩
   ·rw [h3, h.ld] at h1; exact absurd h1 (Nat.lt_irrefl _)
  ·have := (List.getElem?_eq_some_iff.mp hp).1
   omega
 dn := fun c' hc' d hd' => by
  have hd' : ds[pl]? = some d := by
   rcases at_snoc hd' with ⟨_, z⟩ | ⟨z, _⟩
   ·exact z
   ·have := (List.getElem?_eq_some_iff.mp hd).1; omega
  rcases List.mem_append.mp hc' with z | z
  ·obtain ⟨j, d', g1, g2, g3⟩ := h.dn c' z d hd'
   exact ⟨j, d', at_app g1, at_app g2, g3⟩
  ·rw [List.mem_singleton.mp z]
   rw [hd] at hd'
   cases hd'
   exact ⟨qs.length, d0 + 1, at_end, by rw [← h.ld]; exact at_end, Nat.le_refl _⟩
theorem St.next (h : St nb root qs ps ds pl dn) {c0 : Pnt} (hp : qs[pl]? = some c0) (all : ∀ c ∈ nb c0, c ∈ dn) : St nb root qs ps ds (pl + 1) [] :=
 ⟨h.hd, h.h0, h.nd, h.lp, h.ld, fun j c p hj e1 e2 => by
  obtain ⟨a1, a2, r⟩ := h.par j c p hj e1 e2
  exact ⟨a1, by omega, r⟩, h.mono, fun i c d hi e1 e2 c' hc' => by
  by_cases hi' : i < pl
  ·exact h.cl i c d hi' e1 e2 c' hc'
  ·have : i = pl := by omega
   subst this
   rw [hp] at e1
   cases e1
   exact h.dn c' (all c' hc') d e2, fun c hc => by cases hc⟩
theorem St.walk (h : St nb root qs ps ds pl dn) : ∀ (j : Nat) c d, qs[j]? = some c → ds[j]? = some d → Walk nb root c d := by
 intro j
 induction j using Nat.strongRecOn with
 | ind j ih =>
  intro c d e1 e2
  by_cases hj : j = 0
  ·subst hj
   rw [h.hd] at e1
   rw [h.h0] at e2
   cases e1
   cases e2
   exact .here
  ·have lj : j < qs.length := (List.getElem?_eq_some_iff.mp e1).1
   obtain ⟨a1, a2, c2, d2, r1, r2, r3, r4⟩ := h.par j _ _ (by omega) e1 (List.getElem?_eq_getElem (show j < ps.length by rw [h.lp]; exact lj))
   rw [e2] at r4
   cases r4
   exact .on (ih _ a1 _ _ r1 r3) r2
theorem St.least (h : St nb root qs ps ds pl dn) (he : qs.length ≤ pl) {c : Pnt} {m : Nat} (w : Walk nb root c m) : ∃ (j d : Nat), qs[j]? = some c ∧ ds[j]? = some d ∧ d ≤ m := by
 induction w with
 | here => exact ⟨0, 0, h.hd, h.h0, Nat.le_refl _⟩
 | on _ e ih =>
  obtain ⟨i, d, g1, g2, g3⟩ := ih
  obtain ⟨j, d', r1, r2, r3⟩ := h.cl i _ d (by have := (List.getElem?_eq_some_iff.mp g1).1; omega) g1 g2 _ e
  exact ⟨j, d', r1, r2, by omega⟩
theorem St.mem (h : St nb root qs ps ds pl dn) (he : qs.length ≤ pl) (c : Pnt) : c ∈ qs ↔ ∃ m, Walk nb root c m := by
 constructor
 ·intro hc
  obtain ⟨j, hj⟩ := List.mem_iff_getElem?.mp hc
  have lj : j < ds.length := by rw [h.ld]; exact (List.getElem?_eq_some_iff.mp hj).1
  exact ⟨_, h.walk j c _ hj (List.getElem?_eq_getElem lj)⟩
 ·rintro ⟨m, w⟩
  obtain ⟨j, d, g, _⟩ := h.least he w
  exact List.mem_of_getElem? g
theorem St.dist (h : St nb root qs ps ds pl dn) (he : qs.length ≤ pl) {j : Nat} {c : Pnt} {d m : Nat} (e1 : qs[j]? = some c) (e2 : ds[j]? = some d) (w : Walk nb root c m) : d ≤ m := by
 obtain ⟨i, d', g1, g2, g3⟩ := h.least he w
 have li := (List.getElem?_eq_some_iff.mp g1).1
 have lj := (List.getElem?_eq_some_iff.mp e1).1
 have : i = j := by
  have e : qs[i] = qs[j] := by
   rw [List.getElem?_eq_getElem li] at g1
   rw [List.getElem?_eq_getElem lj] at e1
   injection g1 with g1
   injection e1 with e1
   rw [g1, e1]
  exact (List.getElem_inj h.nd).mp e
 subst this
 rw [e2] at g2
 cases g2
 exact g3
end
end Bf
set_option Elab.async false
set_option maxHeartbeats 4000000
set_option linter.all false
set_option maxRecDepth 100000
namespace My
open PySem PySem.Spec PyProof.Rows L2
def top (i : Nat) : Stmt := PySem.Challenge.pw_sashiko_k18_paths_in_a_region.main.body.getD i (.Pass ⟨0, 0, 0, 0⟩)
abbrev s_isnumber : Stmt := (top 9)
abbrev s_isbelow : Stmt := (top 10)
abbrev s_isbit : Stmt := (top 11)
abbrev s_allbits : Stmt := (top 12)
abbrev s_isside : Stmt := (top 13)
abbrev s_needcell : Stmt := (top 14)
abbrev s_BoardInit : Stmt := (inClass (top 20) 0)
abbrev s_ClothInit : Stmt := (inClass (top 21) 0)
abbrev s_Clothwide : Stmt := (inClass (top 20) 1)
abbrev s_Clothtall : Stmt := (inClass (top 20) 2)
abbrev s_Clothbitsalong : Stmt := (inClass (top 20) 5)
abbrev s_Clothbit : Stmt := (inClass (top 20) 6)
abbrev s_Clothstitched : Stmt := (inClass (top 20) 7)
abbrev s_beside : Stmt := (top 16)
abbrev s_waysto : Stmt := (top 17)
abbrev s_path : Stmt := (top 18)
abbrev s_Ldraws : Stmt := (top 25)
abbrev s_Lbits : Stmt := (top 26)
abbrev s_Lrow : Stmt := (top 27)
abbrev s_Lplan : Stmt := (top 28)
abbrev s_Lmade : Stmt := (top 29)
abbrev s_Lsewn : Stmt := (top 24)
abbrev s_Lflood : Stmt := (top 30)
abbrev s_Lsame : Stmt := (top 23)
abbrev s_Lwalks : Stmt := (top 31)
abbrev s_law : Stmt := (top 32)
theorem sc_isnumber : FnScope ["value"] ["value"] (defScope s_isnumber) := .by
theorem sc_isbelow : FnScope ["value", "bound"] ["value", "bound"] (defScope s_isbelow) := .by
theorem sc_isbit : FnScope ["value"] ["value"] (defScope s_isbit) := .by
theorem sc_allbits : FnScope ["values"] ["values"] (defScope s_allbits) := .by
theorem sc_isside : FnScope ["count"] ["count"] (defScope s_isside) := .by
theorem sc_needcell : FnScope ["board", "x", "y"] ["board", "x", "y"] (defScope s_needcell) := .by
theorem sc_BoardInit : FnScope ["self", "wide", "tall", "cols", "rows"] ["self", "wide", "tall", "cols", "rows"] (defScope s_BoardInit) := .by
theorem sc_ClothInit : FnScope ["self", "shade", "cols", "rows"] ["self", "shade", "cols", "rows"] (defScope s_ClothInit) := .by
theorem sc_Clothwide : FnScope ["self"] ["self"] (defScope s_Clothwide) := .by
theorem sc_Clothtall : FnScope ["self"] ["self"] (defScope s_Clothtall) := .by
theorem sc_Clothbitsalong : FnScope ["self", "way"] ["self", "way"] (defScope s_Clothbitsalong) := .by
theorem sc_Clothbit : FnScope ["self", "way", "k", "bits"] ["self", "way", "k"] (defScope s_Clothbit) := .by
theorem sc_Clothstitched : FnScope ["self", "way", "k", "step", "line_bit", "steps"] ["self", "way", "k", "step"] (defScope s_Clothstitched) := .by
theorem sc_beside : FnScope ["cloth", "cell", "x", "y", "found"] ["cloth", "cell"] (defScope s_beside) := .by
theorem sc_waysto : FnScope ["cloth", "goal", "onward", "cells", "place", "here", "cell"] ["cloth", "goal"] (defScope s_waysto) := .by
theorem sc_path : FnScope ["cloth", "one", "other", "onward", "cells", "here"] ["cloth", "one", "other"] (defScope s_path) := .by
theorem sc_Ldraws : FnScope ["_law_script", "_law_many", "_law_rows", "_law_mix", "_law_cell", "_law_rest"] ["_law_script", "_law_many"] (defScope s_Ldraws) := .by
theorem sc_Lbits : FnScope ["_law_number", "_law_many", "_law_row_here", "_law_k"] ["_law_number", "_law_many"] (defScope s_Lbits) := .by
theorem sc_Lrow : FnScope ["_law_some", "_law_many", "_law_raw", "_law_row_here"] ["_law_some", "_law_many"] (defScope s_Lrow) := .by
theorem sc_Lplan : FnScope ["_law_some", "_law_wide", "_law_tall"] ["_law_some"] (defScope s_Lplan) := .by
theorem sc_Lmade : FnScope ["_law_plan_here"] ["_law_plan_here"] (defScope s_Lmade) := .by
theorem sc_Lsewn : FnScope ["_law_plan_here", "_law_way", "_law_k", "_law_step", "_law_bits_here"] ["_law_plan_here", "_law_way", "_law_k", "_law_step"] (defScope s_Lsewn) := .by
theorem sc_Lflood : FnScope ["_law_plan_here", "_law_cell", "_law_wide", "_law_tall", "_law_row_here", "_law_steps", "_law_at", "_law_x", "_law_y", "_law_other", "_law_bare"] ["_law_plan_here", "_law_cell"] (defScope s_Lflood) := .by
theorem sc_Lsame : FnScope ["_law_told", "_law_due"] ["_law_told", "_law_due"] (defScope s_Lsame) := .by
theorem sc_Lwalks : FnScope ["_law_plan_here", "_law_line", "_law_one", "_law_other", "_law_at", "_law_x", "_law_y", "_law_there"] ["_law_plan_here", "_law_line", "_law_one", "_law_other"] (defScope s_Lwalks) := .by
theorem sc_law : FnScope ["_law_script", "_law_some", "_law_plan_here", "_law_cloth", "_law_wide", "_law_tall", "_law_k", "_law_one", "_law_steps", "_law_fellows", "_law_drawn", "_law_other", "_law_found"] ["_law_script"] (defScope s_law) := .by
set_option genInjectivity false in
set_option genSizeOf false in
structure Ad where
 a_Board : Addr
 a_Cloth : Addr
 f_isnumber : Addr
 d_isnumber : FuncData
 f_isbelow : Addr
 d_isbelow : FuncData
 f_isbit : Addr
 d_isbit : FuncData
 f_allbits : Addr
 d_allbits : FuncData
 f_isside : Addr
 d_isside : FuncData
 f_needcell : Addr
 d_needcell : FuncData
 f_BoardInit : Addr
 d_BoardInit : FuncData
 f_ClothInit : Addr
 d_ClothInit : FuncData
 f_Clothwide : Addr
 d_Clothwide : FuncData
 f_Clothtall : Addr
 d_Clothtall : FuncData
 f_Clothbitsalong : Addr
 d_Clothbitsalong : FuncData
 f_Clothbit : Addr
 d_Clothbit : FuncData
 f_Clothstitched : Addr
 d_Clothstitched : FuncData
 f_beside : Addr
 d_beside : FuncData
 f_waysto : Addr
 d_waysto : FuncData
 f_path : Addr
 d_path : FuncData
 f_Ldraws : Addr
 d_Ldraws : FuncData
 f_Lbits : Addr
 d_Lbits : FuncData
 f_Lrow : Addr
 d_Lrow : FuncData
 f_Lplan : Addr
 d_Lplan : FuncData
 f_Lmade : Addr
 d_Lmade : FuncData
 f_Lsewn : Addr
 d_Lsewn : FuncData
 f_Lflood : Addr
 d_Lflood : FuncData
 f_Lsame : Addr
 d_Lsame : FuncData
 f_Lwalks : Addr
 d_Lwalks : FuncData
 f_law : Addr
 d_law : FuncData
 a_SewError : Addr
 a_BadSize : Addr
 a_BadBit : Addr
 a_NoCell : Addr
 a_NoLine : Addr
 a_NoStep : Addr
 tk_LONGEST_SIDE : Tok
structure Txt (K : PySem.W.Frag) (mg : Str → Option Value) (t : Ad) : Prop where
 mg_Board : mg "Board" = some (.ref t.a_Board)
 mg_Cloth : mg "Cloth" = some (.ref t.a_Cloth)
 cl_Cloth : Cls K t.a_Cloth
 mk_Cloth : Mk K t.a_Cloth t.f_ClothInit
 na_columns_count : NoAttr K t.a_Cloth "columns_count"
 na_rows_count : NoAttr K t.a_Cloth "rows_count"
 na_col_bits : NoAttr K t.a_Cloth "col_bits"
 na_row_bits : NoAttr K t.a_Cloth "row_bits"
 na_first_colour : NoAttr K t.a_Cloth "first_colour"
 F_isnumber : Fun K "is_number" "is_number" s_isnumber t.f_isnumber t.d_isnumber
 b_isnumber : Binds K t.d_isnumber ["value"] []
 mg_isnumber : mg "is_number" = some (.ref t.f_isnumber)
 F_isbelow : Fun K "is_below" "is_below" s_isbelow t.f_isbelow t.d_isbelow
 b_isbelow : Binds K t.d_isbelow ["value", "bound"] []
 mg_isbelow : mg "is_below" = some (.ref t.f_isbelow)
 F_isbit : Fun K "is_bit" "is_bit" s_isbit t.f_isbit t.d_isbit
 b_isbit : Binds K t.d_isbit ["value"] []
 mg_isbit : mg "is_bit" = some (.ref t.f_isbit)
 F_allbits : Fun K "all_bits" "all_bits" s_allbits t.f_allbits t.d_allbits
 b_allbits : Binds K t.d_allbits ["values"] []
 mg_allbits : mg "all_bits" = some (.ref t.f_allbits)
 F_isside : Fun K "is_side" "is_side" s_isside t.f_isside t.d_isside
 b_isside : Binds K t.d_isside ["count"] []
 mg_isside : mg "is_side" = some (.ref t.f_isside)
 F_needcell : Fun K "need_cell" "need_cell" s_needcell t.f_needcell t.d_needcell
 b_needcell : Binds K t.d_needcell ["board", "x", "y"] []
 mg_needcell : mg "need_cell" = some (.ref t.f_needcell)
 F_BoardInit : Fun K "__init__" "Board.__init__" s_BoardInit t.f_BoardInit t.d_BoardInit
 b_BoardInit : Binds K t.d_BoardInit ["self", "wide", "tall", "cols", "rows"] []
 cf_BoardInit : ClsFn K t.a_Board "__init__" t.f_BoardInit
 F_ClothInit : Fun K "__init__" "Cloth.__init__" s_ClothInit t.f_ClothInit t.d_ClothInit
 b_ClothInit : Binds K t.d_ClothInit ["self", "shade", "cols", "rows"] []
 F_Clothwide : Fun K "wide" "Board.wide" s_Clothwide t.f_Clothwide t.d_Clothwide
 b_Clothwide : Binds K t.d_Clothwide ["self"] []
 m_Clothwide : Meth K t.a_Cloth "wide" t.f_Clothwide
 F_Clothtall : Fun K "tall" "Board.tall" s_Clothtall t.f_Clothtall t.d_Clothtall
 b_Clothtall : Binds K t.d_Clothtall ["self"] []
 m_Clothtall : Meth K t.a_Cloth "tall" t.f_Clothtall
 F_Clothbitsalong : Fun K "bits_along" "Board.bits_along" s_Clothbitsalong t.f_Clothbitsalong t.d_Clothbitsalong
 b_Clothbitsalong : Binds K t.d_Clothbitsalong ["self", "way"] []
 m_Clothbitsalong : Meth K t.a_Cloth "bits_along" t.f_Clothbitsalong
 F_Clothbit : Fun K "bit" "Board.bit" s_Clothbit t.f_Clothbit t.d_Clothbit
 b_Clothbit : Binds K t.d_Clothbit ["self", "way", "k"] []
 m_Clothbit : Meth K t.a_Cloth "bit" t.f_Clothbit
 F_Clothstitched : Fun K "stitched" "Board.stitched" s_Clothstitched t.f_Clothstitched t.d_Clothstitched
 b_Clothstitched : Binds K t.d_Clothstitched ["self", "way", "k", "step"] []
 m_Clothstitched : Meth K t.a_Cloth "stitched" t.f_Clothstitched
 F_beside : Fun K "beside" "beside" s_beside t.f_beside t.d_beside
 b_beside : Binds K t.d_beside ["cloth", "cell"] []
 mg_beside : mg "beside" = some (.ref t.f_beside)
 F_waysto : Fun K "ways_to" "ways_to" s_waysto t.f_waysto t.d_waysto
 b_waysto : Binds K t.d_waysto ["cloth", "goal"] []
 mg_waysto : mg "ways_to" = some (.ref t.f_waysto)
 F_path : Fun K "path" "path" s_path t.f_path t.d_path
 b_path : Binds K t.d_path ["cloth", "one", "other"] []
 mg_path : mg "path" = some (.ref t.f_path)
 F_Ldraws : Fun K "_law_draws" "_law_draws" s_Ldraws t.f_Ldraws t.d_Ldraws
 b_Ldraws : Binds K t.d_Ldraws ["_law_script", "_law_many"] []
 mg_Ldraws : mg "_law_draws" = some (.ref t.f_Ldraws)
 F_Lbits : Fun K "_law_bits" "_law_bits" s_Lbits t.f_Lbits t.d_Lbits
 b_Lbits : Binds K t.d_Lbits ["_law_number", "_law_many"] []
 mg_Lbits : mg "_law_bits" = some (.ref t.f_Lbits)
 F_Lrow : Fun K "_law_row" "_law_row" s_Lrow t.f_Lrow t.d_Lrow
 b_Lrow : Binds K t.d_Lrow ["_law_some", "_law_many"] []
 mg_Lrow : mg "_law_row" = some (.ref t.f_Lrow)
 F_Lplan : Fun K "_law_plan" "_law_plan" s_Lplan t.f_Lplan t.d_Lplan
 b_Lplan : Binds K t.d_Lplan ["_law_some"] []
 mg_Lplan : mg "_law_plan" = some (.ref t.f_Lplan)
 F_Lmade : Fun K "_law_made" "_law_made" s_Lmade t.f_Lmade t.d_Lmade
 b_Lmade : Binds K t.d_Lmade ["_law_plan_here"] []
 mg_Lmade : mg "_law_made" = some (.ref t.f_Lmade)
 F_Lsewn : Fun K "_law_sewn" "_law_sewn" s_Lsewn t.f_Lsewn t.d_Lsewn
 b_Lsewn : Binds K t.d_Lsewn ["_law_plan_here", "_law_way", "_law_k", "_law_step"] []
 mg_Lsewn : mg "_law_sewn" = some (.ref t.f_Lsewn)
 F_Lflood : Fun K "_law_flood" "_law_flood" s_Lflood t.f_Lflood t.d_Lflood
 b_Lflood : Binds K t.d_Lflood ["_law_plan_here", "_law_cell"] []
 mg_Lflood : mg "_law_flood" = some (.ref t.f_Lflood)
 F_Lsame : Fun K "_law_same" "_law_same" s_Lsame t.f_Lsame t.d_Lsame
 b_Lsame : Binds K t.d_Lsame ["_law_told", "_law_due"] []
 mg_Lsame : mg "_law_same" = some (.ref t.f_Lsame)
 F_Lwalks : Fun K "_law_walks" "_law_walks" s_Lwalks t.f_Lwalks t.d_Lwalks
 b_Lwalks : Binds K t.d_Lwalks ["_law_plan_here", "_law_line", "_law_one", "_law_other"] []
 mg_Lwalks : mg "_law_walks" = some (.ref t.f_Lwalks)
 F_law : Fun K "law" "law" s_law t.f_law t.d_law
 b_law : Binds K t.d_law ["_law_script"] []
 mg_law : mg "law" = some (.ref t.f_law)
 mg_SewError : mg "SewError" = some (.ref t.a_SewError)
 mg_BadSize : mg "BadSize" = some (.ref t.a_BadSize)
 mg_BadBit : mg "BadBit" = some (.ref t.a_BadBit)
 mg_NoCell : mg "NoCell" = some (.ref t.a_NoCell)
 mg_NoLine : mg "NoLine" = some (.ref t.a_NoLine)
 mg_NoStep : mg "NoStep" = some (.ref t.a_NoStep)
 x_BadSize : PySem.W.excIn K t.a_BadSize [.type "ValueError", .type "Exception", .type "BaseException", .type "object"] "ValueError.__new__" = true
 x_BadBit : PySem.W.excIn K t.a_BadBit [.type "ValueError", .type "Exception", .type "BaseException", .type "object"] "ValueError.__new__" = true
 x_NoCell : PySem.W.excIn K t.a_NoCell [.type "ValueError", .type "Exception", .type "BaseException", .type "object"] "ValueError.__new__" = true
 x_NoLine : PySem.W.excIn K t.a_NoLine [.type "ValueError", .type "Exception", .type "BaseException", .type "object"] "ValueError.__new__" = true
 x_NoStep : PySem.W.excIn K t.a_NoStep [.type "ValueError", .type "Exception", .type "BaseException", .type "object"] "ValueError.__new__" = true
 mg_LONGEST_SIDE : mg "LONGEST_SIDE" = some (.int 40 t.tk_LONGEST_SIDE)
 no_isinstance : mg "isinstance" = none
 no_int : mg "int" = none
 no_bool : mg "bool" = none
 no_all : mg "all" = none
 no_len : mg "len" = none
 no_tuple : mg "tuple" = none
 no_list : mg "list" = none
 no_range : mg "range" = none
 no_abs : mg "abs" = none
 no_str : mg "str" = none
 no_zip : mg "zip" = none
 no_ValueError : mg "ValueError" = none
 no_sorted : mg "sorted" = none
 no_min : mg "min" = none
 no_max : mg "max" = none
theorem txt_mk {K : PySem.W.Frag} {h : Heap} {mg : Str → Option Value} (X : K.In h) (G : h.Ns mainGlobals mg) {C_Board : Addr} {C_Cloth : Addr} {f_isnumber : Addr} {d_isnumber : FuncData} {f_isbelow : Addr} {d_isbelow : FuncData} {f_isbit : Addr} {d_isbit : FuncData} {f_allbits : Addr} {d_allbits : FuncData} {f_isside : Addr} {d_isside : FuncData} {f_needcell : Addr} {d_needcell : FuncData} {f_BoardInit : Addr} {d_BoardInit : FuncData} {f_ClothInit : Addr} {d_ClothInit : FuncData} {f_Clothwide : Addr} {d_Clothwide : FuncData} {f_Clothtall : Addr} {d_Clothtall : FuncData} {f_Clothbitsalong : Addr} {d_Clothbitsalong : FuncData} {f_Clothbit : Addr} {d_Clothbit : FuncData} {f_Clothstitched : Addr} {d_Clothstitched : FuncData} {f_beside : Addr} {d_beside : FuncData} {f_waysto : Addr} {d_waysto : FuncData} {f_path : Addr} {d_path : FuncData} {f_Ldraws : Addr} {d_Ldraws : FuncData} {f_Lbits : Addr} {d_Lbits : FuncData} {f_Lrow : Addr} {d_Lrow : FuncData} {f_Lplan : Addr} {d_Lplan : FuncData} {f_Lmade : Addr} {d_Lmade : FuncData} {f_Lsewn : Addr} {d_Lsewn : FuncData} {f_Lflood : Addr} {d_Lflood : FuncData} {f_Lsame : Addr} {d_Lsame : FuncData} {f_Lwalks : Addr} {d_Lwalks : FuncData} {f_law : Addr} {d_law : FuncData} {C_SewError : Addr} {C_BadSize : Addr} {C_BadBit : Addr} {C_NoCell : Addr} {C_NoLine : Addr} {C_NoStep : Addr} {tk_LONGEST_SIDE : Tok}
  (aC_Board : PySem.W.nsIn K mainGlobals "Board" = some (some (.ref C_Board)))
  (ga_Board : PySem.W.specialIn K (.ref C_Board) "__getattribute__" = some (some (.builtin "type.__getattribute__")))
  (rd_Board : PySem.W.readsIn K C_Board (.type "type") = true)
  (aC_Cloth : PySem.W.nsIn K mainGlobals "Cloth" = some (some (.ref C_Cloth)))
  (pg_Cloth : PySem.W.plainGet K C_Cloth Str.empty = true)
  (hd_Cloth : PySem.W.hasDictIn K C_Cloth = true)
  (po_Cloth : PySem.W.plainOver K C_Cloth = true)
  (sa_Cloth : PySem.W.findIn K (.ref C_Cloth) "__setattr__" = some (some (.builtin "object.__setattr__")))
  (mk_Cloth : PySem.W.makesIn K C_Cloth = true)
  (kc_Cloth : PySem.W.keepIn K (.ref C_Cloth) = true)
  (na_columns_count : PySem.W.findIn K (.ref C_Cloth) "columns_count" = some none)
  (na_rows_count : PySem.W.findIn K (.ref C_Cloth) "rows_count" = some none)
  (na_col_bits : PySem.W.findIn K (.ref C_Cloth) "col_bits" = some none)
  (na_row_bits : PySem.W.findIn K (.ref C_Cloth) "row_bits" = some none)
  (na_first_colour : PySem.W.findIn K (.ref C_Cloth) "first_colour" = some none)
  (a_isnumber : PySem.W.nsIn K mainGlobals "is_number" = some (some (.ref f_isnumber)))
  (F_isnumber : Fun K "is_number" "is_number" s_isnumber f_isnumber d_isnumber)
  (a_isbelow : PySem.W.nsIn K mainGlobals "is_below" = some (some (.ref f_isbelow)))
  (F_isbelow : Fun K "is_below" "is_below" s_isbelow f_isbelow d_isbelow)
  (a_isbit : PySem.W.nsIn K mainGlobals "is_bit" = some (some (.ref f_isbit)))
  (F_isbit : Fun K "is_bit" "is_bit" s_isbit f_isbit d_isbit)
  (a_allbits : PySem.W.nsIn K mainGlobals "all_bits" = some (some (.ref f_allbits)))
  (F_allbits : Fun K "all_bits" "all_bits" s_allbits f_allbits d_allbits)
  (a_isside : PySem.W.nsIn K mainGlobals "is_side" = some (some (.ref f_isside)))
  (F_isside : Fun K "is_side" "is_side" s_isside f_isside d_isside)
  (a_needcell : PySem.W.nsIn K mainGlobals "need_cell" = some (some (.ref f_needcell)))
  (F_needcell : Fun K "need_cell" "need_cell" s_needcell f_needcell d_needcell)
  (fc_BoardInit : PySem.W.findCls K (.ref C_Board) (.type "type") "__init__" = some (.val (.ref f_BoardInit)))
  (F_BoardInit : Fun K "__init__" "Board.__init__" s_BoardInit f_BoardInit d_BoardInit)
  (a_ClothInit : PySem.W.findIn K (.ref C_Cloth) "__init__" = some (some (.ref f_ClothInit)))
  (i_ClothInit : PySem.W.isFn K (.ref f_ClothInit) = true)
  (F_ClothInit : Fun K "__init__" "Cloth.__init__" s_ClothInit f_ClothInit d_ClothInit)
  (a_Clothwide : PySem.W.findIn K (.ref C_Cloth) "wide" = some (some (.ref f_Clothwide)))
  (i_Clothwide : PySem.W.isFn K (.ref f_Clothwide) = true)
  (F_Clothwide : Fun K "wide" "Board.wide" s_Clothwide f_Clothwide d_Clothwide)
  (a_Clothtall : PySem.W.findIn K (.ref C_Cloth) "tall" = some (some (.ref f_Clothtall)))
  (i_Clothtall : PySem.W.isFn K (.ref f_Clothtall) = true)
  (F_Clothtall : Fun K "tall" "Board.tall" s_Clothtall f_Clothtall d_Clothtall)
  (a_Clothbitsalong : PySem.W.findIn K (.ref C_Cloth) "bits_along" = some (some (.ref f_Clothbitsalong)))
  (i_Clothbitsalong : PySem.W.isFn K (.ref f_Clothbitsalong) = true)
  (F_Clothbitsalong : Fun K "bits_along" "Board.bits_along" s_Clothbitsalong f_Clothbitsalong d_Clothbitsalong)
  (a_Clothbit : PySem.W.findIn K (.ref C_Cloth) "bit" = some (some (.ref f_Clothbit)))
  (i_Clothbit : PySem.W.isFn K (.ref f_Clothbit) = true)
  (F_Clothbit : Fun K "bit" "Board.bit" s_Clothbit f_Clothbit d_Clothbit)
  (a_Clothstitched : PySem.W.findIn K (.ref C_Cloth) "stitched" = some (some (.ref f_Clothstitched)))
  (i_Clothstitched : PySem.W.isFn K (.ref f_Clothstitched) = true)
  (F_Clothstitched : Fun K "stitched" "Board.stitched" s_Clothstitched f_Clothstitched d_Clothstitched)
  (a_beside : PySem.W.nsIn K mainGlobals "beside" = some (some (.ref f_beside)))
  (F_beside : Fun K "beside" "beside" s_beside f_beside d_beside)
  (a_waysto : PySem.W.nsIn K mainGlobals "ways_to" = some (some (.ref f_waysto)))
  (F_waysto : Fun K "ways_to" "ways_to" s_waysto f_waysto d_waysto)
  (a_path : PySem.W.nsIn K mainGlobals "path" = some (some (.ref f_path)))
  (F_path : Fun K "path" "path" s_path f_path d_path)
  (a_Ldraws : PySem.W.nsIn K mainGlobals "_law_draws" = some (some (.ref f_Ldraws)))
  (F_Ldraws : Fun K "_law_draws" "_law_draws" s_Ldraws f_Ldraws d_Ldraws)
  (a_Lbits : PySem.W.nsIn K mainGlobals "_law_bits" = some (some (.ref f_Lbits)))
  (F_Lbits : Fun K "_law_bits" "_law_bits" s_Lbits f_Lbits d_Lbits)
  (a_Lrow : PySem.W.nsIn K mainGlobals "_law_row" = some (some (.ref f_Lrow)))
  (F_Lrow : Fun K "_law_row" "_law_row" s_Lrow f_Lrow d_Lrow)
  (a_Lplan : PySem.W.nsIn K mainGlobals "_law_plan" = some (some (.ref f_Lplan)))
  (F_Lplan : Fun K "_law_plan" "_law_plan" s_Lplan f_Lplan d_Lplan)
  (a_Lmade : PySem.W.nsIn K mainGlobals "_law_made" = some (some (.ref f_Lmade)))
  (F_Lmade : Fun K "_law_made" "_law_made" s_Lmade f_Lmade d_Lmade)
  (a_Lsewn : PySem.W.nsIn K mainGlobals "_law_sewn" = some (some (.ref f_Lsewn)))
  (F_Lsewn : Fun K "_law_sewn" "_law_sewn" s_Lsewn f_Lsewn d_Lsewn)
  (a_Lflood : PySem.W.nsIn K mainGlobals "_law_flood" = some (some (.ref f_Lflood)))
  (F_Lflood : Fun K "_law_flood" "_law_flood" s_Lflood f_Lflood d_Lflood)
  (a_Lsame : PySem.W.nsIn K mainGlobals "_law_same" = some (some (.ref f_Lsame)))
  (F_Lsame : Fun K "_law_same" "_law_same" s_Lsame f_Lsame d_Lsame)
  (a_Lwalks : PySem.W.nsIn K mainGlobals "_law_walks" = some (some (.ref f_Lwalks)))
  (F_Lwalks : Fun K "_law_walks" "_law_walks" s_Lwalks f_Lwalks d_Lwalks)
  (a_law : PySem.W.nsIn K mainGlobals "law" = some (some (.ref f_law)))
  (F_law : Fun K "law" "law" s_law f_law d_law)
  (aX_SewError : PySem.W.nsIn K mainGlobals "SewError" = some (some (.ref C_SewError)))
  (aX_BadSize : PySem.W.nsIn K mainGlobals "BadSize" = some (some (.ref C_BadSize)))
  (aX_BadBit : PySem.W.nsIn K mainGlobals "BadBit" = some (some (.ref C_BadBit)))
  (aX_NoCell : PySem.W.nsIn K mainGlobals "NoCell" = some (some (.ref C_NoCell)))
  (aX_NoLine : PySem.W.nsIn K mainGlobals "NoLine" = some (some (.ref C_NoLine)))
  (aX_NoStep : PySem.W.nsIn K mainGlobals "NoStep" = some (some (.ref C_NoStep)))
  (x_BadSize : PySem.W.excIn K C_BadSize [.type "ValueError", .type "Exception", .type "BaseException", .type "object"] "ValueError.__new__" = true)
  (x_BadBit : PySem.W.excIn K C_BadBit [.type "ValueError", .type "Exception", .type "BaseException", .type "object"] "ValueError.__new__" = true)
  (x_NoCell : PySem.W.excIn K C_NoCell [.type "ValueError", .type "Exception", .type "BaseException", .type "object"] "ValueError.__new__" = true)
  (x_NoLine : PySem.W.excIn K C_NoLine [.type "ValueError", .type "Exception", .type "BaseException", .type "object"] "ValueError.__new__" = true)
  (x_NoStep : PySem.W.excIn K C_NoStep [.type "ValueError", .type "Exception", .type "BaseException", .type "object"] "ValueError.__new__" = true)
  (v_LONGEST_SIDE : PySem.W.nsIn K mainGlobals "LONGEST_SIDE" = some (some (.int 40 tk_LONGEST_SIDE)))
  (z_isinstance : PySem.W.nsIn K mainGlobals "isinstance" = some none)
  (z_int : PySem.W.nsIn K mainGlobals "int" = some none)
  (z_bool : PySem.W.nsIn K mainGlobals "bool" = some none)
  (z_all : PySem.W.nsIn K mainGlobals "all" = some none)
  (z_len : PySem.W.nsIn K mainGlobals "len" = some none)
  (z_tuple : PySem.W.nsIn K mainGlobals "tuple" = some none)
  (z_list : PySem.W.nsIn K mainGlobals "list" = some none)
  (z_range : PySem.W.nsIn K mainGlobals "range" = some none)
  (z_abs : PySem.W.nsIn K mainGlobals "abs" = some none)
  (z_str : PySem.W.nsIn K mainGlobals "str" = some none)
  (z_zip : PySem.W.nsIn K mainGlobals "zip" = some none)
  (z_ValueError : PySem.W.nsIn K mainGlobals "ValueError" = some none)
  (z_sorted : PySem.W.nsIn K mainGlobals "sorted" = some none)
  (z_min : PySem.W.nsIn K mainGlobals "min" = some none)
  (z_max : PySem.W.nsIn K mainGlobals "max" = some none) : ∃ t : Ad, Txt K mg t :=
 ⟨{ a_Board := C_Board, a_Cloth := C_Cloth, f_isnumber := f_isnumber, d_isnumber := d_isnumber, f_isbelow := f_isbelow, d_isbelow := d_isbelow, f_isbit := f_isbit, d_isbit := d_isbit, f_allbits := f_allbits, d_allbits := d_allbits, f_isside := f_isside, d_isside := d_isside, f_needcell := f_needcell, d_needcell := d_needcell, f_BoardInit := f_BoardInit, d_BoardInit := d_BoardInit, f_ClothInit := f_ClothInit, d_ClothInit := d_ClothInit, f_Clothwide := f_Clothwide, d_Clothwide := d_Clothwide, f_Clothtall := f_Clothtall, d_Clothtall := d_Clothtall, f_Clothbitsalong := f_Clothbitsalong, d_Clothbitsalong := d_Clothbitsalong, f_Clothbit := f_Clothbit, d_Clothbit := d_Clothbit, f_Clothstitched := f_Clothstitched, d_Clothstitched := d_Clothstitched, f_beside := f_beside, d_beside := d_beside, f_waysto := f_waysto, d_waysto := d_waysto, f_path := f_path, d_path := d_path, f_Ldraws := f_Ldraws, d_Ldraws := d_Ldraws, f_Lbits := f_Lbits, d_Lbits := d_Lbits, f_Lrow := f_Lrow, d_Lrow := d_Lrow, f_Lplan := f_Lplan, d_Lplan := d_Lplan, f_Lmade := f_Lmade, d_Lmade := d_Lmade, f_Lsewn := f_Lsewn, d_Lsewn := d_Lsewn, f_Lflood := f_Lflood, d_Lflood := d_Lflood, f_Lsame := f_Lsame, d_Lsame := d_Lsame, f_Lwalks := f_Lwalks, d_Lwalks := d_Lwalks, f_law := f_law, d_law := d_law, a_SewError := C_SewError, a_BadSize := C_BadSize, a_BadBit := C_BadBit, a_NoCell := C_NoCell, a_NoLine := C_NoLine, a_NoStep := C_NoStep, tk_LONGEST_SIDE := tk_LONGEST_SIDE }, ⟨PySem.W.mg_of X G aC_Board, PySem.W.mg_of X G aC_Cloth, ⟨pg_Cloth, hd_Cloth, po_Cloth, sa_Cloth⟩, ⟨mk_Cloth, a_ClothInit, i_ClothInit, kc_Cloth⟩, na_columns_count, na_rows_count, na_col_bits, na_row_bits, na_first_colour, F_isnumber, F_isnumber.b1 fun _ _ _ _ _ _ _ => rfl, PySem.W.mg_of X G a_isnumber, F_isbelow, F_isbelow.b2 fun _ _ _ _ _ _ _ _ => rfl, PySem.W.mg_of X G a_isbelow, F_isbit, F_isbit.b1 fun _ _ _ _ _ _ _ => rfl, PySem.W.mg_of X G a_isbit, F_allbits, F_allbits.b1 fun _ _ _ _ _ _ _ => rfl, PySem.W.mg_of X G a_allbits, F_isside, F_isside.b1 fun _ _ _ _ _ _ _ => rfl, PySem.W.mg_of X G a_isside, F_needcell, F_needcell.b3 fun _ _ _ _ _ _ _ _ _ => rfl, PySem.W.mg_of X G a_needcell, F_BoardInit, F_BoardInit.b5 fun _ _ _ _ _ _ _ _ _ _ _ => rfl, ⟨ga_Board, rd_Board, fc_BoardInit, F_BoardInit.kp⟩, F_ClothInit, F_ClothInit.b4 fun _ _ _ _ _ _ _ _ _ _ => rfl, F_Clothwide, F_Clothwide.b1 fun _ _ _ _ _ _ _ => rfl, ⟨a_Clothwide, i_Clothwide, F_Clothwide.kp⟩, F_Clothtall, F_Clothtall.b1 fun _ _ _ _ _ _ _ => rfl, ⟨a_Clothtall, i_Clothtall, F_Clothtall.kp⟩, F_Clothbitsalong, F_Clothbitsalong.b2 fun _ _ _ _ _ _ _ _ => rfl, ⟨a_Clothbitsalong, i_Clothbitsalong, F_Clothbitsalong.kp⟩, F_Clothbit, F_Clothbit.b3 fun _ _ _ _ _ _ _ _ _ => rfl, ⟨a_Clothbit, i_Clothbit, F_Clothbit.kp⟩, F_Clothstitched, F_Clothstitched.b4 fun _ _ _ _ _ _ _ _ _ _ => rfl, ⟨a_Clothstitched, i_Clothstitched, F_Clothstitched.kp⟩, F_beside, F_beside.b2 fun _ _ _ _ _ _ _ _ => rfl, PySem.W.mg_of X G a_beside, F_waysto, F_waysto.b2 fun _ _ _ _ _ _ _ _ => rfl, PySem.W.mg_of X G a_waysto, F_path, F_path.b3 fun _ _ _ _ _ _ _ _ _ => rfl, PySem.W.mg_of X G a_path, F_Ldraws, F_Ldraws.b2 fun _ _ _ _ _ _ _ _ => rfl, PySem.W.mg_of X G a_Ldraws, F_Lbits, F_Lbits.b2 fun _ _ _ _ _ _ _ _ => rfl, PySem.W.mg_of X G a_Lbits, F_Lrow, F_Lrow.b2 fun _ _ _ _ _ _ _ _ => rfl, PySem.W.mg_of X G a_Lrow, F_Lplan, F_Lplan.b1 fun _ _ _ _ _ _ _ => rfl, PySem.W.mg_of X G a_Lplan, F_Lmade, F_Lmade.b1 fun _ _ _ _ _ _ _ => rfl, PySem.W.mg_of X G a_Lmade, F_Lsewn, F_Lsewn.b4 fun _ _ _ _ _ _ _ _ _ _ => rfl, PySem.W.mg_of X G a_Lsewn, F_Lflood, F_Lflood.b2 fun _ _ _ _ _ _ _ _ => rfl, PySem.W.mg_of X G a_Lflood, F_Lsame, F_Lsame.b2 fun _ _ _ _ _ _ _ _ => rfl, PySem.W.mg_of X G a_Lsame, F_Lwalks, F_Lwalks.b4 fun _ _ _ _ _ _ _ _ _ _ => rfl, PySem.W.mg_of X G a_Lwalks, F_law, F_law.b1 fun _ _ _ _ _ _ _ => rfl, PySem.W.mg_of X G a_law, PySem.W.mg_of X G aX_SewError, PySem.W.mg_of X G aX_BadSize, PySem.W.mg_of X G aX_BadBit, PySem.W.mg_of X G aX_NoCell, PySem.W.mg_of X G aX_NoLine, PySem.W.mg_of X G aX_NoStep, x_BadSize, x_BadBit, x_NoCell, x_NoLine, x_NoStep, PySem.W.mg_of X G v_LONGEST_SIDE, PySem.W.mg_none_of X G z_isinstance, PySem.W.mg_none_of X G z_int, PySem.W.mg_none_of X G z_bool, PySem.W.mg_none_of X G z_all, PySem.W.mg_none_of X G z_len, PySem.W.mg_none_of X G z_tuple, PySem.W.mg_none_of X G z_list, PySem.W.mg_none_of X G z_range, PySem.W.mg_none_of X G z_abs, PySem.W.mg_none_of X G z_str, PySem.W.mg_none_of X G z_zip, PySem.W.mg_none_of X G z_ValueError, PySem.W.mg_none_of X G z_sorted, PySem.W.mg_none_of X G z_min, PySem.W.mg_none_of X G z_max⟩⟩
local macro_rules | `(tactic| walk_at "rd1") => `(tactic| first
 | ((with_reducible refine' rd_var (v := ?kv) ?ke ?kh); (case ke => exact rfl))
 | (with_reducible refine rd_seqA fun _ _ => ?_) | (with_reducible refine rd_asg ?_) | (with_reducible refine rd_name ?_) | (with_reducible refine rd_ret ?_) | (with_reducible refine rd_retN ?_) | (with_reducible refine rd_drop ?_)
 | (with_reducible refine rd_ifS ?_) | (with_reducible refine rd_tB ?_) | (with_reducible refine rd_tTest ?_) | (with_reducible refine rd_exbl ?_) | (with_reducible refine rd_c ?_) | (with_reducible refine rd_op ?_) | (with_reducible refine rd_un ?_)
 | (with_reducible refine rd_andV ?_) | (with_reducible refine rd_orV ?_) | (with_reducible refine rd_notV ?_) | (with_reducible refine rd_and ?_) | (with_reducible refine rd_or ?_) | (with_reducible refine rd_not ?_) | (with_reducible refine rd_if ?_) | (with_reducible refine rd_true ?_)
 | (with_reducible refine rd_I0 ?_) | (with_reducible refine rd_U ?_) | (with_reducible refine rd_eqI ?_) | (with_reducible refine rd_neI ?_) | (with_reducible refine rd_eqS ?_) | (with_reducible refine rd_eqB ?_) | (with_reducible refine rd_neB ?_)
 | (with_reducible refine rd_chain ?_) | (with_reducible refine rd_call ?_) | (with_reducible refine rd_nil ?_) | (with_reducible refine rd_cons ?_) | (with_reducible refine rd_CB ?_) | (with_reducible refine rd_tup ?_) | (with_reducible refine rd_lst ?_)
 | (with_reducible refine rd_next ?_) | ((with_reducible refine' rd_aug (x := ?kv) ?ke ?kh); (case ke => exact rfl)) | (with_reducible refine rd_ipI ?_) | (with_reducible refine rd_gcons ?_) | (with_reducible refine rd_gnil ?_) | (with_reducible refine rd_gsub ?_) | (with_reducible refine rd_sfld ?_) | (with_reducible refine rd_while ?_) | (with_reducible refine rd_comp ?_) | (with_reducible refine rd_fld ?_) | (with_reducible refine rd_meth ?_) | (with_reducible refine rd_make ?_) | (with_reducible refine rd_raise ?_) | (with_reducible refine rd_try ?_) | (with_reducible refine rd_callS ?_) | (with_reducible refine rd_methS ?_) | (with_reducible refine rd_makeS ?_) | (with_reducible refine rd_bm ?_) | (with_reducible refine rd_bm0 ?_) | (with_reducible refine rd_sl ?_) | (with_reducible refine rd_nopart ?_) | (with_reducible refine rd_part ?_) | (with_reducible refine rd_exint ?_) | (with_reducible refine rd_exref ?_)
 | (with_reducible refine rd_abs ?_) | (with_reducible refine rd_min2 ?_) | (with_reducible refine rd_max2 ?_) | (with_reducible refine rd_intB ?_) | (with_reducible refine rd_for ?_) | (with_reducible refine rd_rng1 ?_) | (with_reducible refine rd_ilist ?_) | (with_reducible refine rd_itup ?_) | (with_reducible refine rd_izipS ?_) | (with_reducible refine iteT ?_) | (with_reducible refine iteF ?_) | (with_reducible refine if_true_do ?_) | (with_reducible refine iteNN ?_) | (with_reducible refine iteTA ?_) | (with_reducible refine iteFA ?_) | ((with_reducible refine' rd_cut (r := ?kr) ?ke ?kh); (case ke => assumption)) | (dsimp only))
local macro_rules | `(tactic| walk_at "rd") => `(tactic| repeat walk_at "rd1")
section
variable {P : Program} {w : World} {K : PySem.W.Frag} {mg : Str → Option Value} {base : Heap} {t : Ad}
def isBit (i : Int) : Bool := decide (0 ≤ i) && decide (i < 2)
def sp_isnumber : Sp := fun vs H Q _ => ∃ i, vs = [.int i] ∧ Q (.bl true) H
theorem ok_isnumber (T : Txt K mg t) : FnOk P w K mg base CX0 1 t.f_isnumber t.d_isnumber ["value"] sp_isnumber := by
 refine T.F_isnumber.ok sc_isnumber (fun vs H Q E h => ?_) (fun cdv A outer s H vs Q E hr h => ?_)
 ·obtain ⟨i, rfl, _⟩ := h; rfl
 ·obtain ⟨i, rfl, k⟩ := h
  refine ⟨_, (pss_one (ps_ret (pe_and (pe_callB (cI_isinstK K rfl) rfl T.no_isinstance (by rfl) (pa_cons (pv 0) (pa_cons (pe_bltn (v := .ty "int") rfl T.no_int (by rfl : bootBuiltins "int" = some (.type "int")) rfl) pa_nil))) (pe_one (pe_not (pe_callB (cI_isinstK K rfl) rfl T.no_isinstance (by rfl) (pa_cons (pv 0) (pa_cons (pe_bltn (v := .ty "bool") rfl T.no_bool (by rfl : bootBuiltins "bool" = some (.type "bool")) rfl) pa_nil)))))))), ?_⟩
  walk_at "rd"
  refine rd_isi (.int i) kit_ii ?_
  walk_at "rd"
  refine rd_isi (.int i) kit_ib ?_
  walk_at "rd"
  exact k
def sp_isbelow : Sp := fun vs H Q _ => ∃ i b, vs = [.int i, .int b] ∧ Q (.bl (decide (0 ≤ i) && decide (i < b))) H
theorem ok_isbelow (T : Txt K mg t) : FnOk P w K mg base CX0 2 t.f_isbelow t.d_isbelow ["value", "bound"] sp_isbelow := by
 have G_isnumber := ok_isnumber (P := P) (w := w) (base := base) T
 refine T.F_isbelow.ok sc_isbelow (fun vs H Q E h => ?_) (fun cdv A outer s H vs Q E hr h => ?_)
 ·obtain ⟨i, b, rfl, _⟩ := h; rfl
 ·obtain ⟨i, b, rfl, k⟩ := h
  refine ⟨_, (pss_one (ps_ret (pe_and (pe_call G_isnumber (hr.mono (by first | decide | omega)) rfl T.mg_isnumber T.F_isnumber.kp T.b_isnumber .nil pass0 (pa_cons (pv 0) pa_nil)) (pe_one (pe_chain op_le op_lt pe_int (pv 0) (pv 1)))))), ?_⟩
  walk_at "rd"
  refine ⟨i, rfl, ?_⟩
  walk_at "rd"
  refine ite2 (fun h0 => ?_) (fun h0 => ?_)
  ·walk_at "rd"
   rw [h0] at k
   exact k
  ·rw [Bool.not_eq_true] at h0
   rw [h0] at k
   exact k
def sp_isbit : Sp := fun vs H Q _ => ∃ i, vs = [.int i] ∧ Q (.bl (isBit i)) H
theorem ok_isbit (T : Txt K mg t) : FnOk P w K mg base CX0 3 t.f_isbit t.d_isbit ["value"] sp_isbit := by
 have G_isbelow := ok_isbelow (P := P) (w := w) (base := base) T
 refine T.F_isbit.ok sc_isbit (fun vs H Q E h => ?_) (fun cdv A outer s H vs Q E hr h => ?_)
 ·obtain ⟨i, rfl, _⟩ := h; rfl
 ·obtain ⟨i, rfl, k⟩ := h
  refine ⟨_, (pss_one (ps_ret (pe_call G_isbelow (hr.mono (by first | decide | omega)) rfl T.mg_isbelow T.F_isbelow.kp T.b_isbelow .nil pass0 (pa_cons (pv 0) (pa_cons pe_int pa_nil))))), ?_⟩
  walk_at "rd"
  exact ⟨i, 2, rfl, k⟩
def isSide (n : Int) : Bool := decide (0 < n) && decide (n < 41)
def sp_isside : Sp := fun vs H Q _ => ∃ i, vs = [.int i] ∧ Q (.bl (isSide i)) H
theorem ok_isside (T : Txt K mg t) : FnOk P w K mg base CX0 3 t.f_isside t.d_isside ["count"] sp_isside := by
  have G_isbelow := ok_isbelow (P := P) (w := w) (base := base) T
  refine T.F_isside.ok sc_isside (fun vs H Q E h => ?_) (fun cdv A outer s H vs Q E hr h => ?_)
  · obtain ⟨i, rfl, _⟩ := h; rfl
  · obtain ⟨i, rfl, k⟩ := h
    refine ⟨_, (pss_one (ps_ret (pe_and (pe_call G_isbelow (hr.mono (by first | decide | omega)) rfl T.mg_isbelow T.F_isbelow.kp T.b_isbelow .nil pass0 (pa_cons (pv 0) (pa_cons (pe_op op_add (pe_glob (v := .int 40) rfl T.mg_LONGEST_SIDE ⟨_, rfl⟩) pe_int) pa_nil))) (pe_one (pe_cmpR op_gt (pv 0) pe_int (nomark _)))))), ?_⟩
    walk_at "rd"
    refine ⟨i, _, rfl, ?_⟩
    walk_at "rd"
    refine ite2 (fun h0 => ?_) (fun h0 => ?_)
    · walk_at "rd"
      have e : isSide i = decide (0 < i) := by
        rw [Bool.and_eq_true, decide_eq_true_eq, decide_eq_true_eq] at h0
        unfold isSide
        rw [decide_eq_true (by omega : i < 41), Bool.and_true]
      rw [e] at k
      exact k
    · have e : isSide i = false := by
        rw [Bool.and_eq_true, decide_eq_true_eq, decide_eq_true_eq] at h0
        unfold isSide
        by_cases hi : 0 < i
        · rw [decide_eq_false (by omega : ¬ i < 41), Bool.and_false]
        · rw [decide_eq_false hi, Bool.false_and]
      rw [e] at k
      exact k
theorem side_len {n : Nat} : isSide ((n : Int) + 1) = decide (n ≤ 39) := by
 unfold isSide
 rw [decide_eq_true (by omega : (0 : Int) < (n : Int) + 1), Bool.true_and]
 exact decide_eq_decide.mpr (by omega)
end
section
variable {P : Program} {w : World} {K : PySem.W.Frag} {mg : Str → Option Value} {base : Heap} {t : Ad}
def sp_allbits : Sp := fun vs H Q _ => ∃ (p : Addr) (ns : List Int), vs = [.ref p] ∧ H p = some (.lst (ns.map V.int)) ∧ ns.length ≤ 1000 ∧ ∀ H', Same H H' → Q (.bl (ns.all isBit)) H'
theorem ok_allbits (T : Txt K mg t) : FnOk P w K mg base CX0 4 t.f_allbits t.d_allbits ["values"] sp_allbits := by
 have G_isbit := ok_isbit (P := P) (w := w) (base := base) T
 refine T.F_allbits.ok sc_allbits (fun vs H Q E h => ?_) (fun cdv A outer s H vs Q E hr h => ?_)
 ·obtain ⟨p, ns, rfl, _⟩ := h; rfl
 ·obtain ⟨p, ns, rfl, hp, hl, k⟩ := h
  refine ⟨_, (pss_one (ps_ret (pe_callB (cI_allK K rfl rfl) rfl T.no_all (by rfl) (pa_cons (pe_comp (N := ["value"]) (cap := [none]) rfl ⟨rfl, rfl, rfl, rfl, rfl, rfl⟩ (pi_list (pv 0)) (fun _ _ _ => (pg_name (i := 0) (show (["value"] : List Str).Nodup by decide +kernel) rfl (Or.inl rfl))) (fun _ _ _ => pts_nil) (fun _ _ _ => (pe_call G_isbit (hr.mono (by first | decide | omega)) rfl T.mg_isbit T.F_isbit.kp T.b_isbit .nil pass0 (pa_cons (pv 0) pa_nil)))) pa_nil)))), ?_⟩
  walk_at "rd"
  refine ⟨⟨_, SqL.of hp⟩, fun l hn => ?_⟩
  refine compW_list (fun v => match v with | .int i => .bl (isBit i) | _ => .non) (SqL.of hp) (by rw [List.length_map]; exact hl) hn (fun x o H' Q' hx s1 q => ?_) (fun H' s1 e => ?_)
  ·obtain ⟨i, _, rfl⟩ := List.mem_map.mp hx
   walk_at "rd"
   exact ⟨i, rfl, q H' (Same.refl _)⟩
  ·walk_at "rd"
   have e' : H' l = some (.lst ((ns.map isBit).map V.bl)) := by rw [e, List.map_map, List.map_map]; rfl
   refine rd_all e' ?_
   rw [List.all_map]
   exact k H' s1
def bfl (a b : Addr) (w h : Int) : List (Str × V) := putF "row_bits" (.ref b) (putF "col_bits" (.ref a) (putF "rows_count" (.int h) (putF "columns_count" (.int w) [])))
def cfl (s : Int) (a b : Addr) (w h : Int) : List (Str × V) := putF "first_colour" (.int s) (bfl a b w h)
abbrev NoF (m : Str) : Prop := ((¬ m = "first_colour") ∧ ¬ m = "col_bits") ∧ (¬ m = "row_bits") ∧ (¬ m = "columns_count") ∧ ¬ m = "rows_count"
theorem bfl_w {w h : Int} (a b : Addr) : (bfl a b w h).lookup ("columns_count" : Str) = some (.int w) := by
 unfold bfl; rw [lookup_putF, if_neg (by decide +kernel), lookup_putF, if_neg (by decide +kernel), lookup_putF, if_neg (by decide +kernel), lookup_putF, if_pos rfl]
theorem bfl_h {w h : Int} (a b : Addr) : (bfl a b w h).lookup ("rows_count" : Str) = some (.int h) := by
 unfold bfl; rw [lookup_putF, if_neg (by decide +kernel), lookup_putF, if_neg (by decide +kernel), lookup_putF, if_pos rfl]
theorem bfl_c {w h : Int} (a b : Addr) : (bfl a b w h).lookup ("col_bits" : Str) = some (.ref a) := by
 unfold bfl; rw [lookup_putF, if_neg (by decide +kernel), lookup_putF, if_pos rfl]
theorem bfl_r {w h : Int} (a b : Addr) : (bfl a b w h).lookup ("row_bits" : Str) = some (.ref b) := by
 unfold bfl; rw [lookup_putF, if_pos rfl]
theorem bfl_no {w h : Int} (a b : Addr) {m : Str} (n : NoF m) : (bfl a b w h).lookup m = none := by
 obtain ⟨⟨n1, n2⟩, n3, n4, n5⟩ := n
 unfold bfl; rw [lookup_putF, if_neg n3, lookup_putF, if_neg n2, lookup_putF, if_neg n5, lookup_putF, if_neg n4]; rfl
theorem cfl_w {w h : Int} (s : Int) (a b : Addr) : (cfl s a b w h).lookup ("columns_count" : Str) = some (.int w) := by
 unfold cfl; rw [lookup_putF, if_neg (by decide +kernel), bfl_w]
theorem cfl_h {w h : Int} (s : Int) (a b : Addr) : (cfl s a b w h).lookup ("rows_count" : Str) = some (.int h) := by
 unfold cfl; rw [lookup_putF, if_neg (by decide +kernel), bfl_h]
theorem cfl_c {w h : Int} (s : Int) (a b : Addr) : (cfl s a b w h).lookup ("col_bits" : Str) = some (.ref a) := by
 unfold cfl; rw [lookup_putF, if_neg (by decide +kernel), bfl_c]
theorem cfl_r {w h : Int} (s : Int) (a b : Addr) : (cfl s a b w h).lookup ("row_bits" : Str) = some (.ref b) := by
 unfold cfl; rw [lookup_putF, if_neg (by decide +kernel), bfl_r]
theorem cfl_no {w h : Int} (s : Int) (a b : Addr) {m : Str} (n : NoF m) : (cfl s a b w h).lookup m = none := by
 unfold cfl; rw [lookup_putF, if_neg n.1.1, bfl_no _ _ n]
structure BoardAt (C : Addr) (H : Hp) (p : Addr) (w h : Int) (cs rs : List Int) : Prop where
 ob : ∃ dx a b, H p = some (.ins C dx (bfl a b w h)) ∧ H a = some (.tup (cs.map V.int)) ∧ H b = some (.tup (rs.map V.int))
structure ClothAt (C : Addr) (H : Hp) (p : Addr) (s : Int) (cs rs : List Int) : Prop where
 ob : ∃ dx a b, H p = some (.ins C dx (cfl s a b ((cs.length : Int) + 1) ((rs.length : Int) + 1))) ∧ H a = some (.tup (cs.map V.int)) ∧ H b = some (.tup (rs.map V.int))
theorem ClothAt.mono {C : Addr} {H H' : Hp} {p : Addr} {s : Int} {cs rs : List Int} (e : Same H H') (c : ClothAt C H p s cs rs) : ClothAt C H' p s cs rs := by
 obtain ⟨dx, a, b, h1, h2, h3⟩ := c.ob
 exact ⟨dx, a, b, e _ _ h1, e _ _ h2, e _ _ h3⟩
def Bits (l : List Int) : Prop := l.length ≤ 39 ∧ ∀ z ∈ l, z = 0 ∨ z = 1
theorem Bits.all {l : List Int} (h : Bits l) : l.all isBit = true := by
 rw [List.all_eq_true]
 intro z hz
 rcases h.2 z hz with rfl | rfl <;> rfl
def KpBut (H : Hp) (p : Addr) (H' : Hp) : Prop := ∀ b o, H b = some o → b ≠ p → H' b = some o
def bitsOk (s : Int) (cs rs : List Int) : Bool := isBit s && (cs.all isBit && rs.all isBit)
theorem Bits.ok {s : Int} {cs rs : List Int} (hs : s = 0 ∨ s = 1) (bc : Bits cs) (br : Bits rs) : bitsOk s cs rs = true := by
 unfold bitsOk
 rw [bc.all, br.all]
 rcases hs with rfl | rfl <;> rfl
def spx_BoardInit (C BB : Addr) : Sp := fun vs H Q E => ∃ (p dx c r : Addr) (w h : Int) (cs rs : List Int), vs = [.ref p, .int w, .int h, .ref c, .ref r] ∧ H p = some (.ins C dx []) ∧ H c = some (.lst (cs.map V.int)) ∧ H r = some (.lst (rs.map V.int)) ∧
 cs.length ≤ 1000 ∧ rs.length ≤ 1000 ∧ (((cs.all isBit && rs.all isBit) = false ∧ ∀ H', Same H H' → E (.ref BB) none H') ∨
  ((cs.all isBit && rs.all isBit) = true ∧ ∀ H', KpBut H p H' → BoardAt C H' p w h cs rs → Q .non H'))
theorem okx_BoardInit (T : Txt K mg t) : FnOk P w K mg base (CX1 P w) 5 t.f_BoardInit t.d_BoardInit ["self", "wide", "tall", "cols", "rows"] (spx_BoardInit t.a_Cloth t.a_BadBit) := by
 have G_allbits := ok_allbits (P := P) (w := w) (base := base) T
 refine T.F_BoardInit.ok1 sc_BoardInit (fun vs H Q E h => ?_) (fun cdv A outer s H vs Q E hr h => ?_)
 ·obtain ⟨p, dx, c, r, wd, ht, cs, rs, rfl, _⟩ := h; rfl
 ·obtain ⟨p, dx, c, r, wd, ht, cs, rs, rfl, hp, hc, hr', lc, lr, k⟩ := h
  refine cutC (ps_if (pt_not (PW.pt (pw_and (pt_val (pe_call G_allbits.up (hr.mono (by first | decide | omega)) rfl T.mg_allbits T.F_allbits.kp T.b_allbits .nil pass1 (pa_cons (pv 3) pa_nil))) (pw_and1 (pt_val (pe_call G_allbits.up (hr.mono (by first | decide | omega)) rfl T.mg_allbits T.F_allbits.kp T.b_allbits .nil pass1 (pa_cons (pv 4) pa_nil))))))) (pss_one (ps_raiseK T.mg_BadBit T.x_BadBit PySem.F.excBase_ValueError rfl rfl (fun _ _ _ _ _ _ _ _ I m q => xe_new I m q) (pa_cons pe_str pa_nil))) pss_nil) fun _ _ => cutC (ps_fld (pv 0) (pv 1) rfl) fun _ _ => cutC (ps_fld (pv 0) (pv 2) rfl) fun _ _ => cutC (ps_fld (pv 0) (pe_callTy (cI_tupleK K rfl) rfl T.no_tuple (by rfl) (pa_cons (pv 3) pa_nil)) rfl) fun _ _ => cutE (ps_fld (pv 0) (pe_callTy (cI_tupleK K rfl) rfl T.no_tuple (by rfl) (pa_cons (pv 4) pa_nil)) rfl) fun _ _ => ?_
  walk_at "rd"
  refine ⟨c, cs, rfl, hc, lc, fun H1 s1 => ?_⟩
  cases b2 : cs.all isBit with
  | false =>
   walk_at "rd"
   refine ⟨by show 1 ≤ sizeLine; decide, ?_⟩
   rcases k with ⟨_, e⟩ | ⟨y, _⟩
   ·exact e _ s1
   ·rw [b2] at y; cases y
  | true =>
   walk_at "rd"
   refine ⟨r, rs, rfl, s1 _ _ hr', lr, fun H2 s2 => ?_⟩
   have s12 := s1.trans s2
   cases b3 : rs.all isBit with
   | false =>
    walk_at "rd"
    refine ⟨by show 1 ≤ sizeLine; decide, ?_⟩
    rcases k with ⟨_, e⟩ | ⟨y, _⟩
    ·exact e _ s12
    ·rw [b2, b3] at y; cases y
   | true =>
    walk_at "rd"
    have k : ∀ H', KpBut H p H' → BoardAt t.a_Cloth H' p wd ht cs rs → Q .non H' := by
     rcases k with ⟨y, _⟩ | ⟨_, z⟩
     ·rw [b2, b3] at y; cases y
     ·exact z
    have npc : c ≠ p := ne_of hc hp (by intro z; cases z)
    have npr : r ≠ p := ne_of hr' hp (by intro z; cases z)
    refine rd_sfldv (s12 _ _ hp) T.cl_Cloth T.na_columns_count (by show 0 < 1000; decide) ?_
    walk_at "rd"
    refine rd_sfldv upd_same T.cl_Cloth T.na_rows_count (Nat.lt_of_le_of_lt (length_putF _ _ _) (by show 1 < 1000; decide)) ?_
    rw [upd_upd]
    walk_at "rd"
    refine rd_tupleL (by rw [upd_ne npc]; exact s12 _ _ hc) fun a ha => ?_
    have pa : p ≠ a := by intro z; subst z; rw [upd_same] at ha; cases ha
    walk_at "rd"
    refine rd_sfldv (by rw [upd_ne pa, upd_same]) T.cl_Cloth T.na_col_bits (Nat.lt_of_le_of_lt (length_putF _ _ _) (Nat.lt_of_le_of_lt (Nat.succ_le_succ (length_putF _ _ _)) (by show 2 < 1000; decide))) ?_
    walk_at "rd"
    have ra : r ≠ a := by intro z; subst z; rw [upd_ne npr, s12 _ _ hr'] at ha; cases ha
    refine rd_tupleL (by rw [upd_ne npr, upd_ne ra, upd_ne npr]; exact s12 _ _ hr') fun b hb => ?_
    have pb : p ≠ b := by intro z; subst z; rw [upd_same] at hb; cases hb
    have ab : a ≠ b := by intro z; subst z; rw [upd_ne pa.symm, upd_same] at hb; cases hb
    walk_at "rd"
    refine rd_sfldv (by rw [upd_ne pb, upd_same]) T.cl_Cloth T.na_row_bits (Nat.lt_of_le_of_lt (length_putF _ _ _) (Nat.lt_of_le_of_lt (Nat.succ_le_succ (length_putF _ _ _)) (Nat.lt_of_le_of_lt (Nat.succ_le_succ (Nat.succ_le_succ (length_putF _ _ _))) (by show 3 < 1000; decide)))) ?_
    walk_at "rd"
    refine k _ (fun x o e hx => ?_) ⟨⟨dx, a, b, upd_same, ?_, ?_⟩⟩
    ·have e2 := s12 _ _ e
     have xa : x ≠ a := by intro z; subst z; rw [upd_ne hx, e2] at ha; cases ha
     have xb : x ≠ b := by intro z; subst z; rw [upd_ne hx, upd_ne xa, upd_ne hx, e2] at hb; cases hb
     rw [upd_ne hx, upd_ne xb, upd_ne hx, upd_ne xa, upd_ne hx]
     exact e2
    ·rw [upd_ne pa.symm, upd_ne ab, upd_ne pa.symm, upd_same]
    ·rw [upd_ne pb.symm, upd_same]
def spx_ClothInit (C BS BB : Addr) : Sp := fun vs H Q E => ∃ (p dx c r : Addr) (s : Int) (cs rs : List Int), vs = [.ref p, .int s, .ref c, .ref r] ∧ H p = some (.ins C dx []) ∧ H c = some (.lst (cs.map V.int)) ∧ H r = some (.lst (rs.map V.int)) ∧
 cs.length ≤ 1000 ∧ rs.length ≤ 1000 ∧ ((¬ (cs.length ≤ 39 ∧ rs.length ≤ 39) ∧ E (.ref BS) none H) ∨ ((cs.length ≤ 39 ∧ rs.length ≤ 39) ∧ bitsOk s cs rs = false ∧ ∀ H', KpBut H p H' → E (.ref BB) none H') ∨
  ((cs.length ≤ 39 ∧ rs.length ≤ 39) ∧ bitsOk s cs rs = true ∧ ∀ H', KpBut H p H' → ClothAt C H' p s cs rs → Q .non H'))
theorem okx_ClothInit (T : Txt K mg t) : FnOk P w K mg base (CX1 P w) 6 t.f_ClothInit t.d_ClothInit ["self", "shade", "cols", "rows"] (spx_ClothInit t.a_Cloth t.a_BadSize t.a_BadBit) := by
 have G_isbit := ok_isbit (P := P) (w := w) (base := base) T
 have GX_BoardInit := okx_BoardInit (P := P) (w := w) (base := base) T
 have G_isside := ok_isside (P := P) (w := w) (base := base) T
 refine T.F_ClothInit.ok1 sc_ClothInit (fun vs H Q E h => ?_) (fun cdv A outer s H vs Q E hr h => ?_)
 ·obtain ⟨p, dx, c, r, s, cs, rs, rfl, _⟩ := h; rfl
 ·obtain ⟨p, dx, c, r, s, cs, rs, rfl, hp, hc, hr', lc, lr, k⟩ := h
  refine cutC (ps_if (pt_not (PW.pt (pw_and (pt_val (pe_call G_isside.up (hr.mono (by first | decide | omega)) rfl T.mg_isside T.F_isside.kp T.b_isside .nil pass1 (pa_cons (pe_op op_add (pe_callB (cI_lenK K rfl) rfl T.no_len (by rfl) (pa_cons (pv 2) pa_nil)) pe_int) pa_nil))) (pw_and1 (pt_val (pe_call G_isside.up (hr.mono (by first | decide | omega)) rfl T.mg_isside T.F_isside.kp T.b_isside .nil pass1 (pa_cons (pe_op op_add (pe_callB (cI_lenK K rfl) rfl T.no_len (by rfl) (pa_cons (pv 3) pa_nil)) pe_int) pa_nil))))))) (pss_one (ps_raiseK T.mg_BadSize T.x_BadSize PySem.F.excBase_ValueError rfl rfl (fun _ _ _ _ _ _ _ _ I m q => xe_new I m q) (pa_cons pe_str pa_nil))) pss_nil) fun _ _ => cutC (ps_if (pt_not (pt_val (pe_call G_isbit.up (hr.mono (by first | decide | omega)) rfl T.mg_isbit T.F_isbit.kp T.b_isbit .nil pass1 (pa_cons (pv 1) pa_nil)))) (pss_one (ps_raiseK T.mg_BadBit T.x_BadBit PySem.F.excBase_ValueError rfl rfl (fun _ _ _ _ _ _ _ _ I m q => xe_new I m q) (pa_cons pe_str pa_nil))) pss_nil) fun _ _ => cutC (ps_expr (pe_callC rfl T.mg_Board T.cf_BoardInit GX_BoardInit (hr.mono (by first | decide | omega)) T.b_BoardInit .nil pass1 (pa_cons (pv 0) (pa_cons (pe_op op_add (pe_callB (cI_lenK K rfl) rfl T.no_len (by rfl) (pa_cons (pv 2) pa_nil)) pe_int) (pa_cons (pe_op op_add (pe_callB (cI_lenK K rfl) rfl T.no_len (by rfl) (pa_cons (pv 3) pa_nil)) pe_int) (pa_cons (pv 2) (pa_cons (pv 3) pa_nil))))))) fun _ _ => cutE (ps_fld (pv 0) (pv 1) rfl) fun _ _ => ?_
  walk_at "rd"
  refine rd_lenL hc ?_
  walk_at "rd"
  refine ⟨_, rfl, ?_⟩
  rw [List.length_map, side_len]
  have sz : (¬ (cs.length ≤ 39 ∧ rs.length ≤ 39) → E (.ref t.a_BadSize) none H) := fun n => by
   rcases k with ⟨_, e⟩ | ⟨z, _⟩ | ⟨z, _⟩
   ·exact e
   ·exact absurd z n
   ·exact absurd z n
  by_cases c1 : cs.length ≤ 39
  ·rw [decide_eq_true c1]
   walk_at "rd"
   refine rd_lenL hr' ?_
   walk_at "rd"
   refine ⟨_, rfl, ?_⟩
   rw [List.length_map, side_len]
   by_cases c2 : rs.length ≤ 39
   ·rw [decide_eq_true c2]
    walk_at "rd"
    have k : (bitsOk s cs rs = false ∧ ∀ H', KpBut H p H' → E (.ref t.a_BadBit) none H') ∨ (bitsOk s cs rs = true ∧ ∀ H', KpBut H p H' → ClothAt t.a_Cloth H' p s cs rs → Q .non H') := by
     rcases k with ⟨z, _⟩ | ⟨_, z⟩ | ⟨_, z⟩
     ·exact absurd ⟨c1, c2⟩ z
     ·exact .inl z
     ·exact .inr z
    have bad : ∀ H', bitsOk s cs rs = false → Same H H' → E (.ref t.a_BadBit) none H' := fun H' z sm => by
     rcases k with ⟨_, e⟩ | ⟨y, _⟩
     ·exact e H' fun b o eb _ => sm b o eb
     ·rw [z] at y; cases y
    refine ⟨s, rfl, ?_⟩
    cases b1 : isBit s with
    | false =>
     walk_at "rd"
     refine ⟨by show 1 ≤ sizeLine; decide, ?_⟩
     exact bad _ (by unfold bitsOk; rw [b1]; rfl) (Same.refl _)
    | true =>
     walk_at "rd"
     refine rd_lenL hc ?_
     walk_at "rd"
     refine rd_lenL hr' ?_
     walk_at "rd"
     rw [List.length_map, List.length_map]
     refine ⟨p, dx, c, r, _, _, cs, rs, rfl, hp, hc, hr', lc, lr, ?_⟩
     cases b2 : (cs.all isBit && rs.all isBit) with
     | false => exact .inl ⟨rfl, fun H' s1 => bad _ (by unfold bitsOk; rw [b2, Bool.and_false]) s1⟩
     | true =>
      refine .inr ⟨rfl, fun H' kp ⟨dx', a, b, h1, h2, h3⟩ => ?_⟩
      have k : ∀ H', KpBut H p H' → ClothAt t.a_Cloth H' p s cs rs → Q .non H' := by
       rcases k with ⟨y, _⟩ | ⟨_, z⟩
       ·unfold bitsOk at y; rw [b1, b2] at y; cases y
       ·exact z
      walk_at "rd"
      refine rd_sfldv h1 T.cl_Cloth T.na_first_colour (by unfold bfl; exact Nat.lt_of_le_of_lt (length_putF _ _ _) (Nat.lt_of_le_of_lt (Nat.succ_le_succ (length_putF _ _ _)) (Nat.lt_of_le_of_lt (Nat.succ_le_succ (Nat.succ_le_succ (length_putF _ _ _))) (Nat.lt_of_le_of_lt (Nat.succ_le_succ (Nat.succ_le_succ (Nat.succ_le_succ (length_putF _ _ _)))) (by show 4 < 1000; decide))))) ?_
      walk_at "rd"
      have pa : a ≠ p := ne_of h2 h1 (by intro z; cases z)
      have pb : b ≠ p := ne_of h3 h1 (by intro z; cases z)
      refine k _ (fun x o e hx => ?_) ⟨⟨dx', a, b, upd_same, ?_, ?_⟩⟩
      ·rw [upd_ne hx]; exact kp x o e hx
      ·rw [upd_ne pa]; exact h2
      ·rw [upd_ne pb]; exact h3
   ·rw [decide_eq_false c2]
    walk_at "rd"
    exact ⟨by show 1 ≤ sizeLine; decide, sz fun z => c2 z.2⟩
  ·rw [decide_eq_false c1]
   walk_at "rd"
   exact ⟨by show 1 ≤ sizeLine; decide, sz fun z => c1 z.1⟩
def sp_ClothInit (C : Addr) : Sp := fun vs H Q _ => ∃ (p dx c r : Addr) (s : Int) (cs rs : List Int), vs = [.ref p, .int s, .ref c, .ref r] ∧ H p = some (.ins C dx []) ∧ H c = some (.lst (cs.map V.int)) ∧ H r = some (.lst (rs.map V.int)) ∧
 (s = 0 ∨ s = 1) ∧ Bits cs ∧ Bits rs ∧ ∀ H', (∀ b o, H b = some o → b ≠ p → H' b = some o) → ClothAt C H' p s cs rs → Q .non H'
theorem ok_ClothInit (T : Txt K mg t) : FnOk P w K mg base CX0 6 t.f_ClothInit t.d_ClothInit ["self", "shade", "cols", "rows"] (sp_ClothInit t.a_Cloth) :=
 (okx_ClothInit T).down fun vs H Q E hh => by
  obtain ⟨p, dx, c, r, s, cs, rs, e, hp, hc, hr, hs, bc, br, k⟩ := hh
  exact ⟨p, dx, c, r, s, cs, rs, e, hp, hc, hr, by have := bc.1; omega, by have := br.1; omega, .inr (.inr ⟨⟨bc.1, br.1⟩, Bits.ok hs bc br, k⟩)⟩
end
section
variable {P : Program} {w : World} {K : PySem.W.Frag} {mg : Str → Option Value} {base : Heap} {t : Ad}
def sp_Clothwide (C : Addr) : Sp := fun vs H Q _ => ∃ (p : Addr) (s : Int) (cs rs : List Int), vs = [.ref p] ∧ ClothAt C H p s cs rs ∧ Q (.int ((cs.length : Int) + 1)) H
theorem ok_Clothwide (T : Txt K mg t) : FnOk P w K mg base CX0 1 t.f_Clothwide t.d_Clothwide ["self"] (sp_Clothwide t.a_Cloth) := by
 refine T.F_Clothwide.ok sc_Clothwide (fun vs H Q E h => ?_) (fun cdv A outer s H vs Q E hr h => ?_)
 ·obtain ⟨p, s, cs, rs, rfl, _⟩ := h; rfl
 ·obtain ⟨p, s, cs, rs, rfl, ⟨dx, a, b, h1, h2, h3⟩, k⟩ := h
  refine ⟨_, (pss_one (ps_ret (pe_fldK K rfl (pv 0) rfl))), ?_⟩
  walk_at "rd"
  refine rd_fldv h1 T.cl_Cloth T.na_columns_count (cfl_w _ _ _) ?_
  walk_at "rd"
  exact k
def sp_Clothtall (C : Addr) : Sp := fun vs H Q _ => ∃ (p : Addr) (s : Int) (cs rs : List Int), vs = [.ref p] ∧ ClothAt C H p s cs rs ∧ Q (.int ((rs.length : Int) + 1)) H
theorem ok_Clothtall (T : Txt K mg t) : FnOk P w K mg base CX0 1 t.f_Clothtall t.d_Clothtall ["self"] (sp_Clothtall t.a_Cloth) := by
 refine T.F_Clothtall.ok sc_Clothtall (fun vs H Q E h => ?_) (fun cdv A outer s H vs Q E hr h => ?_)
 ·obtain ⟨p, s, cs, rs, rfl, _⟩ := h; rfl
 ·obtain ⟨p, s, cs, rs, rfl, ⟨dx, a, b, h1, h2, h3⟩, k⟩ := h
  refine ⟨_, (pss_one (ps_ret (pe_fldK K rfl (pv 0) rfl))), ?_⟩
  walk_at "rd"
  refine rd_fldv h1 T.cl_Cloth T.na_rows_count (cfl_h _ _ _) ?_
  walk_at "rd"
  exact k
def IsWay (w : Str) (cs rs bs : List Int) : Prop := (w = "col" ∧ bs = cs) ∨ (w = "row" ∧ bs = rs)
theorem rc_ne : ¬ (("row" : Str) = "col") := by decide +kernel
def spx_Clothbitsalong (C NL : Addr) : Sp := fun vs H Q E => ∃ (p : Addr) (w : Str) (s : Int) (cs rs : List Int), vs = [.ref p, .str w] ∧ ClothAt C H p s cs rs ∧
 ((∃ bs, IsWay w cs rs bs ∧ ∀ a, H a = some (.tup (bs.map V.int)) → Q (.ref a) H) ∨ (¬ w = "col" ∧ ¬ w = "row" ∧ E (.ref NL) none H))
theorem okx_Clothbitsalong (T : Txt K mg t) : FnOk P w K mg base (CX1 P w) 1 t.f_Clothbitsalong t.d_Clothbitsalong ["self", "way"] (spx_Clothbitsalong t.a_Cloth t.a_NoLine) := by
 refine T.F_Clothbitsalong.ok1 sc_Clothbitsalong (fun vs H Q E h => ?_) (fun cdv A outer s H vs Q E hr h => ?_)
 ·obtain ⟨p, w, s, cs, rs, rfl, _⟩ := h; rfl
 ·obtain ⟨p, w, s, cs, rs, rfl, ⟨dx, a, b, h1, h2, h3⟩, hw⟩ := h
  refine cutC (ps_if (pt_cmpR op_eq (pv 1) pe_str (nomark _)) (pss_one (ps_ret (pe_fldK K rfl (pv 0) rfl))) pss_nil) fun _ _ => cutC (ps_if (pt_cmpR op_eq (pv 1) pe_str (nomark _)) (pss_one (ps_ret (pe_fldK K rfl (pv 0) rfl))) pss_nil) fun _ _ => cutE (ps_raiseK T.mg_NoLine T.x_NoLine PySem.F.excBase_ValueError rfl rfl (fun _ _ _ _ _ _ _ _ I m q => xe_new I m q) (pa_cons pe_str pa_nil)) fun _ _ => ?_
  walk_at "rd"
  rcases hw with ⟨bs, ⟨rfl, rfl⟩ | ⟨rfl, rfl⟩, k⟩ | ⟨n1, n2, k⟩
  ·rw [decide_eq_true (rfl : ("col" : Str) = "col")]
   walk_at "rd"
   refine rd_fldv h1 T.cl_Cloth T.na_col_bits (cfl_c _ _ _) ?_
   walk_at "rd"
   exact k a h2
  ·rw [decide_eq_false rc_ne]
   walk_at "rd"
   rw [decide_eq_true (rfl : ("row" : Str) = "row")]
   walk_at "rd"
   refine rd_fldv h1 T.cl_Cloth T.na_row_bits (cfl_r _ _ _) ?_
   walk_at "rd"
   exact k b h3
  ·rw [decide_eq_false n1]
   walk_at "rd"
   rw [decide_eq_false n2]
   walk_at "rd"
   exact ⟨by show 1 ≤ sizeLine; decide, k⟩
def NoLn (w : Str) (k : Int) (cs rs : List Int) : Prop := (¬ w = "col" ∧ ¬ w = "row") ∨ ∃ bs, IsWay w cs rs bs ∧ ¬ (0 ≤ k ∧ k < bs.length)
def spx_Clothbit (C NL : Addr) : Sp := fun vs H Q E => ∃ (p : Addr) (w : Str) (k s : Int) (cs rs : List Int), vs = [.ref p, .str w, .int k] ∧ ClothAt C H p s cs rs ∧
 ((∃ bs, IsWay w cs rs bs ∧ 0 ≤ k ∧ k < bs.length ∧ Q (.int (bs.getD k.toNat 0)) H) ∨ (NoLn w k cs rs ∧ E (.ref NL) none H))
theorem okx_Clothbit (T : Txt K mg t) : FnOk P w K mg base (CX1 P w) 3 t.f_Clothbit t.d_Clothbit ["self", "way", "k"] (spx_Clothbit t.a_Cloth t.a_NoLine) := by
 have G_isbelow := ok_isbelow (P := P) (w := w) (base := base) T
 have GX_Clothbitsalong := okx_Clothbitsalong (P := P) (w := w) (base := base) T
 refine T.F_Clothbit.ok1 sc_Clothbit (fun vs H Q E h => ?_) (fun cdv A outer s H vs Q E hr h => ?_)
 ·obtain ⟨p, w, k, s, cs, rs, rfl, _⟩ := h; rfl
 ·obtain ⟨p, w, k, s, cs, rs, rfl, hc, h⟩ := h
  obtain ⟨dx, a, b, e1, e2, e3⟩ := hc.ob
  refine cutC (ps_set (i := 3) sc_Clothbit.nd rfl (Or.inl rfl) (pe_meth (pv 0) T.cl_Cloth T.m_Clothbitsalong GX_Clothbitsalong (hr.mono (by first | decide | omega)) T.b_Clothbitsalong .nil pass1 (pa_cons (pv 1) pa_nil))) fun _ _ => cutC (ps_if (pt_not (pt_val (pe_call G_isbelow.up (hr.mono (by first | decide | omega)) rfl T.mg_isbelow T.F_isbelow.kp T.b_isbelow .nil pass1 (pa_cons (pv 2) (pa_cons (pe_callB (cI_lenK K rfl) rfl T.no_len (by rfl) (pa_cons (pv 3) pa_nil)) pa_nil))))) (pss_one (ps_raiseK T.mg_NoLine T.x_NoLine PySem.F.excBase_ValueError rfl rfl (fun _ _ _ _ _ _ _ _ I m q => xe_new I m q) (pa_cons pe_str pa_nil))) pss_nil) fun _ _ => cutE (ps_ret (pe_ix (ix_tupK K rfl) (pv 3) (pv 2) (fun _ _ => rfl))) fun _ _ => ?_
  walk_at "rd"
  refine rd_methv e1 (cfl_no _ _ _ (by decide +kernel)) ?_
  walk_at "rd"
  rcases h with ⟨bs, hw, h0, h1, q⟩ | ⟨⟨n1, n2⟩ | ⟨bs, hw, hn⟩, q⟩
  ·refine ⟨p, w, s, cs, rs, rfl, hc, .inl ⟨bs, hw, fun z hz => ?_⟩⟩
   walk_at "rd"
   refine rd_lenT hz ?_
   walk_at "rd"
   refine ⟨k, _, rfl, ?_⟩
   rw [List.length_map, decide_eq_true h0, decide_eq_true h1]
   walk_at "rd"
   refine rd_ixT (SqT.of hz) (atI_ints h0 h1) ?_
   exact q
  ·exact ⟨p, w, s, cs, rs, rfl, hc, .inr ⟨n1, n2, q⟩⟩
  ·refine ⟨p, w, s, cs, rs, rfl, hc, .inl ⟨bs, hw, fun z hz => ?_⟩⟩
   walk_at "rd"
   refine rd_lenT hz ?_
   walk_at "rd"
   refine ⟨k, _, rfl, ?_⟩
   rw [List.length_map]
   have e : (decide (0 ≤ k) && decide (k < (bs.length : Int))) = false := by
    rw [Bool.eq_false_iff]
    intro z
    rw [Bool.and_eq_true, decide_eq_true_eq, decide_eq_true_eq] at z
    exact hn z
   rw [e]
   walk_at "rd"
   exact ⟨by show 1 ≤ sizeLine; decide, q⟩
end
section
variable {P : Program} {w : World} {K : PySem.W.Frag} {mg : Str → Option Value} {base : Heap} {t : Ad}
end
section
variable {P : Program} {w : World} {K : PySem.W.Frag} {mg : Str → Option Value} {base : Heap} {t : Ad}
def inCl (x y : Int) (cs rs : List Int) : Prop := (0 ≤ x ∧ x < (cs.length : Int) + 1) ∧ 0 ≤ y ∧ y < (rs.length : Int) + 1
def spx_needcell (C NC : Addr) : Sp := fun vs H Q E => ∃ (p : Addr) (x y s : Int) (cs rs : List Int), vs = [.ref p, .int x, .int y] ∧ ClothAt C H p s cs rs ∧ ((inCl x y cs rs ∧ Q .non H) ∨ (¬ inCl x y cs rs ∧ E (.ref NC) none H))
theorem below_t {x b : Int} (h : 0 ≤ x ∧ x < b) : (decide (0 ≤ x) && decide (x < b)) = true := by rw [decide_eq_true h.1, decide_eq_true h.2]; rfl
theorem below_f {x b : Int} (h : ¬ (0 ≤ x ∧ x < b)) : (decide (0 ≤ x) && decide (x < b)) = false := by
 rw [Bool.eq_false_iff]
 intro z
 rw [Bool.and_eq_true, decide_eq_true_eq, decide_eq_true_eq] at z
 exact h z
theorem okx_needcell (T : Txt K mg t) : FnOk P w K mg base (CX1 P w) 3 t.f_needcell t.d_needcell ["board", "x", "y"] (spx_needcell t.a_Cloth t.a_NoCell) := by
 have G_isbelow := ok_isbelow (P := P) (w := w) (base := base) T
 have G_Clothwide := ok_Clothwide (P := P) (w := w) (base := base) T
 have G_Clothtall := ok_Clothtall (P := P) (w := w) (base := base) T
 refine T.F_needcell.ok1 sc_needcell (fun vs H Q E h => ?_) (fun cdv A outer s H vs Q E hr h => ?_)
 ·obtain ⟨p, x, y, s, cs, rs, rfl, _⟩ := h; rfl
 ·obtain ⟨p, x, y, s, cs, rs, rfl, hc, h⟩ := h
  obtain ⟨dx, a, b, e1, e2, e3⟩ := hc.ob
  have nl : ∀ {w h : Int} {m : Str}, NoF m → (cfl s a b w h).lookup m = none := fun x => cfl_no _ _ _ x
  refine ⟨_, (pss_one (ps_if (PW.pt (pw_or (pt_not (pt_val (pe_call G_isbelow.up (hr.mono (by first | decide | omega)) rfl T.mg_isbelow T.F_isbelow.kp T.b_isbelow .nil pass1 (pa_cons (pv 1) (pa_cons (pe_meth0 (pv 0) T.cl_Cloth T.m_Clothwide G_Clothwide.up (hr.mono (by first | decide | omega)) T.b_Clothwide .nil pass1) pa_nil))))) (pw_or1 (pt_not (pt_val (pe_call G_isbelow.up (hr.mono (by first | decide | omega)) rfl T.mg_isbelow T.F_isbelow.kp T.b_isbelow .nil pass1 (pa_cons (pv 2) (pa_cons (pe_meth0 (pv 0) T.cl_Cloth T.m_Clothtall G_Clothtall.up (hr.mono (by first | decide | omega)) T.b_Clothtall .nil pass1) pa_nil)))))))) (pss_one (ps_raiseK T.mg_NoCell T.x_NoCell PySem.F.excBase_ValueError rfl rfl (fun _ _ _ _ _ _ _ _ I m q => xe_new I m q) (pa_cons pe_str pa_nil))) pss_nil)), ?_⟩
  walk_at "rd"
  refine rd_methv e1 (nl (by decide +kernel)) ?_
  walk_at "rd"
  refine ⟨p, s, cs, rs, rfl, hc, ?_⟩
  walk_at "rd"
  refine ⟨x, _, rfl, ?_⟩
  by_cases hx : 0 ≤ x ∧ x < (cs.length : Int) + 1
  ·rw [below_t hx]
   walk_at "rd"
   refine rd_methv e1 (nl (by decide +kernel)) ?_
   walk_at "rd"
   refine ⟨p, s, cs, rs, rfl, hc, ?_⟩
   walk_at "rd"
   refine ⟨y, _, rfl, ?_⟩
   by_cases hy : 0 ≤ y ∧ y < (rs.length : Int) + 1
   ·rw [below_t hy]
    walk_at "rd"
    rcases h with ⟨_, q⟩ | ⟨n, _⟩
    ·exact q
    ·exact absurd ⟨hx, hy⟩ n
   ·rw [below_f hy]
    walk_at "rd"
    rcases h with ⟨n, _⟩ | ⟨_, q⟩
    ·exact absurd n.2 hy
    ·exact ⟨by show 1 ≤ sizeLine; decide, q⟩
  ·rw [below_f hx]
   walk_at "rd"
   rcases h with ⟨n, _⟩ | ⟨_, q⟩
   ·exact absurd n.1 hx
   ·exact ⟨by show 1 ≤ sizeLine; decide, q⟩
end
section
variable {P : Program} {w : World} {K : PySem.W.Frag} {mg : Str → Option Value} {base : Heap} {t : Ad}
def NoSt (w : Str) (k st : Int) (cs rs : List Int) : Prop := ∃ bs os, IsWay w cs rs bs ∧ IsWay w rs cs os ∧ 0 ≤ k ∧ k < bs.length ∧ ¬ (0 ≤ st ∧ st < (os.length : Int) + 1)
def spx_Clothstitched (C NL NS : Addr) : Sp := fun vs H Q E => ∃ (p : Addr) (w : Str) (k st s : Int) (cs rs : List Int), vs = [.ref p, .str w, .int k, .int st] ∧ ClothAt C H p s cs rs ∧
 ((∃ bs os, IsWay w cs rs bs ∧ IsWay w rs cs os ∧ 0 ≤ k ∧ k < bs.length ∧ 0 ≤ st ∧ st < os.length + 1 ∧ Q (.bl (decide ((st + bs.getD k.toNat 0) % 2 = 1))) H) ∨ (NoLn w k cs rs ∧ E (.ref NL) none H) ∨ (NoSt w k st cs rs ∧ E (.ref NS) none H))
theorem okx_Clothstitched (T : Txt K mg t) : FnOk P w K mg base (CX1 P w) 4 t.f_Clothstitched t.d_Clothstitched ["self", "way", "k", "step"] (spx_Clothstitched t.a_Cloth t.a_NoLine t.a_NoStep) := by
 have G_isbelow := ok_isbelow (P := P) (w := w) (base := base) T
 have GX_Clothbit := okx_Clothbit (P := P) (w := w) (base := base) T
 have G_Clothwide := ok_Clothwide (P := P) (w := w) (base := base) T
 have G_Clothtall := ok_Clothtall (P := P) (w := w) (base := base) T
 refine T.F_Clothstitched.ok1 sc_Clothstitched (fun vs H Q E h => ?_) (fun cdv A outer s H vs Q E hr h => ?_)
 ·obtain ⟨p, w, k, st, s, cs, rs, rfl, _⟩ := h; rfl
 ·obtain ⟨p, w, k, st, s, cs, rs, rfl, hc, h⟩ := h
  obtain ⟨dx, a, b, e1, e2, e3⟩ := hc.ob
  have nl : ∀ {w h : Int} {m : Str}, NoF m → (cfl s a b w h).lookup m = none := fun x => cfl_no _ _ _ x
  refine cutC (ps_set (i := 4) sc_Clothstitched.nd rfl (Or.inl rfl) (pe_meth (pv 0) T.cl_Cloth T.m_Clothbit GX_Clothbit (hr.mono (by first | decide | omega)) T.b_Clothbit .nil pass1 (pa_cons (pv 1) (pa_cons (pv 2) pa_nil)))) fun _ _ => cutC (ps_set (i := 5) sc_Clothstitched.nd rfl (Or.inl rfl) (pe_ifExp (pt_cmpR op_eq (pv 1) pe_str (nomark _)) (pe_meth0 (pv 0) T.cl_Cloth T.m_Clothtall G_Clothtall.up (hr.mono (by first | decide | omega)) T.b_Clothtall .nil pass1) (pe_meth0 (pv 0) T.cl_Cloth T.m_Clothwide G_Clothwide.up (hr.mono (by first | decide | omega)) T.b_Clothwide .nil pass1))) fun _ _ => cutC (ps_if (pt_not (pt_val (pe_call G_isbelow.up (hr.mono (by first | decide | omega)) rfl T.mg_isbelow T.F_isbelow.kp T.b_isbelow .nil pass1 (pa_cons (pv 3) (pa_cons (pv 5) pa_nil))))) (pss_one (ps_raiseK T.mg_NoStep T.x_NoStep PySem.F.excBase_ValueError rfl rfl (fun _ _ _ _ _ _ _ _ I m q => xe_new I m q) (pa_cons pe_str pa_nil))) pss_nil) fun _ _ => cutE (ps_ret (pe_cmpR op_eq (pe_op op_mod (pe_op op_add (pv 3) (pv 4)) pe_int) pe_int (nomark _))) fun _ _ => ?_
  walk_at "rd"
  refine rd_methv e1 (nl (by decide +kernel)) ?_
  walk_at "rd"
  rcases h with ⟨bs, os, hw, ho, h0, h1, g0, g1, q⟩ | ⟨n, q⟩ | ⟨⟨bs, os, hw, ho, h0, h1, hn⟩, q⟩
  ·refine ⟨p, w, k, s, cs, rs, rfl, hc, .inl ⟨bs, hw, h0, h1, ?_⟩⟩
   walk_at "rd"
   rcases ho with ⟨rfl, rfl⟩ | ⟨rfl, rfl⟩
   ·rw [decide_eq_true (rfl : ("col" : Str) = "col")]
    walk_at "rd"
    refine rd_methv e1 (nl (by decide +kernel)) ?_
    walk_at "rd"
    refine ⟨p, s, cs, _, rfl, hc, ?_⟩
    walk_at "rd"
    refine ⟨st, _, rfl, ?_⟩
    rw [decide_eq_true g0, decide_eq_true g1]
    walk_at "rd"
    refine rd_I (by decide) ?_
    walk_at "rd"
    exact q
   ·rw [decide_eq_false rc_ne]
    walk_at "rd"
    refine rd_methv e1 (nl (by decide +kernel)) ?_
    walk_at "rd"
    refine ⟨p, s, _, rs, rfl, hc, ?_⟩
    walk_at "rd"
    refine ⟨st, _, rfl, ?_⟩
    rw [decide_eq_true g0, decide_eq_true g1]
    walk_at "rd"
    refine rd_I (by decide) ?_
    walk_at "rd"
    exact q
  ·exact ⟨p, w, k, s, cs, rs, rfl, hc, .inr ⟨n, q⟩⟩
  ·refine ⟨p, w, k, s, cs, rs, rfl, hc, .inl ⟨bs, hw, h0, h1, ?_⟩⟩
   walk_at "rd"
   rcases ho with ⟨rfl, rfl⟩ | ⟨rfl, rfl⟩
   ·rw [decide_eq_true (rfl : ("col" : Str) = "col")]
    walk_at "rd"
    refine rd_methv e1 (nl (by decide +kernel)) ?_
    walk_at "rd"
    refine ⟨p, s, cs, _, rfl, hc, ?_⟩
    walk_at "rd"
    refine ⟨st, _, rfl, ?_⟩
    rw [below_f hn]
    walk_at "rd"
    exact ⟨by show 1 ≤ sizeLine; decide, q⟩
   ·rw [decide_eq_false rc_ne]
    walk_at "rd"
    refine rd_methv e1 (nl (by decide +kernel)) ?_
    walk_at "rd"
    refine ⟨p, s, _, rs, rfl, hc, ?_⟩
    walk_at "rd"
    refine ⟨st, _, rfl, ?_⟩
    rw [below_f hn]
    walk_at "rd"
    exact ⟨by show 1 ≤ sizeLine; decide, q⟩
def sp_Clothstitched (C : Addr) : Sp := fun vs H Q _ => ∃ (p : Addr) (w : Str) (k st s : Int) (cs rs bs os : List Int), vs = [.ref p, .str w, .int k, .int st] ∧ ClothAt C H p s cs rs ∧ IsWay w cs rs bs ∧ IsWay w rs cs os ∧ 0 ≤ k ∧ k < bs.length ∧ 0 ≤ st ∧ st < os.length + 1 ∧
 Q (.bl (decide ((st + bs.getD k.toNat 0) % 2 = 1))) H
theorem ok_Clothstitched (T : Txt K mg t) : FnOk P w K mg base CX0 4 t.f_Clothstitched t.d_Clothstitched ["self", "way", "k", "step"] (sp_Clothstitched t.a_Cloth) :=
 (okx_Clothstitched T).down fun vs H Q E hh => by
  obtain ⟨p, w, k, st, s, cs, rs, bs, os, e, hc, hw, ho, h0, h1, g0, g1, q⟩ := hh
  exact ⟨p, w, k, st, s, cs, rs, e, hc, .inl ⟨bs, os, hw, ho, h0, h1, g0, g1, q⟩⟩
end
section
theorem small1000' {n : Nat} (h : n < 2000) : n < sizeLine := Nat.lt_of_lt_of_le h (by decide)
def Pt (H : Hp) (v : V) (q : Int × Int) : Prop := ∃ a, v = .ref a ∧ H a = some (.tup [.int q.1, .int q.2])
theorem Pt.mono {H H' : Hp} {v : V} {q : Int × Int} (s : Same H H') (h : Pt H v q) : Pt H' v q := by
 obtain ⟨a, rfl, ha⟩ := h
 exact ⟨a, rfl, s _ _ ha⟩
theorem Pt.upd {H : Hp} {v : V} {q : Int × Int} {l : Addr} {u o : HO} (h : Pt H v q) (e : H l = some u) (ne : ∀ ys, HO.tup ys ≠ u) : Pt (upd H l o) v q := by
 obtain ⟨a, rfl, ha⟩ := h
 exact ⟨a, rfl, by rw [upd_ne (ne_of ha e (ne _))]; exact ha⟩
def PwPt (H : Hp) (xs : List V) (ps : List (Int × Int)) : Prop := xs.length = ps.length ∧ ∀ (i : Nat) v q, xs[i]? = some v → ps[i]? = some q → Pt H v q
theorem PwPt.mono {H H' : Hp} {xs : List V} {ps : List (Int × Int)} (s : Same H H') (h : PwPt H xs ps) : PwPt H' xs ps := ⟨h.1, fun i v q h1 h2 => (h.2 i v q h1 h2).mono s⟩
theorem PwPt.upd {H : Hp} {xs : List V} {ps : List (Int × Int)} {l : Addr} {u o : HO} (h : PwPt H xs ps) (e : H l = some u) (ne : ∀ ys, HO.tup ys ≠ u) : PwPt (upd H l o) xs ps := ⟨h.1, fun i v q h1 h2 => (h.2 i v q h1 h2).upd e ne⟩
theorem PwPt.nil {H : Hp} : PwPt H [] [] := ⟨rfl, fun i v q h => by simp at h⟩
theorem PwPt.cons {H : Hp} {v : V} {q : Int × Int} {xs : List V} {ps : List (Int × Int)} (h1 : Pt H v q) (h : PwPt H xs ps) : PwPt H (v :: xs) (q :: ps) := by
 refine ⟨by rw [List.length_cons, List.length_cons, h.1], fun i v' q' e1 e2 => ?_⟩
 cases i with
 | zero => simp only [List.getElem?_cons_zero, Option.some.injEq] at e1 e2; rw [← e1, ← e2]; exact h1
 | succ i => simp only [List.getElem?_cons_succ] at e1 e2; exact h.2 i v' q' e1 e2
theorem PwPt.inv {H : Hp} {xs : List V} {p : Int × Int} {ps : List (Int × Int)} (h : PwPt H xs (p :: ps)) : ∃ v r, xs = v :: r ∧ Pt H v p ∧ PwPt H r ps := by
 match xs, h with
 | [], h => have := h.1; simp at this
 | v :: r, h => exact ⟨v, r, rfl, h.2 0 v p rfl rfl, by have := h.1; simp only [List.length_cons] at this; omega, fun i v' q' e1 e2 => h.2 (i + 1) v' q' (by simpa using e1) (by simpa using e2)⟩
theorem PwPt.snoc {H : Hp} {xs : List V} {ps : List (Int × Int)} {v : V} {q : Int × Int} (h : PwPt H xs ps) (hv : Pt H v q) : PwPt H (xs ++ [v]) (ps ++ [q]) := by
 refine ⟨by rw [List.length_append, List.length_append, h.1]; rfl, fun i v' q' h1 h2 => ?_⟩
 by_cases hi : i < xs.length
 ·rw [List.getElem?_append_left hi] at h1
  rw [List.getElem?_append_left (by rw [← h.1]; exact hi)] at h2
  exact h.2 i v' q' h1 h2
 ·rw [List.getElem?_append_right (by omega)] at h1
  rw [List.getElem?_append_right (by rw [← h.1]; omega), ← h.1] at h2
  cases hk : i - xs.length with
  | zero =>
   rw [hk] at h1 h2
   simp only [List.getElem?_cons_zero, Option.some.injEq] at h1 h2
   rw [← h1, ← h2]; exact hv
  | succ k => rw [hk] at h1; simp at h1
end
def ky (q : Int × Int) : List Key := [Sum.inl q.1, Sum.inl q.2]
theorem ky_inj {p q : Int × Int} (h : ky p = ky q) : p = q := by
 unfold ky at h
 simp only [List.cons.injEq, Sum.inl.injEq, and_true] at h
 exact Prod.ext h.1 h.2
def KeysAre (kvs : List (List Key × V)) (ps : List (Int × Int)) : Prop := kvs.map (·.1) = ps.map ky
theorem KeysAre.len {kvs : List (List Key × V)} {ps : List (Int × Int)} (h : KeysAre kvs ps) : kvs.length = ps.length := by
 have := congrArg List.length h
 rwa [List.length_map, List.length_map] at this
theorem KeysAre.val {kvs : List (List Key × V)} {ps : List (Int × Int)} (h : KeysAre kvs ps) (q : Int × Int) : (valV kvs (ky q)).isSome = decide (q ∈ ps) := by
 rw [← valV_any]
 have e : (kvs.any fun kv => decide (kv.1 = ky q)) = (kvs.map (·.1)).any fun k => decide (k = ky q) := by rw [List.any_map]; rfl
 rw [e, show kvs.map (·.1) = ps.map ky from h, Bool.eq_iff_iff, List.any_eq_true, decide_eq_true_eq]
 constructor
 ·rintro ⟨k, hk, z⟩
  obtain ⟨p, hp, rfl⟩ := List.mem_map.mp hk
  exact ky_inj (of_decide_eq_true z) ▸ hp
 ·intro hq
  exact ⟨ky q, List.mem_map.mpr ⟨q, hq, rfl⟩, decide_eq_true rfl⟩
theorem KeysAre.put {kvs : List (List Key × V)} {ps : List (Int × Int)} {q : Int × Int} {v : V} (h : KeysAre kvs ps) (hq : q ∉ ps) : KeysAre (putK kvs (ky q) v) (ps ++ [q]) := by
 have hn : valV kvs (ky q) = none := by
  have := h.val q
  rw [decide_eq_false hq] at this
  cases e : valV kvs (ky q) with
  | none => rfl
  | some z => rw [e] at this; cases this
 rw [putK_new v hn]
 unfold KeysAre
 rw [List.map_append, List.map_append, show kvs.map (·.1) = ps.map ky from h]
 rfl
section
variable {P : Program} {w : World} {K : PySem.W.Frag} {mg : Str → Option Value} {base : Heap} {t : Ad}
def bL (cs : List Int) (x y : Int) : Bool := decide (0 < x) && !decide ((y + cs.getD (x - 1).toNat 0) % 2 = 1)
def bD (rs : List Int) (x y : Int) : Bool := decide (0 < y) && !decide ((x + rs.getD (y - 1).toNat 0) % 2 = 1)
def bU (rs : List Int) (x y : Int) : Bool := decide (y + 1 < (rs.length : Int) + 1) && !decide ((x + rs.getD (y).toNat 0) % 2 = 1)
def bR (cs : List Int) (x y : Int) : Bool := decide (x + 1 < (cs.length : Int) + 1) && !decide ((y + cs.getD (x).toNat 0) % 2 = 1)
def bs (cs rs : List Int) (q : Int × Int) : List (Int × Int) := [] ++ (if bL cs q.1 q.2 = true then [(q.1 - 1, q.2)] else []) ++ (if bD rs q.1 q.2 = true then [(q.1, q.2 - 1)] else []) ++ (if bU rs q.1 q.2 = true then [(q.1, q.2 + 1)] else []) ++ (if bR cs q.1 q.2 = true then [(q.1 + 1, q.2)] else [])
def inC (cs rs : List Int) (q : Int × Int) : Prop := (0 ≤ q.1 ∧ q.1 < (cs.length : Int) + 1) ∧ 0 ≤ q.2 ∧ q.2 < (rs.length : Int) + 1
theorem mem_bs {cs rs : List Int} {q c : Int × Int} : c ∈ bs cs rs q ↔ (bL cs q.1 q.2 = true ∧ c = (q.1 - 1, q.2)) ∨ (bD rs q.1 q.2 = true ∧ c = (q.1, q.2 - 1)) ∨ (bU rs q.1 q.2 = true ∧ c = (q.1, q.2 + 1)) ∨ (bR cs q.1 q.2 = true ∧ c = (q.1 + 1, q.2)) := by
 unfold bs
 rw [List.nil_append, List.mem_append, List.mem_append, List.mem_append]
 have key : ∀ (b : Bool) (u : Int × Int), c ∈ (if b = true then [u] else []) ↔ b = true ∧ c = u := fun b u => by cases b <;> simp
 rw [key, key, key, key, or_assoc, or_assoc]
theorem bL_iff {cs : List Int} {x y : Int} : bL cs x y = true ↔ 0 < x ∧ ¬ (y + cs.getD (x - 1).toNat 0) % 2 = 1 := by unfold bL; rw [Bool.and_eq_true, decide_eq_true_eq, Bool.not_eq_true', decide_eq_false_iff_not]
theorem bD_iff {rs : List Int} {x y : Int} : bD rs x y = true ↔ 0 < y ∧ ¬ (x + rs.getD (y - 1).toNat 0) % 2 = 1 := by unfold bD; rw [Bool.and_eq_true, decide_eq_true_eq, Bool.not_eq_true', decide_eq_false_iff_not]
theorem bU_iff {rs : List Int} {x y : Int} : bU rs x y = true ↔ y + 1 < (rs.length : Int) + 1 ∧ ¬ (x + rs.getD y.toNat 0) % 2 = 1 := by unfold bU; rw [Bool.and_eq_true, decide_eq_true_eq, Bool.not_eq_true', decide_eq_false_iff_not]
theorem bR_iff {cs : List Int} {x y : Int} : bR cs x y = true ↔ x + 1 < (cs.length : Int) + 1 ∧ ¬ (y + cs.getD x.toNat 0) % 2 = 1 := by unfold bR; rw [Bool.and_eq_true, decide_eq_true_eq, Bool.not_eq_true', decide_eq_false_iff_not]
theorem bs_in {cs rs : List Int} {q c : Int × Int} (h : inC cs rs q) (hc : c ∈ bs cs rs q) : inC cs rs c := by
 unfold inC at *
 rcases mem_bs.mp hc with ⟨z, rfl⟩ | ⟨z, rfl⟩ | ⟨z, rfl⟩ | ⟨z, rfl⟩ <;> dsimp only
 ·have := (bL_iff.mp z).1; omega
 ·have := (bD_iff.mp z).1; omega
 ·have := (bU_iff.mp z).1; omega
 ·have := (bR_iff.mp z).1; omega
def sp_beside (C : Addr) : Sp := fun vs H Q _ => ∃ (p a : Addr) (q : Int × Int) (s : Int) (cs rs : List Int), vs = [.ref p, .ref a] ∧ ClothAt C H p s cs rs ∧ H a = some (.tup [.int q.1, .int q.2]) ∧ inC cs rs q ∧
 ∀ l xs H', Same H H' → H l = none → H' l = some (.lst xs) → PwPt H' xs (bs cs rs q) → Q (.ref l) H'
theorem ok_beside (T : Txt K mg t) : FnOk P w K mg base CX0 5 t.f_beside t.d_beside ["cloth", "cell"] (sp_beside t.a_Cloth) := by
 have G_Clothwide := ok_Clothwide (P := P) (w := w) (base := base) T
 have G_Clothtall := ok_Clothtall (P := P) (w := w) (base := base) T
 have G_Clothstitched := ok_Clothstitched (P := P) (w := w) (base := base) T
 refine T.F_beside.ok sc_beside (fun vs H Q E h => ?_) (fun cdv A outer s H vs Q E hr h => ?_)
 ·obtain ⟨p, a, q, s, cs, rs, rfl, _⟩ := h; rfl
 ·obtain ⟨p, a, ⟨x, y⟩, s, cs, rs, rfl, hc, ha, hin, k⟩ := h
  obtain ⟨⟨x0, x1⟩, y0, y1⟩ := id hin
  dsimp only at ha x0 x1 y0 y1
  obtain ⟨dx, a1, b1, e1, e2, e3⟩ := hc.ob
  have nl : ∀ {w h : Int} {m : Str}, NoF m → (cfl s a1 b1 w h).lookup m = none := fun x => cfl_no _ _ _ x
  refine cutC (ps_set (i := 2) sc_beside.nd rfl (Or.inl rfl) (pe_ix (ix_tupK K rfl) (pv 1) pe_int (fun _ _ => rfl))) fun _ _ => cutC (ps_set (i := 3) sc_beside.nd rfl (Or.inl rfl) (pe_ix (ix_tupK K rfl) (pv 1) pe_int (fun _ _ => rfl))) fun _ _ => cutC (ps_set (i := 4) sc_beside.nd rfl (Or.inl rfl) (pe_lst pa_nil)) fun _ _ => cutC (ps_join (ps_if (PW.pt (pw_and (pt_cmpR op_gt (pv 2) pe_int (nomark _)) (pw_and1 (pt_not (pt_val (pe_meth (pv 0) T.cl_Cloth T.m_Clothstitched G_Clothstitched (hr.mono (by first | decide | omega)) T.b_Clothstitched .nil pass0 (pa_cons pe_str (pa_cons (pe_op op_sub (pv 2) pe_int) (pa_cons (pv 3) pa_nil))))))))) (pss_one (ps_expr (pe_bm PySem.F.plainAttrs_list PySem.F.slot_list_append PySem.F.type_list_append mt_append (pv 4) (pa_cons (pe_tup (pa_cons (pe_op op_sub (pv 2) pe_int) (pa_cons (pv 3) pa_nil))) pa_nil)))) pss_nil)) fun _ _ => cutC (ps_join (ps_if (PW.pt (pw_and (pt_cmpR op_gt (pv 3) pe_int (nomark _)) (pw_and1 (pt_not (pt_val (pe_meth (pv 0) T.cl_Cloth T.m_Clothstitched G_Clothstitched (hr.mono (by first | decide | omega)) T.b_Clothstitched .nil pass0 (pa_cons pe_str (pa_cons (pe_op op_sub (pv 3) pe_int) (pa_cons (pv 2) pa_nil))))))))) (pss_one (ps_expr (pe_bm PySem.F.plainAttrs_list PySem.F.slot_list_append PySem.F.type_list_append mt_append (pv 4) (pa_cons (pe_tup (pa_cons (pv 2) (pa_cons (pe_op op_sub (pv 3) pe_int) pa_nil))) pa_nil)))) pss_nil)) fun _ _ => cutC (ps_join (ps_if (PW.pt (pw_and (pt_cmpR op_lt (pe_op op_add (pv 3) pe_int) (pe_meth0 (pv 0) T.cl_Cloth T.m_Clothtall G_Clothtall (hr.mono (by first | decide | omega)) T.b_Clothtall .nil pass0) (nomark _)) (pw_and1 (pt_not (pt_val (pe_meth (pv 0) T.cl_Cloth T.m_Clothstitched G_Clothstitched (hr.mono (by first | decide | omega)) T.b_Clothstitched .nil pass0 (pa_cons pe_str (pa_cons (pv 3) (pa_cons (pv 2) pa_nil))))))))) (pss_one (ps_expr (pe_bm PySem.F.plainAttrs_list PySem.F.slot_list_append PySem.F.type_list_append mt_append (pv 4) (pa_cons (pe_tup (pa_cons (pv 2) (pa_cons (pe_op op_add (pv 3) pe_int) pa_nil))) pa_nil)))) pss_nil)) fun _ _ => cutC (ps_join (ps_if (PW.pt (pw_and (pt_cmpR op_lt (pe_op op_add (pv 2) pe_int) (pe_meth0 (pv 0) T.cl_Cloth T.m_Clothwide G_Clothwide (hr.mono (by first | decide | omega)) T.b_Clothwide .nil pass0) (nomark _)) (pw_and1 (pt_not (pt_val (pe_meth (pv 0) T.cl_Cloth T.m_Clothstitched G_Clothstitched (hr.mono (by first | decide | omega)) T.b_Clothstitched .nil pass0 (pa_cons pe_str (pa_cons (pv 2) (pa_cons (pv 3) pa_nil))))))))) (pss_one (ps_expr (pe_bm PySem.F.plainAttrs_list PySem.F.slot_list_append PySem.F.type_list_append mt_append (pv 4) (pa_cons (pe_tup (pa_cons (pe_op op_add (pv 2) pe_int) (pa_cons (pv 3) pa_nil))) pa_nil)))) pss_nil)) fun _ _ => cutE (ps_ret (pv 4)) fun _ _ => ?_
  walk_at "rd"
  refine rd_ixT (SqT.of ha) (v := .int x) rfl ?_
  walk_at "rd"
  refine rd_ixT (SqT.of ha) (v := .int y) rfl ?_
  walk_at "rd"
  refine ⟨Nat.zero_le _, fun l n1 => ?_⟩
  have s1 := Same.new (o := HO.lst []) n1
  have f1 := upd_same (H := H) (a := l) (o := HO.lst [])
  generalize upd H l (HO.lst []) = H1 at s1 f1 ⊢
  obtain ⟨xs, f1, w1, lx⟩ : ∃ xs, H1 l = some (.lst xs) ∧ PwPt H1 xs [] ∧ xs.length ≤ 0 := ⟨[], f1, PwPt.nil, Nat.le_refl 0⟩
  walk_at "rd"
  refine rd_join (fun σ' H' => ∃ xs, σ' = [some (.ref p), some (.ref a), some (.int x), some (.int y), some (.ref l)] ∧ Same H H' ∧ H' l = some (.lst xs) ∧ xs.length ≤ 1 ∧ PwPt H' xs ([] ++ (if bL cs x y = true then [(x - 1, y)] else []))) ?_ ?_
  ·have hg : bL cs x y = (decide (0 < x) && !decide ((y + cs.getD (x - 1).toNat 0) % 2 = 1)) := rfl
   walk_at "rd"
   by_cases c1 : 0 < x
   ·rw [decide_eq_true c1] at hg ⊢
    walk_at "rd"
    refine rd_methv (s1 _ _ e1) (nl (by decide +kernel)) ?_
    walk_at "rd"
    refine ⟨p, "col", x - 1, y, s, cs, rs, cs, rs, rfl, hc.mono s1, .inl ⟨rfl, rfl⟩, .inl ⟨rfl, rfl⟩, by omega, by omega, by omega, by omega, ?_⟩
    rw [Bool.true_and] at hg
    by_cases c2 : (y + cs.getD (x - 1).toNat 0) % 2 = 1
    ·rw [decide_eq_true c2] at hg ⊢
     walk_at "rd"
     exact ⟨_, rfl, s1, f1, by omega, by rw [if_neg (show ¬ bL cs x y = true by rw [hg]; decide), List.append_nil]; exact w1⟩
    ·rw [decide_eq_false c2] at hg ⊢
     walk_at "rd"
     refine rd_bmL f1 ?_
     walk_at "rd"
     refine ⟨by show 2 ≤ sizeLine; decide, fun b nb => ?_⟩
     have sb := Same.new (o := HO.tup [V.int (x - 1), V.int (y)]) nb
     have eb := upd_same (H := H1) (a := b) (o := HO.tup [V.int (x - 1), V.int (y)])
     generalize upd H1 b (HO.tup [V.int (x - 1), V.int (y)]) = H2 at sb eb ⊢
     walk_at "rd"
     refine rd_append (sb _ _ f1) (small1000' (by omega)) ?_
     refine ⟨_, rfl, (s1.trans sb).later n1, upd_same, by rw [List.length_append, List.length_singleton]; omega, ?_⟩
     rw [if_pos (show bL cs x y = true by rw [hg]; rfl)]
     exact ((w1.mono sb).upd (sb _ _ f1) (by intro ys z; cases z)).snoc (Pt.upd (q := (x - 1, y)) ⟨b, rfl, eb⟩ (sb _ _ f1) (by intro ys z; cases z))
   ·rw [decide_eq_false c1] at hg ⊢
    walk_at "rd"
    exact ⟨_, rfl, s1, f1, by omega, by rw [if_neg (show ¬ bL cs x y = true by rw [hg, Bool.false_and]; decide), List.append_nil]; exact w1⟩
  ·clear s1 f1 w1 lx
   rintro σ' H1 ⟨xs, rfl, s1, f1, lx, w1⟩
   walk_at "rd"
   refine rd_join (fun σ' H' => ∃ xs, σ' = [some (.ref p), some (.ref a), some (.int x), some (.int y), some (.ref l)] ∧ Same H H' ∧ H' l = some (.lst xs) ∧ xs.length ≤ 2 ∧ PwPt H' xs ([] ++ (if bL cs x y = true then [(x - 1, y)] else []) ++ (if bD rs x y = true then [(x, y - 1)] else []))) ?_ ?_
   ·have hg : bD rs x y = (decide (0 < y) && !decide ((x + rs.getD (y - 1).toNat 0) % 2 = 1)) := rfl
    walk_at "rd"
    by_cases c1 : 0 < y
    ·rw [decide_eq_true c1] at hg ⊢
     walk_at "rd"
     refine rd_methv (s1 _ _ e1) (nl (by decide +kernel)) ?_
     walk_at "rd"
     refine ⟨p, "row", y - 1, x, s, cs, rs, rs, cs, rfl, hc.mono s1, .inr ⟨rfl, rfl⟩, .inr ⟨rfl, rfl⟩, by omega, by omega, by omega, by omega, ?_⟩
     rw [Bool.true_and] at hg
     by_cases c2 : (x + rs.getD (y - 1).toNat 0) % 2 = 1
     ·rw [decide_eq_true c2] at hg ⊢
      walk_at "rd"
      exact ⟨_, rfl, s1, f1, by omega, by rw [if_neg (show ¬ bD rs x y = true by rw [hg]; decide), List.append_nil]; exact w1⟩
     ·rw [decide_eq_false c2] at hg ⊢
      walk_at "rd"
      refine rd_bmL f1 ?_
      walk_at "rd"
      refine ⟨by show 2 ≤ sizeLine; decide, fun b nb => ?_⟩
      have sb := Same.new (o := HO.tup [V.int (x), V.int (y - 1)]) nb
      have eb := upd_same (H := H1) (a := b) (o := HO.tup [V.int (x), V.int (y - 1)])
      generalize upd H1 b (HO.tup [V.int (x), V.int (y - 1)]) = H2 at sb eb ⊢
      walk_at "rd"
      refine rd_append (sb _ _ f1) (small1000' (by omega)) ?_
      refine ⟨_, rfl, (s1.trans sb).later n1, upd_same, by rw [List.length_append, List.length_singleton]; omega, ?_⟩
      rw [if_pos (show bD rs x y = true by rw [hg]; rfl)]
      exact ((w1.mono sb).upd (sb _ _ f1) (by intro ys z; cases z)).snoc (Pt.upd (q := (x, y - 1)) ⟨b, rfl, eb⟩ (sb _ _ f1) (by intro ys z; cases z))
    ·rw [decide_eq_false c1] at hg ⊢
     walk_at "rd"
     exact ⟨_, rfl, s1, f1, by omega, by rw [if_neg (show ¬ bD rs x y = true by rw [hg, Bool.false_and]; decide), List.append_nil]; exact w1⟩
   ·clear s1 f1 w1 lx
    rintro σ' H1 ⟨xs, rfl, s1, f1, lx, w1⟩
    walk_at "rd"
    refine rd_join (fun σ' H' => ∃ xs, σ' = [some (.ref p), some (.ref a), some (.int x), some (.int y), some (.ref l)] ∧ Same H H' ∧ H' l = some (.lst xs) ∧ xs.length ≤ 3 ∧ PwPt H' xs ([] ++ (if bL cs x y = true then [(x - 1, y)] else []) ++ (if bD rs x y = true then [(x, y - 1)] else []) ++ (if bU rs x y = true then [(x, y + 1)] else []))) ?_ ?_
    ·have hg : bU rs x y = (decide (y + 1 < (rs.length : Int) + 1) && !decide ((x + rs.getD (y).toNat 0) % 2 = 1)) := rfl
     walk_at "rd"
     refine rd_methv (s1 _ _ e1) (nl (by decide +kernel)) ?_
     walk_at "rd"
     refine ⟨p, s, cs, rs, rfl, hc.mono s1, ?_⟩
     walk_at "rd"
     by_cases c1 : y + 1 < (rs.length : Int) + 1
     ·rw [decide_eq_true c1] at hg ⊢
      walk_at "rd"
      refine rd_methv (s1 _ _ e1) (nl (by decide +kernel)) ?_
      walk_at "rd"
      refine ⟨p, "row", y, x, s, cs, rs, rs, cs, rfl, hc.mono s1, .inr ⟨rfl, rfl⟩, .inr ⟨rfl, rfl⟩, by omega, by omega, by omega, by omega, ?_⟩
      rw [Bool.true_and] at hg
      by_cases c2 : (x + rs.getD (y).toNat 0) % 2 = 1
      ·rw [decide_eq_true c2] at hg ⊢
       walk_at "rd"
       exact ⟨_, rfl, s1, f1, by omega, by rw [if_neg (show ¬ bU rs x y = true by rw [hg]; decide), List.append_nil]; exact w1⟩
      ·rw [decide_eq_false c2] at hg ⊢
       walk_at "rd"
       refine rd_bmL f1 ?_
       walk_at "rd"
       refine ⟨by show 2 ≤ sizeLine; decide, fun b nb => ?_⟩
       have sb := Same.new (o := HO.tup [V.int (x), V.int (y + 1)]) nb
       have eb := upd_same (H := H1) (a := b) (o := HO.tup [V.int (x), V.int (y + 1)])
       generalize upd H1 b (HO.tup [V.int (x), V.int (y + 1)]) = H2 at sb eb ⊢
       walk_at "rd"
       refine rd_append (sb _ _ f1) (small1000' (by omega)) ?_
       refine ⟨_, rfl, (s1.trans sb).later n1, upd_same, by rw [List.length_append, List.length_singleton]; omega, ?_⟩
       rw [if_pos (show bU rs x y = true by rw [hg]; rfl)]
       exact ((w1.mono sb).upd (sb _ _ f1) (by intro ys z; cases z)).snoc (Pt.upd (q := (x, y + 1)) ⟨b, rfl, eb⟩ (sb _ _ f1) (by intro ys z; cases z))
     ·rw [decide_eq_false c1] at hg ⊢
      walk_at "rd"
      exact ⟨_, rfl, s1, f1, by omega, by rw [if_neg (show ¬ bU rs x y = true by rw [hg, Bool.false_and]; decide), List.append_nil]; exact w1⟩
    ·clear s1 f1 w1 lx
     rintro σ' H1 ⟨xs, rfl, s1, f1, lx, w1⟩
     walk_at "rd"
     refine rd_join (fun σ' H' => ∃ xs, σ' = [some (.ref p), some (.ref a), some (.int x), some (.int y), some (.ref l)] ∧ Same H H' ∧ H' l = some (.lst xs) ∧ xs.length ≤ 4 ∧ PwPt H' xs ([] ++ (if bL cs x y = true then [(x - 1, y)] else []) ++ (if bD rs x y = true then [(x, y - 1)] else []) ++ (if bU rs x y = true then [(x, y + 1)] else []) ++ (if bR cs x y = true then [(x + 1, y)] else []))) ?_ ?_
     ·have hg : bR cs x y = (decide (x + 1 < (cs.length : Int) + 1) && !decide ((y + cs.getD (x).toNat 0) % 2 = 1)) := rfl
      walk_at "rd"
      refine rd_methv (s1 _ _ e1) (nl (by decide +kernel)) ?_
      walk_at "rd"
      refine ⟨p, s, cs, rs, rfl, hc.mono s1, ?_⟩
      walk_at "rd"
      by_cases c1 : x + 1 < (cs.length : Int) + 1
      ·rw [decide_eq_true c1] at hg ⊢
       walk_at "rd"
       refine rd_methv (s1 _ _ e1) (nl (by decide +kernel)) ?_
       walk_at "rd"
       refine ⟨p, "col", x, y, s, cs, rs, cs, rs, rfl, hc.mono s1, .inl ⟨rfl, rfl⟩, .inl ⟨rfl, rfl⟩, by omega, by omega, by omega, by omega, ?_⟩
       rw [Bool.true_and] at hg
       by_cases c2 : (y + cs.getD (x).toNat 0) % 2 = 1
       ·rw [decide_eq_true c2] at hg ⊢
        walk_at "rd"
        exact ⟨_, rfl, s1, f1, by omega, by rw [if_neg (show ¬ bR cs x y = true by rw [hg]; decide), List.append_nil]; exact w1⟩
       ·rw [decide_eq_false c2] at hg ⊢
        walk_at "rd"
        refine rd_bmL f1 ?_
        walk_at "rd"
        refine ⟨by show 2 ≤ sizeLine; decide, fun b nb => ?_⟩
        have sb := Same.new (o := HO.tup [V.int (x + 1), V.int (y)]) nb
        have eb := upd_same (H := H1) (a := b) (o := HO.tup [V.int (x + 1), V.int (y)])
        generalize upd H1 b (HO.tup [V.int (x + 1), V.int (y)]) = H2 at sb eb ⊢
        walk_at "rd"
        refine rd_append (sb _ _ f1) (small1000' (by omega)) ?_
        refine ⟨_, rfl, (s1.trans sb).later n1, upd_same, by rw [List.length_append, List.length_singleton]; omega, ?_⟩
        rw [if_pos (show bR cs x y = true by rw [hg]; rfl)]
        exact ((w1.mono sb).upd (sb _ _ f1) (by intro ys z; cases z)).snoc (Pt.upd (q := (x + 1, y)) ⟨b, rfl, eb⟩ (sb _ _ f1) (by intro ys z; cases z))
      ·rw [decide_eq_false c1] at hg ⊢
       walk_at "rd"
       exact ⟨_, rfl, s1, f1, by omega, by rw [if_neg (show ¬ bR cs x y = true by rw [hg, Bool.false_and]; decide), List.append_nil]; exact w1⟩
     ·clear s1 f1 w1 lx
      rintro σ' H1 ⟨xs, rfl, s1, f1, lx, w1⟩
      walk_at "rd"
      exact k l xs H1 s1 n1 f1 w1
end
local macro_rules | `(tactic| walk_at "rdf1") => `(tactic| first
 | ((with_reducible refine' rd_var (v := ?kv) ?ke ?kh); (case ke => exact rfl))
 | (with_reducible refine rd_seqA fun _ _ => ?_) | (with_reducible refine rd_asg ?_) | (with_reducible refine rd_name ?_) | (with_reducible refine rd_ret ?_) | (with_reducible refine rd_retN ?_) | (with_reducible refine rd_drop ?_)
 | (with_reducible refine rd_ifS ?_) | (with_reducible refine rd_tB ?_) | (with_reducible refine rd_tTest ?_) | (with_reducible refine rd_exbl ?_) | (with_reducible refine rd_c ?_) | (with_reducible refine rd_op ?_) | (with_reducible refine rd_un ?_)
 | (with_reducible refine rd_andV ?_) | (with_reducible refine rd_orV ?_) | (with_reducible refine rd_notV ?_) | (with_reducible refine rd_and ?_) | (with_reducible refine rd_or ?_) | (with_reducible refine rd_not ?_) | (with_reducible refine rd_true ?_)
 | (with_reducible refine rd_I0 ?_) | (with_reducible refine rd_U ?_) | (with_reducible refine rd_eqI ?_) | (with_reducible refine rd_neI ?_) | (with_reducible refine rd_eqS ?_) | (with_reducible refine rd_eqB ?_) | (with_reducible refine rd_neB ?_)
 | (with_reducible refine rd_chain ?_) | (with_reducible refine rd_call ?_) | (with_reducible refine rd_nil ?_) | (with_reducible refine rd_cons ?_) | (with_reducible refine rd_CB ?_) | (with_reducible refine rd_tup ?_) | (with_reducible refine rd_lst ?_)
 | (with_reducible refine rd_next ?_) | (with_reducible refine rd_try2 ?_) | (with_reducible refine rd_thawE ?_) | (with_reducible refine rd_thawS ?_) | (with_reducible refine rd_ivals ?_) | (with_reducible refine rd_iitems ?_) | ((with_reducible refine' rd_aug (x := ?kv) ?ke ?kh); (case ke => exact rfl)) | (with_reducible refine rd_ipI ?_) | (with_reducible refine rd_gcons ?_) | (with_reducible refine rd_gnil ?_) | (with_reducible refine rd_gsub ?_) | (with_reducible refine rd_sfld ?_) | (with_reducible refine rd_while ?_) | (with_reducible refine rd_comp ?_) | (with_reducible refine rd_fld ?_) | (with_reducible refine rd_meth ?_) | (with_reducible refine rd_make ?_) | (with_reducible refine rd_raise ?_) | (with_reducible refine rd_try ?_) | (with_reducible refine rd_callS ?_) | (with_reducible refine rd_methS ?_) | (with_reducible refine rd_makeS ?_) | (with_reducible refine rd_bm ?_) | (with_reducible refine rd_bm0 ?_) | (with_reducible refine rd_sl ?_) | (with_reducible refine rd_nopart ?_) | (with_reducible refine rd_part ?_) | (with_reducible refine rd_exint ?_) | (with_reducible refine rd_exref ?_)
 | (with_reducible refine rd_if ?_) | (with_reducible refine rd_augS ?_) | (with_reducible refine rd_dput ?_) | (with_reducible refine rd_din ?_) | (with_reducible refine rd_dnotin ?_) | (with_reducible refine rd_dnewT ?_) | (with_reducible refine rd_dnewK ?_) | (with_reducible refine rd_par ?_) | (with_reducible refine rd_dget ?_) | (with_reducible refine rd_disp1 ?_) | (with_reducible refine rd_dget1 ?_) | (with_reducible refine rd_dget2 ?_) | (with_reducible refine rd_dpop1 ?_) | (with_reducible refine rd_rng3 ?_) | (with_reducible refine rd_ienum ?_) | (with_reducible refine rd_abs ?_) | (with_reducible refine rd_min2 ?_) | (with_reducible refine rd_max2 ?_) | (with_reducible refine rd_intB ?_) | (with_reducible refine rd_for ?_) | (with_reducible refine rd_rng1 ?_) | (with_reducible refine rd_ilist ?_) | (with_reducible refine rd_itup ?_) | (with_reducible refine rd_izipS ?_) | (with_reducible refine iteT ?_) | (with_reducible refine iteF ?_) | (with_reducible refine if_true_do ?_) | (with_reducible refine iteNN ?_) | (with_reducible refine iteTA ?_) | (with_reducible refine iteFA ?_) | ((with_reducible refine' rd_cut (r := ?kr) ?ke ?kh); (case ke => assumption)) | (dsimp only))
local macro_rules | `(tactic| walk_at "rdf") => `(tactic| repeat walk_at "rdf1")
section
variable {P : Program} {w : World} {K : PySem.W.Frag} {mg : Str → Option Value} {base : Heap} {t : Ad}
theorem inC_few {cs rs : List Int} (lc : cs.length ≤ 39) (lr : rs.length ≤ 39) {l : List (Int × Int)} (nd : l.Nodup) (h : ∀ q ∈ l, inC cs rs q) : l.length ≤ 1600 :=
 Wn.nodup_few (n := 40) nd fun q hq => by have := h q hq; unfold inC at this; omega
theorem walk_in {cs rs : List Int} {a c : Int × Int} {m : Nat} (h : inC cs rs a) (wk : Bf.Walk (bs cs rs) a c m) : inC cs rs c := by
 induction wk with
 | here => exact h
 | on _ e ih => exact bs_in ih e
theorem st_in {cs rs : List Int} {g : Int × Int} {qs : List (Int × Int)} {ps ds : List Nat} {pl : Nat} {dn : List (Int × Int)} (hg : inC cs rs g) (h : Bf.St (bs cs rs) g qs ps ds pl dn) : ∀ q ∈ qs, inC cs rs q := fun q hq => by
 obtain ⟨j, hj⟩ := List.mem_iff_getElem?.mp hq
 have lj : j < ds.length := by rw [h.ld]; exact (List.getElem?_eq_some_iff.mp hj).1
 exact walk_in hg (h.walk j q _ hj (List.getElem?_eq_getElem lj))
structure OnwAt (H : Hp) (d : Addr) (qs : List (Int × Int)) (ps : List Nat) : Prop where
 ob : ∃ kvs : List (List Key × V), H d = some (.dT kvs) ∧ KeysAre kvs qs ∧ ∀ (j : Nat) k v, kvs[j]? = some (k, v) → (j = 0 ∧ v = .non) ∨ (0 < j ∧ ∃ b p c, ps[j]? = some p ∧ qs[p]? = some c ∧ v = .ref b ∧ H b = some (.tup [.int c.1, .int c.2]))
theorem OnwAt.mono {H H' : Hp} {d : Addr} {qs : List (Int × Int)} {ps : List Nat} (h : OnwAt H d qs ps) (s : Same H H') : OnwAt H' d qs ps := by
 obtain ⟨kvs, h1, h2, h3⟩ := h.ob
 refine ⟨kvs, s _ _ h1, h2, fun j k v e => ?_⟩
 rcases h3 j k v e with z | ⟨z, b, p, c, q1, q2, q3, q4⟩
 ·exact .inl z
 ·exact .inr ⟨z, b, p, c, q1, q2, q3, s _ _ q4⟩
theorem OnwAt.put {H : Hp} {d b : Addr} {qs : List (Int × Int)} {ps : List Nat} {kvs : List (List Key × V)} {c c0 : Int × Int} {pl : Nat} (h : OnwAt H d qs ps) (e : H d = some (.dT kvs)) (lp : ps.length = qs.length) (q0 : 0 < qs.length) (hn : c ∉ qs) (hp : qs[pl]? = some c0) (hb : H b = some (.tup [.int c0.1, .int c0.2])) : OnwAt (L2.upd H d (.dT (putK kvs (ky c) (.ref b)))) d (qs ++ [c]) (ps ++ [pl]) := by
 obtain ⟨kvs', h1, h2, h3⟩ := h.ob
 rw [e] at h1
 cases h1
 have hv : valV kvs (ky c) = none := by
  have := h2.val c
  rw [decide_eq_false hn] at this
  cases z : valV kvs (ky c) with
  | none => rfl
  | some y => rw [z] at this; cases this
 have tu : ∀ {a : Addr} {xs : List V}, H a = some (.tup xs) → L2.upd H d (.dT (putK kvs (ky c) (.ref b))) a = some (.tup xs) := fun {a xs} ea => (upd_ne (ne_of ea e (by intro z; cases z))).trans ea
 have lk := h2.len
 refine ⟨_, upd_same, h2.put hn, fun j k v ej => ?_⟩
 rw [putK_new _ hv] at ej
 rcases Bf.at_snoc ej with ⟨hj, ej⟩ | ⟨hj, ej⟩
 ·rcases h3 j k v ej with z | ⟨z, b', p, c', q1, q2, q3, q4⟩
  ·exact .inl z
  ·exact .inr ⟨z, b', p, c', Bf.at_app q1, Bf.at_app q2, q3, tu q4⟩
 ·cases ej
  refine .inr ⟨by omega, b, pl, c0, ?_, Bf.at_app hp, rfl, tu hb⟩
  rw [hj, lk, ← lp]; exact Bf.at_end
def sp_waysto (C : Addr) : Sp := fun vs H Q _ => ∃ (p a : Addr) (g : Int × Int) (s : Int) (cs rs : List Int), vs = [.ref p, .ref a] ∧ ClothAt C H p s cs rs ∧ cs.length ≤ 39 ∧ rs.length ≤ 39 ∧ H a = some (.tup [.int g.1, .int g.2]) ∧ inC cs rs g ∧
 ∀ d qs ps ds H', Same H H' → H d = none → OnwAt H' d qs ps → Bf.St (bs cs rs) g qs ps ds qs.length [] → Q (.ref d) H'
theorem ok_waysto (T : Txt K mg t) : FnOk P w K mg base CX0 6 t.f_waysto t.d_waysto ["cloth", "goal"] (sp_waysto t.a_Cloth) := by
  have G_beside := ok_beside (P := P) (w := w) (base := base) T
  refine T.F_waysto.ok sc_waysto (fun vs H Q E h => ?_) (fun cdv A outer s H vs Q E hr h => ?_)
  · obtain ⟨p, a, g, s, cs, rs, rfl, _⟩ := h; rfl
  · obtain ⟨p, a, g, s, cs, rs, rfl, hc, lc, lr, ha, hin, k⟩ := h
    refine cutC (ps_set (i := 2) sc_waysto.nd rfl (Or.inl rfl) (pe_disp1 (hu_of hr) (pv 1) pe_non)) fun _ _ => cutC (ps_set (i := 3) sc_waysto.nd rfl (Or.inl rfl) (pe_lst (pa_cons (pv 1) pa_nil))) fun _ _ => cutC (ps_set (i := 4) sc_waysto.nd rfl (Or.inl rfl) pe_int) fun _ _ => cutC (ps_while PassesOwn.never (pt_cmpR op_lt (pv 4) (pe_callB (cI_lenK K rfl) rfl T.no_len (by rfl) (pa_cons (pv 3) pa_nil)) (nomark _)) (pss_cons (ps_set (i := 5) sc_waysto.nd rfl (Or.inl rfl) (pe_ix (ix_listK K rfl) (pv 3) (pv 4) (fun _ _ => rfl))) (pss_cons (ps_for PassesOwn.never rfl (pi_list (pe_call G_beside (hr.mono (by first | decide | omega)) rfl T.mg_beside T.F_beside.kp T.b_beside .nil pass0 (pa_cons (pv 0) (pa_cons (pv 5) pa_nil)))) (pg_name (i := 6) sc_waysto.nd rfl (Or.inl rfl)) (pss_one (ps_join (ps_if (pt_cmp (pc_dnotin (hu_of hr) (pv 6) (pv 2))) (pss_cons (ps_dput (hu_of hr) (pv 2) (pv 6) (pv 5) rfl) (pss_one (ps_expr (pe_bm PySem.F.plainAttrs_list PySem.F.slot_list_append PySem.F.type_list_append mt_append (pv 3) (pa_cons (pv 6) pa_nil))))) pss_nil)))) (pss_one (ps_aug (i := 4) sc_waysto.nd rfl (Or.inl rfl) pe_int ip_add))))) fun _ _ => cutE (ps_ret (pv 2)) fun _ _ => ?_
    walk_at "rdf"
    intro d nd
    walk_at "rdf"
    refine ⟨a, ky g, .non, rfl, Same.new nd _ _ ha, upd_same, ?_⟩
    rw [upd_upd]
    have s1 := Same.new (o := HO.dT [(ky g, V.non)]) nd
    have e1 := upd_same (H := H) (a := d) (o := HO.dT [(ky g, V.non)])
    generalize upd H d (HO.dT [(ky g, V.non)]) = H1 at s1 e1 ⊢
    walk_at "rdf"
    refine ⟨by show 1 ≤ sizeLine; decide, fun l nl => ?_⟩
    have sl := Same.new (o := HO.lst [V.ref a]) nl
    have el := upd_same (H := H1) (a := l) (o := HO.lst [V.ref a])
    generalize upd H1 l (HO.lst [V.ref a]) = H2 at sl el ⊢
    have dl : d ≠ l := ne_of_none e1 nl
    have nl : H l = none := s1.free nl
    walk_at "rdf"
    refine ⟨fun m σ' H' => ∃ (i : Nat) (qs : List (Int × Int)) (ps ds : List Nat) (xs : List V) (o5 o6 : Option V), m = 1601 - i ∧ i ≤ qs.length ∧ σ' = [some (.ref p), some (.ref a), some (.ref d), some (.ref l), some (.int (i : Nat)), o5, o6] ∧ Same H H' ∧ H' l = some (.lst xs) ∧ PwPt H' xs qs ∧ OnwAt H' d qs ps ∧ Bf.St (bs cs rs) g qs ps ds i [],
      ⟨_, 0, [g], [0], [0], [V.ref a], none, none, rfl, Nat.zero_le _, rfl, s1.trans sl, el, PwPt.cons ⟨a, rfl, sl _ _ (s1 _ _ ha)⟩ PwPt.nil, ⟨_, sl _ _ e1, rfl, fun j k v ej => ?_⟩, Bf.St.start⟩, ?_⟩
    · cases j with
      | zero => cases ej; exact .inl ⟨rfl, rfl⟩
      | succ j => simp at ej
    rintro m σ' H3 ⟨i, qs, ps, ds, xs, o5, o6, rfl, hi, rfl, s3, e3, px, on3, st3⟩
    have lq := inC_few lc lr st3.nd (st_in hin st3)
    walk_at "rdf"
    refine rd_lenL e3 ?_
    rw [px.1]
    walk_at "rdf"
    refine ite2 (fun c => ?_) (fun c => ?_)
    · have hi : i < qs.length := by have := of_decide_eq_true c; omega
      refine ⟨fun σ' H' => ∃ (qs : List (Int × Int)) (ps ds : List Nat) (xs : List V) (o5 o6 : Option V), i + 1 ≤ qs.length ∧ σ' = [some (.ref p), some (.ref a), some (.ref d), some (.ref l), some (.int ((i + 1 : Nat) : Int)), o5, o6] ∧ Same H H' ∧ H' l = some (.lst xs) ∧ PwPt H' xs qs ∧ OnwAt H' d qs ps ∧ Bf.St (bs cs rs) g qs ps ds (i + 1) [], ?_, ?_⟩
      · rintro σ' H' ⟨qs', ps', ds', xs', o5, o6, hi', rfl, r⟩
        exact ⟨_, by omega, i + 1, qs', ps', ds', xs', o5, o6, rfl, hi', rfl, r⟩
      · obtain ⟨c0, hc0⟩ : ∃ c0, qs[i]? = some c0 := ⟨_, List.getElem?_eq_getElem hi⟩
        obtain ⟨d0, hd0⟩ : ∃ d0, ds[i]? = some d0 := ⟨_, List.getElem?_eq_getElem (by rw [st3.ld]; exact hi)⟩
        have hx : i < xs.length := by rw [px.1]; exact hi
        obtain ⟨b0, eb0, hb0⟩ := px.2 i _ c0 (List.getElem?_eq_getElem hx) hc0
        have ic0 := st_in hin st3 c0 (List.mem_of_getElem? hc0)
        walk_at "rdf"
        refine rd_ixL (SqL.of e3) (v := .ref b0) (atI_nat (by rw [List.getElem?_eq_getElem hx, eb0])) ?_
        walk_at "rdf"
        refine ⟨p, b0, c0, s, cs, rs, rfl, hc.mono s3, hb0, ic0, fun ll ys H4 s4 nll e4 py => ?_⟩
        have nll0 := s3.free nll
        walk_at "rdf"
        refine ⟨⟨_, SqL.of e4⟩, ?_⟩
        have dll : ll ≠ d ∧ ll ≠ l := by
          obtain ⟨kvs, z, _⟩ := on3.ob
          exact ⟨fun q => (by rw [q, z] at nll; cases nll), fun q => (by rw [q, e3] at nll; cases nll)⟩
        refine forW_list (K := K) (a := ll) (xs := ys) (fun n σ' H' => ∃ (qs : List (Int × Int)) (ps ds : List Nat) (xs : List V) (o6 : Option V), σ' = [some (.ref p), some (.ref a), some (.ref d), some (.ref l), some (.int (i : Nat)), some (.ref b0), o6] ∧ Same H H' ∧ H' ll = some (.lst ys) ∧ PwPt H' ys (bs cs rs c0) ∧ H' b0 = some (.tup [.int c0.1, .int c0.2]) ∧ H' l = some (.lst xs) ∧ PwPt H' xs qs ∧ OnwAt H' d qs ps ∧ qs[i]? = some c0 ∧ ds[i]? = some d0 ∧ Bf.St (bs cs rs) g qs ps ds i ((bs cs rs c0).take n))
          ⟨qs, ps, ds, xs, o6, rfl, s3.trans s4, e4, py, s4 _ _ hb0, s4 _ _ e3, px.mono s4, on3.mono s4, hc0, hd0, by rw [List.take_zero]; exact st3⟩ (fun n σ' H' _ ⟨_, _, _, _, _, _, _, z, _⟩ => SqL.of z) ?_ ?_
        · rintro n v σ' H5 hv ⟨qs, ps, ds, xs, o6, rfl, s5, e5, py5, hb5, l5, px5, on5, hc5, hd5, st5⟩
          have hn : n < ys.length := (List.getElem?_eq_some_iff.mp hv).1
          have hn' : n < (bs cs rs c0).length := by rw [← py5.1]; exact hn
          obtain ⟨cc, hcc⟩ : ∃ cc, (bs cs rs c0)[n]? = some cc := ⟨_, List.getElem?_eq_getElem hn'⟩
          have tk : (bs cs rs c0).take (n + 1) = (bs cs rs c0).take n ++ [cc] := by rw [List.take_add_one, hcc]; rfl
          obtain ⟨bc, rfl, hbc⟩ := py5.2 n v cc hv hcc
          have lq5 := inC_few lc lr st5.nd (st_in hin st5)
          have q0 : 0 < qs.length := (List.getElem?_eq_some_iff.mp st5.hd).1
          rw [tk]
          walk_at "rdf"
          refine rd_join (fun σ' H' => ∃ (qs : List (Int × Int)) (ps ds : List Nat) (xs : List V), σ' = [some (.ref p), some (.ref a), some (.ref d), some (.ref l), some (.int (i : Nat)), some (.ref b0), some (.ref bc)] ∧ Same H H' ∧ H' ll = some (.lst ys) ∧ PwPt H' ys (bs cs rs c0) ∧ H' b0 = some (.tup [.int c0.1, .int c0.2]) ∧ H' l = some (.lst xs) ∧ PwPt H' xs qs ∧ OnwAt H' d qs ps ∧ qs[i]? = some c0 ∧ ds[i]? = some d0 ∧ Bf.St (bs cs rs) g qs ps ds i ((bs cs rs c0).take n ++ [cc])) ?_ ?_
          · obtain ⟨kvs, ed, ke, kv⟩ := id on5.ob
            walk_at "rdf"
            refine ⟨d, _, rfl, DGet.t (k := ky cc) ed hbc, ?_⟩
            rw [ke.val]
            by_cases hm : cc ∈ qs
            · rw [decide_eq_true hm]
              walk_at "rdf"
              exact ⟨qs, ps, ds, xs, rfl, s5, e5, py5, hb5, l5, px5, on5, hc5, hd5, st5.skip hm⟩
            · rw [decide_eq_false hm]
              walk_at "rdf"
              refine ⟨d, _, rfl, DPut.t (k := ky cc) ed hbc ?_, ?_⟩
              · have := ke.len
                exact small1000' (by omega)
              have on6 := on5.put ed st5.lp q0 hm hc5 hb5
              have tu : ∀ {u : Addr} {zs : List V}, H5 u = some (.tup zs) → upd H5 d (.dT (putK kvs (ky cc) (.ref b0))) u = some (.tup zs) := fun {u zs} eu => (upd_ne (ne_of eu ed (by intro z; cases z))).trans eu
              have lu : ∀ {u : Addr} {zs : List V}, H5 u = some (.lst zs) → upd H5 d (.dT (putK kvs (ky cc) (.ref b0))) u = some (.lst zs) := fun {u zs} eu => (upd_ne (ne_of eu ed (by intro z; cases z))).trans eu
              have s6 : Same H (upd H5 d (.dT (putK kvs (ky cc) (.ref b0)))) := s5.later nd
              have px6 := px5.upd (o := .dT (putK kvs (ky cc) (.ref b0))) ed (by intro ys z; cases z)
              have py6 := py5.upd (o := .dT (putK kvs (ky cc) (.ref b0))) ed (by intro ys z; cases z)
              have hb6 := tu hb5
              have hbc6 := tu hbc
              have e6 := lu e5
              have l6 := lu l5
              generalize upd H5 d (.dT (putK kvs (ky cc) (.ref b0))) = H6 at on6 s6 px6 py6 hb6 hbc6 e6 l6 ⊢
              walk_at "rdf"
              refine rd_bmL l6 ?_
              walk_at "rdf"
              refine rd_append l6 (by rw [px6.1]; exact small1000' (by omega)) ?_
              have nT : ∀ ys, HO.tup ys ≠ HO.lst xs := by intro ys z; cases z
              obtain ⟨kvs6, ed6, ke6, kv6⟩ := on6.ob
              refine ⟨qs ++ [cc], ps ++ [i], ds ++ [d0 + 1], xs ++ [.ref bc], rfl, s6.later nl, by rw [upd_ne dll.2]; exact e6, py6.upd l6 nT, (upd_ne (ne_of hb6 l6 (nT _))).trans hb6, upd_same, (px6.upd l6 nT).snoc (Pt.upd (q := cc) ⟨bc, rfl, hbc6⟩ l6 nT), ?_, Bf.at_app hc5, Bf.at_app hd5, st5.add hc5 hd5 (List.mem_of_getElem? hcc) hm⟩
              refine ⟨kvs6, (upd_ne dl).trans ed6, ke6, fun j k v ej => ?_⟩
              rcases kv6 j k v ej with z | ⟨z, b, p', c', q1, q2, q3, q4⟩
              · exact .inl z
              · exact .inr ⟨z, b, p', c', q1, q2, q3, (upd_ne (ne_of q4 l6 (nT _))).trans q4⟩
          · rintro σ' H6 ⟨qs, ps, ds, xs, rfl, r⟩
            exact ⟨qs, ps, ds, xs, _, rfl, r⟩
        · rintro σ' H5 ⟨qs, ps, ds, xs, o6, rfl, s5, e5, py5, hb5, l5, px5, on5, hc5, hd5, st5⟩
          rw [List.take_of_length_le (by rw [py5.1]; exact Nat.le_refl _)] at st5
          walk_at "rdf"
          exact ⟨qs, ps, ds, xs, _, _, (List.getElem?_eq_some_iff.mp hc5).1, rfl, s5, l5, px5, on5, st5.next hc5 fun c hc => hc⟩
    · have hi : i = qs.length := by
        have : ¬ ((i : Nat) : Int) < (qs.length : Nat) := fun z => c (decide_eq_true z)
        omega
      subst hi
      walk_at "rdf"
      exact k d qs ps ds H3 s3 nd on3 st3
end
section
variable {P : Program} {w : World} {K : PySem.W.Frag} {mg : Str → Option Value} {base : Heap} {t : Ad}
def Sm (z : Int) : Prop := -1000000000000000000 < z ∧ z < 1000000000000000000
theorem sm_snoc {zs : List Int} {z : Int} (h : ∀ y ∈ zs, Sm y) (hz : Sm z) : ∀ y ∈ zs ++ [z], Sm y := fun y hy => by
 rcases List.mem_append.mp hy with q | q
 ·exact h y q
 ·rw [List.mem_singleton.mp q]; exact hz
theorem sm_mod (r : Int) {m : Int} (h0 : 0 < m) (h1 : m ≤ 1000003) : Sm (r % m) := by
 have := Int.emod_nonneg r (by omega : m ≠ 0)
 have := Int.emod_lt_of_pos r h0
 unfold Sm; omega
def sp_Ldraws (K : PySem.W.Frag) : Sp := fun vs H Q _ => ∃ (a : Addr) (m : Nat) (ns : List Int), vs = [.ref a, .int m] ∧ SqL K H a (ns.map V.int) ∧ ns.length ≤ 63 ∧ m ≤ 200 ∧
 ∀ (l : Addr) (zs : List Int) (H' : Hp), Same H H' → H' l = some (.lst (zs.map V.int)) → m ≤ zs.length → zs.length ≤ 300 → (∀ z ∈ zs, Sm z) → Q (.ref l) H'
theorem map_snoc (zs : List Int) (z : Int) : zs.map V.int ++ [V.int z] = (zs ++ [z]).map V.int := by simp
theorem ok_Ldraws (T : Txt K mg t) : FnOk P w K mg base CX0 1 t.f_Ldraws t.d_Ldraws ["_law_script", "_law_many"] (sp_Ldraws K) := by
 refine T.F_Ldraws.ok sc_Ldraws (fun vs H Q E h => ?_) (fun cdv A outer s H vs Q E hr h => ?_)
 ·obtain ⟨a, m, ns, rfl, _⟩ := h; rfl
 ·obtain ⟨a, m, ns, rfl, hS, hl, hm, k⟩ := h
  refine cutC (ps_set (i := 2) sc_Ldraws.nd rfl (Or.inl rfl) (pe_lst pa_nil)) fun _ _ => cutC (ps_set (i := 3) sc_Ldraws.nd rfl (Or.inl rfl) pe_int) fun _ _ => cutC (ps_for PassesOwn.never rfl (pi_list (pv 0)) (pg_name (i := 4) sc_Ldraws.nd rfl (Or.inl rfl)) (pss_cons (ps_set (i := 3) sc_Ldraws.nd rfl (Or.inl rfl) (pe_op op_mod (pe_op op_add (pe_op op_mul (pv 3) pe_int) (pv 4)) pe_int)) (pss_cons (ps_set (i := 5) sc_Ldraws.nd rfl (Or.inl rfl) (pe_callB cI_abs rfl T.no_abs (by rfl) (pa_cons (pv 4) pa_nil))) (pss_cons (ps_if (pt_cmpR op_lt (pv 5) (pe_op op_pow pe_int pe_int) (nomark _)) (pss_cons (ps_expr (pe_bm PySem.F.plainAttrs_list PySem.F.slot_list_append PySem.F.type_list_append mt_append (pv 2) (pa_cons (pv 4) pa_nil))) (pss_one (ps_set (i := 5) sc_Ldraws.nd rfl (Or.inl rfl) pe_int))) pss_nil) (pss_one (ps_while PassesOwn.never (PW.pt (pw_and (pt_cmpR op_gt (pv 5) pe_int (nomark _)) (pw_and1 (pt_cmpR op_lt (pe_callB (cI_lenK K rfl) rfl T.no_len (by rfl) (pa_cons (pv 2) pa_nil)) (pv 1) (nomark _))))) (pss_cons (ps_expr (pe_bm PySem.F.plainAttrs_list PySem.F.slot_list_append PySem.F.type_list_append mt_append (pv 2) (pa_cons (pe_op op_mod (pv 5) pe_int) pa_nil))) (pss_one (ps_set (i := 5) sc_Ldraws.nd rfl (Or.inl rfl) (pe_op op_fdiv (pv 5) pe_int)))))))))) fun _ _ => cutC (ps_while PassesOwn.never (pt_cmpR op_lt (pe_callB (cI_lenK K rfl) rfl T.no_len (by rfl) (pa_cons (pv 2) pa_nil)) (pv 1) (nomark _)) (pss_cons (ps_set (i := 3) sc_Ldraws.nd rfl (Or.inl rfl) (pe_op op_mod (pe_op op_add (pe_op op_mul (pv 3) pe_int) pe_int) pe_int)) (pss_one (ps_expr (pe_bm PySem.F.plainAttrs_list PySem.F.slot_list_append PySem.F.type_list_append mt_append (pv 2) (pa_cons (pe_op op_mod (pe_op op_mul (pv 3) (pv 3)) pe_int) pa_nil)))))) fun _ _ => cutE (ps_ret (pv 2)) fun _ _ => ?_
  walk_at "rd"
  refine ⟨Nat.zero_le _, fun l hn => ?_⟩
  walk_at "rd"
  have hz : ∀ {zs : List Int}, zs.length ≤ 300 → (zs.map V.int).length < sizeLine := fun h => by rw [List.length_map]; exact small1000 (by omega)
  refine ⟨⟨_, (Same.new hn).seq hS⟩, forW_list (K := K) (a := a) (xs := ns.map V.int) (fun i σ' H' => ∃ (zs : List Int) (mix : Int) (c r : Option V), σ' = [some (.ref a), some (.int m), some (.ref l), some (.int mix), c, r] ∧ Same H H' ∧ H' l = some (.lst (zs.map V.int)) ∧ zs.length ≤ i + m ∧ ∀ z ∈ zs, Sm z)
   ⟨[], 1, none, none, rfl, Same.new hn, upd_same, Nat.zero_le _, fun z hz => by cases hz⟩ (fun i σ' H' _ ⟨_, _, _, _, _, s, _⟩ => s.seq hS) ?_ ?_⟩
  ·rintro i y σ' H' hi ⟨zs, mix, c, r, rfl, s1, e1, lz, sm⟩
   have hil : i < ns.length := by have := (List.getElem?_eq_some_iff.mp hi).1; rwa [List.length_map] at this
   obtain ⟨z, rfl⟩ : ∃ z, y = V.int z := by
    rw [List.getElem?_map] at hi
    cases e : ns[i]? with
    | none => rw [e] at hi; cases hi
    | some z => rw [e] at hi; exact ⟨z, (Option.some.inj hi).symm⟩
   walk_at "rd"
   refine rd_I (.inr ⟨by decide, by decide⟩) ?_
   walk_at "rd"
   refine rd_I (by decide) ?_
   walk_at "rd"
   refine rd_I ⟨by decide, by decide, by decide⟩ ?_
   walk_at "rd"
   refine ite2 (fun hc => ?_) (fun _ => ?_)
   ·have hc := of_decide_eq_true hc
    have hcz : Sm z := by
     unfold Sm
     have e18 : (10 : Int) ^ 18 = 1000000000000000000 := by decide
     by_cases hz0 : z < 0
     ·rw [if_pos hz0] at hc; change -z < (10 : Int) ^ 18 at hc; omega
     ·rw [if_neg hz0] at hc; change z < (10 : Int) ^ 18 at hc; omega
    walk_at "rd"
    refine rd_bmL e1 ?_
    walk_at "rd"
    refine rd_append e1 (hz (by omega)) ?_
    rw [map_snoc]
    walk_at "rd"
    refine ⟨fun n σ' H' => ∃ (zs : List Int) (mix : Int) (r : Int), σ' = [some (.ref a), some (.int m), some (.ref l), some (.int mix), some (.int z), some (.int r)] ∧ Same H H' ∧ H' l = some (.lst (zs.map V.int)) ∧ zs.length ≤ i + 1 + m ∧ n = m - zs.length ∧ ∀ z ∈ zs, Sm z,
     ⟨_, zs ++ [z], _, _, rfl, s1.later hn, upd_same, by rw [List.length_append, List.length_singleton]; omega, rfl, sm_snoc sm hcz⟩, ?_⟩
    rintro n σ' H' ⟨zs, mix, r, rfl, s1, e1, lz, rfl, sm⟩
    walk_at "rd"
    refine ite2 (fun _ => ?_) (fun _ => ?_)
    ·walk_at "rd"
     refine rd_lenL e1 ?_
     walk_at "rd"
     rw [List.length_map]
     refine ite2 (fun h2 => ?_) (fun h2 => ?_)
     ·have h2 := of_decide_eq_true h2
      refine ⟨fun σ' H' => ∃ (zs' : List Int) (mix : Int) (r : Int), σ' = [some (.ref a), some (.int m), some (.ref l), some (.int mix), some (.int z), some (.int r)] ∧ Same H H' ∧ H' l = some (.lst (zs'.map V.int)) ∧ zs'.length = zs.length + 1 ∧ ∀ z ∈ zs', Sm z, ?_, ?_⟩
      ·rintro σ' H' ⟨zs', mix, r, rfl, s1, e1, lz', sm'⟩
       exact ⟨m - zs'.length, by omega, zs', mix, r, rfl, s1, e1, by omega, rfl, sm'⟩
      ·walk_at "rd"
       refine rd_bmL e1 ?_
       walk_at "rd"
       refine rd_I (by decide) ?_
       walk_at "rd"
       refine rd_append e1 (hz (by omega)) ?_
       rw [map_snoc]
       walk_at "rd"
       refine rd_I ⟨by decide, by decide⟩ ?_
       walk_at "rd"
       exact ⟨zs ++ [r % 1000003], mix, _, rfl, s1.later hn, upd_same, by rw [List.length_append, List.length_singleton], sm_snoc sm (sm_mod r (by decide) (by decide))⟩
     ·walk_at "rd"
      exact ⟨zs, mix, _, _, rfl, s1, e1, lz, sm⟩
    ·walk_at "rd"
     exact ⟨zs, mix, _, _, rfl, s1, e1, lz, sm⟩
   ·walk_at "rd"
    refine ⟨fun n σ' H' => ∃ (zs : List Int) (mix : Int) (r : Int), σ' = [some (.ref a), some (.int m), some (.ref l), some (.int mix), some (.int z), some (.int r)] ∧ Same H H' ∧ H' l = some (.lst (zs.map V.int)) ∧ zs.length ≤ i + 1 + m ∧ n = m - zs.length ∧ ∀ z ∈ zs, Sm z,
     ⟨_, zs, _, _, rfl, s1, e1, by omega, rfl, sm⟩, ?_⟩
    rintro n σ' H' ⟨zs, mix, r, rfl, s1, e1, lz, rfl, sm⟩
    walk_at "rd"
    refine ite2 (fun _ => ?_) (fun _ => ?_)
    ·walk_at "rd"
     refine rd_lenL e1 ?_
     walk_at "rd"
     rw [List.length_map]
     refine ite2 (fun h2 => ?_) (fun h2 => ?_)
     ·have h2 := of_decide_eq_true h2
      refine ⟨fun σ' H' => ∃ (zs' : List Int) (mix : Int) (r : Int), σ' = [some (.ref a), some (.int m), some (.ref l), some (.int mix), some (.int z), some (.int r)] ∧ Same H H' ∧ H' l = some (.lst (zs'.map V.int)) ∧ zs'.length = zs.length + 1 ∧ ∀ z ∈ zs', Sm z, ?_, ?_⟩
      ·rintro σ' H' ⟨zs', mix, r, rfl, s1, e1, lz', sm'⟩
       exact ⟨m - zs'.length, by omega, zs', mix, r, rfl, s1, e1, by omega, rfl, sm'⟩
      ·walk_at "rd"
       refine rd_bmL e1 ?_
       walk_at "rd"
       refine rd_I (by decide) ?_
       walk_at "rd"
       refine rd_append e1 (hz (by omega)) ?_
       rw [map_snoc]
       walk_at "rd"
       refine rd_I ⟨by decide, by decide⟩ ?_
       walk_at "rd"
       exact ⟨zs ++ [r % 1000003], mix, _, rfl, s1.later hn, upd_same, by rw [List.length_append, List.length_singleton], sm_snoc sm (sm_mod r (by decide) (by decide))⟩
     ·walk_at "rd"
      exact ⟨zs, mix, _, _, rfl, s1, e1, lz, sm⟩
    ·walk_at "rd"
     exact ⟨zs, mix, _, _, rfl, s1, e1, lz, sm⟩
  ·rintro σ' H' ⟨zs, mix, c, r, rfl, s1, e1, lz, sm⟩
   rw [List.length_map] at lz
   walk_at "rd"
   refine ⟨fun n σ' H' => ∃ (zs : List Int) (mix : Int), σ' = [some (.ref a), some (.int m), some (.ref l), some (.int mix), c, r] ∧ (-(2 ^ 64) < mix ∧ mix < 2 ^ 64 ∨ True) ∧ Same H H' ∧ H' l = some (.lst (zs.map V.int)) ∧ zs.length ≤ 300 ∧ n = m - zs.length ∧ ∀ z ∈ zs, Sm z,
    ⟨_, zs, mix, rfl, .inr trivial, s1, e1, by omega, rfl, sm⟩, ?_⟩
   rintro n σ' H' ⟨zs, mix, rfl, _, s1, e1, lz, rfl, sm⟩
   walk_at "rd"
   refine rd_lenL e1 ?_
   walk_at "rd"
   rw [List.length_map]
   refine ite2 (fun h2 => ?_) (fun h2 => ?_)
   ·have h2 := of_decide_eq_true h2
    refine ⟨fun σ' H' => ∃ (zs' : List Int) (mix : Int), σ' = [some (.ref a), some (.int m), some (.ref l), some (.int mix), c, r] ∧ Same H H' ∧ H' l = some (.lst (zs'.map V.int)) ∧ zs'.length = zs.length + 1 ∧ ∀ z ∈ zs', Sm z, ?_, ?_⟩
    ·rintro σ' H' ⟨zs', mix, rfl, s1, e1, lz', sm'⟩
     exact ⟨m - zs'.length, by omega, zs', mix, rfl, .inr trivial, s1, e1, by omega, rfl, sm'⟩
    ·walk_at "rd"
     refine rd_I (.inr ⟨by decide, by decide⟩) ?_
     walk_at "rd"
     refine rd_I (by decide) ?_
     walk_at "rd"
     refine rd_bmL e1 ?_
     walk_at "rd"
     refine rd_I (.inl ⟨by omega, by omega⟩) ?_
     walk_at "rd"
     refine rd_I (by decide) ?_
     walk_at "rd"
     refine rd_append e1 (hz (by omega)) ?_
     rw [map_snoc]
     walk_at "rd"
     exact ⟨zs ++ [_], _, rfl, s1.later hn, upd_same, by rw [List.length_append, List.length_singleton], sm_snoc sm (sm_mod _ (by decide) (by decide))⟩
   ·have h2 : ¬ ((zs.length : Int) < m) := fun z => h2 (decide_eq_true z)
    walk_at "rd"
    exact k l zs H' s1 e1 (by omega) (by omega) sm
end
section
variable {P : Program} {w : World} {K : PySem.W.Frag} {mg : Str → Option Value} {base : Heap} {t : Ad}
def sp_Lbits : Sp := fun vs H Q _ => ∃ (n : Int) (m : Nat), vs = [.int n, .int m] ∧ m ≤ 100 ∧ ∀ (l : Addr) (bs : List Int) (H' : Hp), Same H H' → H' l = some (.lst (bs.map V.int)) → bs.length = m → (∀ z ∈ bs, z = 0 ∨ z = 1) → Q (.ref l) H'
theorem emod_le {a b : Int} (ha : 0 ≤ a) (hb : 0 < b) : a % b ≤ a := by
 obtain ⟨m, rfl⟩ := Int.eq_ofNat_of_zero_le ha
 obtain ⟨n, rfl⟩ := Int.eq_ofNat_of_zero_le (Int.le_of_lt hb)
 rw [← Int.natCast_emod]
 exact Int.ofNat_le.mpr (Nat.mod_le _ _)
theorem mod2 (n : Int) : n % 2 = 0 ∨ n % 2 = 1 := by omega
theorem ok_Lbits (T : Txt K mg t) : FnOk P w K mg base CX0 1 t.f_Lbits t.d_Lbits ["_law_number", "_law_many"] sp_Lbits := by
 refine T.F_Lbits.ok sc_Lbits (fun vs H Q E h => ?_) (fun cdv A outer s H vs Q E hr h => ?_)
 ·obtain ⟨n, m, rfl, _⟩ := h; rfl
 ·obtain ⟨n, m, rfl, hm, k⟩ := h
  refine cutC (ps_set (i := 2) sc_Lbits.nd rfl (Or.inl rfl) (pe_lst pa_nil)) fun _ _ => cutC (ps_for PassesOwn.never rfl (pi_range1 rfl T.no_range (pa_cons (pv 1) pa_nil)) (pg_name (i := 3) sc_Lbits.nd rfl (Or.inl rfl)) (pss_cons (ps_expr (pe_bm PySem.F.plainAttrs_list PySem.F.slot_list_append PySem.F.type_list_append mt_append (pv 2) (pa_cons (pe_op op_mod (pv 0) pe_int) pa_nil))) (pss_one (ps_set (i := 0) sc_Lbits.nd rfl (Or.inl rfl) (pe_op op_fdiv (pv 0) pe_int))))) fun _ _ => cutE (ps_ret (pv 2)) fun _ _ => ?_
  walk_at "rd"
  refine ⟨Nat.zero_le _, fun l hn => ?_⟩
  walk_at "rd"
  refine ⟨m, rfl, by omega, by omega, ?_⟩
  rw [Int.toNat_natCast]
  refine forW_range (fun i σ' H' => ∃ (n : Int) (bs : List Int) (c : Option V), σ' = [some (.int n), some (.int m), some (.ref l), c] ∧ Same H H' ∧ H' l = some (.lst (bs.map V.int)) ∧ bs.length = i ∧ ∀ z ∈ bs, z = 0 ∨ z = 1)
   ⟨n, [], none, rfl, Same.new hn, upd_same, rfl, fun z hz => by cases hz⟩ ?_ ?_
  ·rintro i σ' H' hi ⟨n, bs, c, rfl, s1, e1, lb, hb⟩
   walk_at "rd"
   refine rd_bmL e1 ?_
   walk_at "rd"
   refine rd_I (by decide) ?_
   walk_at "rd"
   refine rd_append e1 (by rw [List.length_map]; exact small1000 (by omega)) ?_
   rw [map_snoc]
   walk_at "rd"
   refine rd_I ⟨by decide, by decide⟩ ?_
   walk_at "rd"
   refine ⟨_, bs ++ [n % 2], _, rfl, s1.later hn, upd_same, by rw [List.length_append, List.length_singleton]; omega, fun z hz => ?_⟩
   rcases List.mem_append.mp hz with h | h
   ·exact hb z h
   ·rw [List.mem_singleton.mp h]; exact mod2 n
  ·rintro σ' H' ⟨n, bs, c, rfl, s1, e1, lb, hb⟩
   walk_at "rd"
   exact k l bs H' s1 e1 lb hb
def sp_Lrow : Sp := fun vs H Q _ => ∃ (a : Addr) (m : Nat) (zs : List Int), vs = [.ref a, .int m] ∧ H a = some (.lst (zs.map V.int)) ∧ 4 ≤ zs.length ∧ m ≤ 100 ∧ ∀ (l : Addr) (bs : List Int) (H' : Hp), Same H H' → H' l = some (.lst (bs.map V.int)) → bs.length = m → (∀ z ∈ bs, z = 0 ∨ z = 1) → Q (.ref l) H'
theorem ok_Lrow (T : Txt K mg t) : FnOk P w K mg base CX0 2 t.f_Lrow t.d_Lrow ["_law_some", "_law_many"] sp_Lrow := by
 have G_Lbits := ok_Lbits (P := P) (w := w) (base := base) T
 refine T.F_Lrow.ok sc_Lrow (fun vs H Q E h => ?_) (fun cdv A outer s H vs Q E hr h => ?_)
 ·obtain ⟨a, m, zs, rfl, _⟩ := h; rfl
 ·obtain ⟨a, m, zs, rfl, ha, hl, hm, k⟩ := h
  refine cutC (ps_set (i := 2) sc_Lrow.nd rfl (Or.inl rfl) (pe_op op_add (pe_op op_add (pe_ix (ix_listK K rfl) (pv 0) pe_int (fun _ _ => rfl)) (pe_op op_mul pe_int (pe_ix (ix_listK K rfl) (pv 0) pe_int (fun _ _ => rfl)))) (pe_op op_mul (pe_op op_mul pe_int pe_int) (pe_ix (ix_listK K rfl) (pv 0) pe_int (fun _ _ => rfl))))) fun _ _ => cutC (ps_if (pt_cmpR op_eq (pe_op op_mod (pe_ix (ix_listK K rfl) (pv 0) pe_int (fun _ _ => rfl)) pe_int) pe_int (nomark _)) (pss_one (ps_set (i := 2) sc_Lrow.nd rfl (Or.inl rfl) (pe_un un_neg (pe_op op_mod (pe_ix (ix_listK K rfl) (pv 0) pe_int (fun _ _ => rfl)) pe_int)))) pss_nil) fun _ _ => cutC (ps_set (i := 3) sc_Lrow.nd rfl (Or.inr rfl) (pe_call G_Lbits (hr.mono (by first | decide | omega)) rfl T.mg_Lbits T.F_Lbits.kp T.b_Lbits .nil pass0 (pa_cons (pv 2) (pa_cons (pv 1) pa_nil)))) fun _ _ => cutC (ps_if (pt_cmpR op_eq (pe_op op_mod (pe_ix (ix_listK K rfl) (pv 0) pe_int (fun _ _ => rfl)) pe_int) pe_int (nomark _)) (pss_one (ps_set (i := 3) sc_Lrow.nd rfl (Or.inr rfl) (pe_comp (N := ["_law_k", "_law_row_here", "_law_some"]) (cap := [none, some 3, some 0]) rfl ⟨rfl, rfl, rfl, rfl, rfl, rfl⟩ (pi_range1 rfl T.no_range (pa_cons (pv 1) pa_nil)) (fun _ _ _ => (pg_name (i := 0) (show (["_law_k", "_law_row_here", "_law_some"] : List Str).Nodup by decide +kernel) rfl (Or.inl rfl))) (fun _ _ _ => pts_nil) (fun _ _ _ => (pe_ix (ix_listK K rfl) (pv 1) (pe_op op_mod (pv 0) (pe_op op_add pe_int (pe_op op_mod (pe_ix (ix_listK K rfl) (pv 2) pe_int (fun _ _ => rfl)) pe_int))) (fun _ _ => rfl)))))) pss_nil) fun _ _ => cutE (ps_ret (pv 3)) fun _ _ => ?_
  have I0 : atI (zs.map V.int) 0 = _ := atI_ints (by decide) (by omega)
  have I1 : atI (zs.map V.int) 1 = _ := atI_ints (by decide) (by omega)
  have I2 : atI (zs.map V.int) 2 = _ := atI_ints (by decide) (by omega)
  have I3 : atI (zs.map V.int) 3 = _ := atI_ints (by decide) (by omega)
  generalize zs.getD (0 : Int).toNat 0 = z0 at I0
  generalize zs.getD (1 : Int).toNat 0 = z1 at I1
  generalize zs.getD (2 : Int).toNat 0 = z2 at I2
  generalize zs.getD (3 : Int).toNat 0 = z3 at I3
  -- behind the raw number: the bits, and the pattern
  walk_at "rd"
  refine rd_ixL (SqL.of ha) I0 ?_
  walk_at "rd"
  refine rd_ixL (SqL.of ha) I1 ?_
  walk_at "rd"
  refine rd_I (.inl ⟨by decide, by decide⟩) ?_
  walk_at "rd"
  refine rd_I (.inl ⟨by decide, by decide⟩) ?_
  walk_at "rd"
  refine rd_ixL (SqL.of ha) I2 ?_
  walk_at "rd"
  refine rd_I (.inl ⟨by decide, by decide⟩) ?_
  walk_at "rd"
  refine rd_ixL (SqL.of ha) I3 ?_
  walk_at "rd"
  refine rd_I (by decide) ?_
  walk_at "rd"
  refine ite2 (fun _ => ?_) (fun _ => ?_)
  ·walk_at "rd"
   refine rd_ixL (SqL.of ha) I0 ?_
   walk_at "rd"
   refine rd_I (by decide) ?_
   walk_at "rd"
   refine ⟨_, m, rfl, hm, fun l bs H1 s1 e1 lb hb => ?_⟩
   walk_at "rd"
   refine rd_ixL (SqL.of (s1 _ _ ha)) I3 ?_
   walk_at "rd"
   refine rd_I (by decide) ?_
   walk_at "rd"
   refine ite2 (fun _ => ?_) (fun _ => ?_)
   ·walk_at "rd"
    refine ⟨m, rfl, by omega, by omega, fun l2 hn => ?_⟩
    rw [Int.toNat_natCast]
    refine compW_range (fun i => .int (bs.getD (((0 : Int) + (i : Nat)) % (1 + z1 % 4)).toNat 0)) (by omega) hn (fun i o H' Q' hi s2 q => ?_) (fun H' s2 e2 => ?_)
    ·walk_at "rd"
     refine rd_ixL (SqL.of (s2 _ _ (s1 _ _ ha))) I1 ?_
     walk_at "rd"
     refine rd_I (by decide) ?_
     walk_at "rd"
     have p1 : 0 < 1 + z1 % 4 := by omega
     refine rd_I p1 ?_
     walk_at "rd"
     have q0 := Int.emod_nonneg ((0 : Int) + (i : Nat)) (by omega : 1 + z1 % 4 ≠ 0)
     have q1 : ((0 : Int) + (i : Nat)) % (1 + z1 % 4) ≤ (0 : Int) + (i : Nat) := emod_le (by omega) (by omega)
     refine rd_ixL (SqL.of (s2 _ _ e1)) (atI_ints q0 (by omega)) ?_
     exact q H' (Same.refl _)
    ·walk_at "rd"
     refine k l2 ((List.range m).map fun i => bs.getD (((0 : Int) + (i : Nat)) % (1 + z1 % 4)).toNat 0) H' (s1.trans s2) (by rw [e2, List.map_map]; rfl) (by rw [List.length_map, List.length_range]) fun z hz => ?_
     obtain ⟨i, hi, rfl⟩ := List.mem_map.mp hz
     have hi := List.mem_range.mp hi
     have q0 := Int.emod_nonneg ((0 : Int) + (i : Nat)) (by omega : 1 + z1 % 4 ≠ 0)
     have q1 : ((0 : Int) + (i : Nat)) % (1 + z1 % 4) ≤ (0 : Int) + (i : Nat) := emod_le (by omega) (by omega)
     exact hb _ (L2.getD_mem (by omega))
   ·walk_at "rd"
    exact k l bs H1 s1 e1 lb hb
  ·walk_at "rd"
   refine ⟨_, m, rfl, hm, fun l bs H1 s1 e1 lb hb => ?_⟩
   walk_at "rd"
   refine rd_ixL (SqL.of (s1 _ _ ha)) I3 ?_
   walk_at "rd"
   refine rd_I (by decide) ?_
   walk_at "rd"
   refine ite2 (fun _ => ?_) (fun _ => ?_)
   ·walk_at "rd"
    refine ⟨m, rfl, by omega, by omega, fun l2 hn => ?_⟩
    rw [Int.toNat_natCast]
    refine compW_range (fun i => .int (bs.getD (((0 : Int) + (i : Nat)) % (1 + z1 % 4)).toNat 0)) (by omega) hn (fun i o H' Q' hi s2 q => ?_) (fun H' s2 e2 => ?_)
    ·walk_at "rd"
     refine rd_ixL (SqL.of (s2 _ _ (s1 _ _ ha))) I1 ?_
     walk_at "rd"
     refine rd_I (by decide) ?_
     walk_at "rd"
     have p1 : 0 < 1 + z1 % 4 := by omega
     refine rd_I p1 ?_
     walk_at "rd"
     have q0 := Int.emod_nonneg ((0 : Int) + (i : Nat)) (by omega : 1 + z1 % 4 ≠ 0)
     have q1 : ((0 : Int) + (i : Nat)) % (1 + z1 % 4) ≤ (0 : Int) + (i : Nat) := emod_le (by omega) (by omega)
     refine rd_ixL (SqL.of (s2 _ _ e1)) (atI_ints q0 (by omega)) ?_
     exact q H' (Same.refl _)
    ·walk_at "rd"
     refine k l2 ((List.range m).map fun i => bs.getD (((0 : Int) + (i : Nat)) % (1 + z1 % 4)).toNat 0) H' (s1.trans s2) (by rw [e2, List.map_map]; rfl) (by rw [List.length_map, List.length_range]) fun z hz => ?_
     obtain ⟨i, hi, rfl⟩ := List.mem_map.mp hz
     have hi := List.mem_range.mp hi
     have q0 := Int.emod_nonneg ((0 : Int) + (i : Nat)) (by omega : 1 + z1 % 4 ≠ 0)
     have q1 : ((0 : Int) + (i : Nat)) % (1 + z1 % 4) ≤ (0 : Int) + (i : Nat) := emod_le (by omega) (by omega)
     exact hb _ (L2.getD_mem (by omega))
   ·walk_at "rd"
    exact k l bs H1 s1 e1 lb hb
structure PlanAt (tupl : Bool) (H : Hp) (p : Addr) (s : Int) (cs rs : List Int) : Prop where
 ob : ∃ c r, H p = some (if tupl then .tup [.int s, .ref c, .ref r] else .lst [.int s, .ref c, .ref r]) ∧ H c = some (.lst (cs.map V.int)) ∧ H r = some (.lst (rs.map V.int))
 sh : s = 0 ∨ s = 1
 bc : Bits cs
 br : Bits rs
theorem PlanAt.mono {b : Bool} {H H' : Hp} {p : Addr} {s : Int} {cs rs : List Int} (e : Same H H') (c : PlanAt b H p s cs rs) : PlanAt b H' p s cs rs := by
 obtain ⟨⟨a, b, h1, h2, h3⟩, x, y, z⟩ := c
 exact ⟨⟨a, b, e _ _ h1, e _ _ h2, e _ _ h3⟩, x, y, z⟩
def sp_Lplan : Sp := fun vs H Q _ => ∃ (a : Addr) (zs : List Int), vs = [.ref a] ∧ H a = some (.lst (zs.map V.int)) ∧ 12 ≤ zs.length ∧ ∀ p s cs rs H', Same H H' → PlanAt true H' p s cs rs → Q (.ref p) H'
theorem pick_a (i : Int) : 0 < ([9, 9, 16, 40, 6] : List Int).getD (i % 5).toNat 0 ∧ ([9, 9, 16, 40, 6] : List Int).getD (i % 5).toNat 0 ≤ 40 := by
 have h := L2.getD_mem (zs := ([9, 9, 16, 40, 6] : List Int)) (k := (i % 5).toNat) (d := 0) (by simp; omega)
 simp only [List.mem_cons, List.not_mem_nil, or_false] at h
 rcases h with h | h | h | h | h <;> rw [h] <;> decide
theorem pick_b (i : Int) : 0 < ([9, 16, 16, 6, 40] : List Int).getD (i % 5).toNat 0 ∧ ([9, 16, 16, 6, 40] : List Int).getD (i % 5).toNat 0 ≤ 40 := by
 have h := L2.getD_mem (zs := ([9, 16, 16, 6, 40] : List Int)) (k := (i % 5).toNat) (d := 0) (by simp; omega)
 simp only [List.mem_cons, List.not_mem_nil, or_false] at h
 rcases h with h | h | h | h | h <;> rw [h] <;> decide
theorem ok_Lplan (T : Txt K mg t) : FnOk P w K mg base CX0 3 t.f_Lplan t.d_Lplan ["_law_some"] sp_Lplan := by
 have G_Lrow := ok_Lrow (P := P) (w := w) (base := base) T
 refine T.F_Lplan.ok sc_Lplan (fun vs H Q E h => ?_) (fun cdv A outer s H vs Q E hr h => ?_)
 ·obtain ⟨a, zs, rfl, _⟩ := h; rfl
 ·obtain ⟨a, zs, rfl, ha, hl, k⟩ := h
  refine cutC (ps_set (i := 1) sc_Lplan.nd rfl (Or.inl rfl) (pe_op op_add pe_int (pe_op op_mod (pe_ix (ix_listK K rfl) (pv 0) pe_int (fun _ _ => rfl)) (pe_ix (ix_listK K rfl) (pe_lst (pa_cons pe_int (pa_cons pe_int (pa_cons pe_int (pa_cons pe_int (pa_cons pe_int pa_nil)))))) (pe_op op_mod (pe_ix (ix_listK K rfl) (pv 0) pe_int (fun _ _ => rfl)) pe_int) (fun _ _ => rfl))))) fun _ _ => cutC (ps_set (i := 2) sc_Lplan.nd rfl (Or.inl rfl) (pe_op op_add pe_int (pe_op op_mod (pe_ix (ix_listK K rfl) (pv 0) pe_int (fun _ _ => rfl)) (pe_ix (ix_listK K rfl) (pe_lst (pa_cons pe_int (pa_cons pe_int (pa_cons pe_int (pa_cons pe_int (pa_cons pe_int pa_nil)))))) (pe_op op_mod (pe_ix (ix_listK K rfl) (pv 0) pe_int (fun _ _ => rfl)) pe_int) (fun _ _ => rfl))))) fun _ _ => cutE (ps_ret (pe_tup (pa_cons (pe_op op_mod (pe_ix (ix_listK K rfl) (pv 0) pe_int (fun _ _ => rfl)) pe_int) (pa_cons (pe_call G_Lrow (hr.mono (by first | decide | omega)) rfl T.mg_Lrow T.F_Lrow.kp T.b_Lrow .nil pass0 (pa_cons (pe_slice (sl_listK K rfl) (pv 0) (po_some pe_int) po_none) (pa_cons (pe_op op_sub (pv 1) pe_int) pa_nil))) (pa_cons (pe_call G_Lrow (hr.mono (by first | decide | omega)) rfl T.mg_Lrow T.F_Lrow.kp T.b_Lrow .nil pass0 (pa_cons (pe_slice (sl_listK K rfl) (pv 0) (po_some pe_int) po_none) (pa_cons (pe_op op_sub (pv 2) pe_int) pa_nil))) pa_nil))))) fun _ _ => ?_
  have I0 : atI (zs.map V.int) 0 = _ := atI_ints (by decide) (by omega)
  have I1 : atI (zs.map V.int) 1 = _ := atI_ints (by decide) (by omega)
  have I2 : atI (zs.map V.int) 2 = _ := atI_ints (by decide) (by omega)
  have I3 : atI (zs.map V.int) 3 = _ := atI_ints (by decide) (by omega)
  generalize zs.getD (0 : Int).toNat 0 = z0 at I0
  generalize zs.getD (1 : Int).toNat 0 = z1 at I1
  generalize zs.getD (2 : Int).toNat 0 = z2 at I2
  generalize zs.getD (3 : Int).toNat 0 = z3 at I3
  have m0 : 0 ≤ z0 % 5 := by omega
  have m5 : z0 % 5 < 5 := by omega
  walk_at "rd"
  refine rd_ixL (SqL.of ha) I1 ?_
  walk_at "rd"
  refine ⟨by show 5 ≤ sizeLine; decide, fun l1 n1 => ?_⟩
  have s1 := Same.new (o := HO.lst (([9, 9, 16, 40, 6] : List Int).map V.int)) n1
  walk_at "rd"
  refine rd_ixL (SqL.of (s1 _ _ ha)) I0 ?_
  walk_at "rd"
  refine rd_I (by decide) ?_
  walk_at "rd"
  refine rd_ixL (SqL.of (xs := ([9, 9, 16, 40, 6] : List Int).map V.int) upd_same) (atI_ints m0 m5) ?_
  walk_at "rd"
  refine rd_I (pick_a z0).1 ?_
  walk_at "rd"
  refine rd_ixL (SqL.of (s1 _ _ ha)) I2 ?_
  walk_at "rd"
  refine ⟨by show 5 ≤ sizeLine; decide, fun l2 n2 => ?_⟩
  have s2 := Same.new (o := HO.lst (([9, 16, 16, 6, 40] : List Int).map V.int)) n2
  walk_at "rd"
  refine rd_ixL (SqL.of (s2 _ _ (s1 _ _ ha))) I0 ?_
  walk_at "rd"
  refine rd_I (by decide) ?_
  walk_at "rd"
  refine rd_ixL (SqL.of (xs := ([9, 16, 16, 6, 40] : List Int).map V.int) upd_same) (atI_ints m0 m5) ?_
  walk_at "rd"
  refine rd_I (pick_b z0).1 ?_
  walk_at "rd"
  have ha2 := s2 _ _ (s1 _ _ ha)
  refine rd_ixL (SqL.of ha2) I3 ?_
  walk_at "rd"
  refine rd_I (by decide) ?_
  walk_at "rd"
  have va := pick_a z0
  have vb := pick_b z0
  generalize ([9, 9, 16, 40, 6] : List Int).getD (z0 % 5).toNat 0 = va' at va ⊢
  generalize ([9, 16, 16, 6, 40] : List Int).getD (z0 % 5).toNat 0 = vb' at vb ⊢
  have wa0 := Int.emod_nonneg z1 (by omega : va' ≠ 0)
  have wa1 := Int.emod_lt_of_pos z1 va.1
  have wb0 := Int.emod_nonneg z2 (by omega : vb' ≠ 0)
  have wb1 := Int.emod_lt_of_pos z2 vb.1
  refine rd_slL ha2 fun l3 n3 => ?_
  have s3 := Same.new (o := HO.lst (cutV (zs.map V.int) (some 4) none)) n3
  walk_at "rd"
  refine ⟨l3, (z1 % va').toNat, zs.drop 4, (by show [V.ref l3, V.int (1 + z1 % va' - 1)] = _; rw [show (1 + z1 % va' - 1 : Int) = (((z1 % va').toNat : Nat) : Int) by omega]), by rw [upd_same]; exact congrArg (fun x => some (HO.lst x)) (cutV_drop (k := 4)), by rw [List.length_drop]; omega, by omega, fun c cs H1 s4 ec lc bc => ?_⟩
  walk_at "rd"
  have ha4 := s4 _ _ (s3 _ _ ha2)
  refine rd_slL ha4 fun l5 n5 => ?_
  have s5 := Same.new (o := HO.lst (cutV (zs.map V.int) (some 8) none)) n5
  walk_at "rd"
  refine ⟨l5, (z2 % vb').toNat, zs.drop 8, (by show [V.ref l5, V.int (1 + z2 % vb' - 1)] = _; rw [show (1 + z2 % vb' - 1 : Int) = (((z2 % vb').toNat : Nat) : Int) by omega]), by rw [upd_same]; exact congrArg (fun x => some (HO.lst x)) (cutV_drop (k := 8)), by rw [List.length_drop]; omega, by omega, fun r rs H2 s6 er lr br => ?_⟩
  walk_at "rd"
  refine ⟨by show 3 ≤ sizeLine; decide, fun p hp => ?_⟩
  have s7 := Same.new (o := HO.tup [V.int (z3 % 2), V.ref c, V.ref r]) hp
  exact k p (z3 % 2) cs rs _ (s1.trans (s2.trans (s3.trans (s4.trans (s5.trans (s6.trans s7)))))) ⟨⟨c, r, upd_same, s7 _ _ (s6 _ _ (s5 _ _ ec)), s7 _ _ er⟩, mod2 z3, ⟨by omega, bc⟩, ⟨by omega, br⟩⟩
def sp_Lmade (C : Addr) : Sp := fun vs H Q _ => ∃ (p : Addr) (b : Bool) (s : Int) (cs rs : List Int), vs = [.ref p] ∧ PlanAt b H p s cs rs ∧ ∀ x H', Same H H' → ClothAt C H' x s cs rs → Q (.ref x) H'
theorem ok_Lmade (T : Txt K mg t) : FnOk P w K mg base CX0 8 t.f_Lmade t.d_Lmade ["_law_plan_here"] (sp_Lmade t.a_Cloth) := by
 have G_ClothInit := ok_ClothInit (P := P) (w := w) (base := base) T
 refine T.F_Lmade.ok sc_Lmade (fun vs H Q E h => ?_) (fun cdv A outer s H vs Q E hr h => ?_)
 ·obtain ⟨p, b, s, cs, rs, rfl, _⟩ := h; rfl
 ·obtain ⟨p, b, s, cs, rs, rfl, pl, k⟩ := h
  obtain ⟨⟨c, r, hp, hc, hr'⟩, sh, bc, br⟩ := id pl
  refine ⟨_, (pss_one (ps_ret (pe_make T.mk_Cloth G_ClothInit (hr.mono (by first | decide | omega)) rfl T.mg_Cloth T.b_ClothInit .nil pass0 (pa_cons (pe_ix (ix_seqK K rfl) (pv 0) pe_int (fun _ _ => rfl)) (pa_cons (pe_callTy (cI_listK K rfl) rfl T.no_list (by rfl) (pa_cons (pe_ix (ix_seqK K rfl) (pv 0) pe_int (fun _ _ => rfl)) pa_nil)) (pa_cons (pe_callTy (cI_listK K rfl) rfl T.no_list (by rfl) (pa_cons (pe_ix (ix_seqK K rfl) (pv 0) pe_int (fun _ _ => rfl)) pa_nil)) pa_nil)))))), ?_⟩
  have ix : ∀ {H' : Hp} {i : Int} {v : V} {Q : VK}, Same H H' → atI [V.int s, V.ref c, V.ref r] i = some v → Q v H' → rIx K (.ref p) (.int i) H' Q := fun {H' i v Q} s1 e q => by
   cases b
   ·exact rd_ixsL (SqL.of (s1 _ _ hp)) e q
   ·exact rd_ixsT (SqT.of (s1 _ _ hp)) e q
  walk_at "rd"
  refine ix (Same.refl _) rfl ?_
  walk_at "rd"
  refine ix (Same.refl _) rfl ?_
  walk_at "rd"
  refine rd_listL hc fun l1 n1 => ?_
  have s1 := Same.new (o := HO.lst (cs.map V.int)) n1
  walk_at "rd"
  refine ix s1 rfl ?_
  walk_at "rd"
  refine rd_listL (s1 _ _ hr') fun l2 n2 => ?_
  have s2 := Same.new (o := HO.lst (rs.map V.int)) n2
  walk_at "rd"
  intro x dx nx ndx nex
  have s12 := s1.trans s2
  have h1 : upd (upd H l1 (.lst (cs.map V.int))) l2 (.lst (rs.map V.int)) l1 = some (.lst (cs.map V.int)) := s2 _ _ upd_same
  have h2 : upd (upd H l1 (.lst (cs.map V.int))) l2 (.lst (rs.map V.int)) l2 = some (.lst (rs.map V.int)) := upd_same
  generalize upd (upd H l1 (.lst (cs.map V.int))) l2 (.lst (rs.map V.int)) = H3 at h1 h2 s12 nx ndx ⊢
  have s3 : Same H3 (upd (upd H3 dx (.own x)) x (.ins t.a_Cloth dx [])) := (Same.new ndx).later nx
  refine ⟨x, dx, l1, l2, s, cs, rs, rfl, upd_same, s3 _ _ h1, s3 _ _ h2, sh, bc, br, fun H4 kp hC => ⟨rfl, ?_⟩⟩
  exact k x H4 (fun b o e => kp b o (s3 b o (s12 b o e)) (ne_of_none (s12 b o e) nx)) hC
end
section
variable {P : Program} {w : World} {K : PySem.W.Frag} {mg : Str → Option Value} {base : Heap} {t : Ad}
def Scal (d : PyData) : Prop := (∃ i, d = .int i) ∨ (∃ b, d = .bool b) ∨ d = .none
def OkS (S : PyData → Prop) (d : PyData) : Prop := Scal d ∨ (∃ ds, d = .list ds ∧ ds.length ≤ 5000 ∧ ∀ e ∈ ds, S e) ∨ ∃ ds, d = .tuple ds ∧ ds.length ≤ 5000 ∧ ∀ e ∈ ds, S e
def sp_same (S : PyData → Prop) : Sp := fun vs H Q _ => ∃ (x y : V) (d : PyData), vs = [x, y] ∧ S d ∧ Rep H d x ∧ Rep H d y ∧ ∀ H', Same H H' → Q (.bl true) H'
theorem same_step {S : PyData → Prop} {n : Nat} (T : Txt K mg t) (G_Lsame : FnOk P w K mg base CX0 n t.f_Lsame t.d_Lsame ["_law_told", "_law_due"] (sp_same S)) : FnOk P w K mg base CX0 (n + 1) t.f_Lsame t.d_Lsame ["_law_told", "_law_due"] (sp_same (OkS S)) := by
 refine T.F_Lsame.ok sc_Lsame (fun vs H Q E h => ?_) (fun cdv A outer s H vs Q E hr h => ?_)
 ·obtain ⟨x, y, d, rfl, _⟩ := h; rfl
 ·obtain ⟨x, y, d, rfl, ok, rx, ry, k⟩ := h
  refine cutC (ps_if (PW.pt (pw_or (pt_cmpR op_ne (pe_callB (cI_isinstK K rfl) rfl T.no_isinstance (by rfl) (pa_cons (pv 0) (pa_cons (pe_bltn (v := .ty "bool") rfl T.no_bool (by rfl : bootBuiltins "bool" = some (.type "bool")) rfl) pa_nil))) (pe_callB (cI_isinstK K rfl) rfl T.no_isinstance (by rfl) (pa_cons (pv 1) (pa_cons (pe_bltn (v := .ty "bool") rfl T.no_bool (by rfl : bootBuiltins "bool" = some (.type "bool")) rfl) pa_nil))) (nomark _)) (pw_or1 (pt_cmpR op_ne (pe_callB (cI_isinstK K rfl) rfl T.no_isinstance (by rfl) (pa_cons (pv 0) (pa_cons (pe_bltn (v := .ty "int") rfl T.no_int (by rfl : bootBuiltins "int" = some (.type "int")) rfl) pa_nil))) (pe_callB (cI_isinstK K rfl) rfl T.no_isinstance (by rfl) (pa_cons (pv 1) (pa_cons (pe_bltn (v := .ty "int") rfl T.no_int (by rfl : bootBuiltins "int" = some (.type "int")) rfl) pa_nil))) (nomark _))))) (pss_one (ps_ret pe_bl)) pss_nil) fun _ _ => cutC (ps_if (PW.pt (pw_or (pt_cmpR op_ne (pe_callB (cI_isinstK K rfl) rfl T.no_isinstance (by rfl) (pa_cons (pv 0) (pa_cons (pe_bltn (v := .ty "list") rfl T.no_list (by rfl : bootBuiltins "list" = some (.type "list")) rfl) pa_nil))) (pe_callB (cI_isinstK K rfl) rfl T.no_isinstance (by rfl) (pa_cons (pv 1) (pa_cons (pe_bltn (v := .ty "list") rfl T.no_list (by rfl : bootBuiltins "list" = some (.type "list")) rfl) pa_nil))) (nomark _)) (pw_or1 (pt_cmpR op_ne (pe_callB (cI_isinstK K rfl) rfl T.no_isinstance (by rfl) (pa_cons (pv 0) (pa_cons (pe_bltn (v := .ty "tuple") rfl T.no_tuple (by rfl : bootBuiltins "tuple" = some (.type "tuple")) rfl) pa_nil))) (pe_callB (cI_isinstK K rfl) rfl T.no_isinstance (by rfl) (pa_cons (pv 1) (pa_cons (pe_bltn (v := .ty "tuple") rfl T.no_tuple (by rfl : bootBuiltins "tuple" = some (.type "tuple")) rfl) pa_nil))) (nomark _))))) (pss_one (ps_ret pe_bl)) pss_nil) fun _ _ => cutC (ps_if (PW.pt (pw_and (pt_not (pt_val (pe_callB (cI_isinstK K rfl) rfl T.no_isinstance (by rfl) (pa_cons (pv 1) (pa_cons (pe_bltn (v := .ty "list") rfl T.no_list (by rfl : bootBuiltins "list" = some (.type "list")) rfl) pa_nil))))) (pw_and1 (pt_not (pt_val (pe_callB (cI_isinstK K rfl) rfl T.no_isinstance (by rfl) (pa_cons (pv 1) (pa_cons (pe_bltn (v := .ty "tuple") rfl T.no_tuple (by rfl : bootBuiltins "tuple" = some (.type "tuple")) rfl) pa_nil)))))))) (pss_one (ps_ret (pe_and (pe_cmpR op_eq (pe_callB (cI_isinstK K rfl) rfl T.no_isinstance (by rfl) (pa_cons (pv 0) (pa_cons (pe_bltn (v := .ty "str") rfl T.no_str (by rfl : bootBuiltins "str" = some (.type "str")) rfl) pa_nil))) (pe_callB (cI_isinstK K rfl) rfl T.no_isinstance (by rfl) (pa_cons (pv 1) (pa_cons (pe_bltn (v := .ty "str") rfl T.no_str (by rfl : bootBuiltins "str" = some (.type "str")) rfl) pa_nil))) (nomark _)) (pe_one (pe_cmpR (op_eqD hr.units) (pv 0) (pv 1) (nomark _)))))) pss_nil) fun _ _ => cutE (ps_ret (pe_and (pe_cmpR op_eq (pe_callB (cI_lenK K rfl) rfl T.no_len (by rfl) (pa_cons (pv 0) pa_nil)) (pe_callB (cI_lenK K rfl) rfl T.no_len (by rfl) (pa_cons (pv 1) pa_nil)) (nomark _)) (pe_one (pe_callB (cI_allK K rfl rfl) rfl T.no_all (by rfl) (pa_cons (pe_comp (N := ["_law_one", "_law_other"]) (cap := [none, none]) rfl ⟨rfl, rfl, rfl, rfl, rfl, rfl⟩ (pi_zipS rfl T.no_zip (pa_cons (pv 0) (pa_cons (pv 1) pa_nil))) (fun _ _ _ => (pg_tupK (n := 2) K rfl rfl (pgs_cons (pg_name (i := 0) (show (["_law_one", "_law_other"] : List Str).Nodup by decide +kernel) rfl (Or.inl rfl)) (pgs_cons (pg_name (i := 1) (show (["_law_one", "_law_other"] : List Str).Nodup by decide +kernel) rfl (Or.inl rfl)) pgs_nil)))) (fun _ _ _ => pts_nil) (fun _ _ _ => (pe_call G_Lsame (hr.mono (by first | decide | omega)) rfl T.mg_Lsame T.F_Lsame.kp T.b_Lsame .nil pass0 (pa_cons (pv 0) (pa_cons (pv 1) pa_nil))))) pa_nil))))) fun _ _ => ?_
  walk_at "rd"
  refine rd_isi rx.ty (kit_bool d) ?_
  walk_at "rd"
  refine rd_isi ry.ty (kit_bool d) ?_
  walk_at "rd"
  rw [decide_eq_true rfl]
  walk_at "rd"
  refine rd_isi rx.ty (kit_int d) ?_
  walk_at "rd"
  refine rd_isi ry.ty (kit_int d) ?_
  walk_at "rd"
  rw [decide_eq_true rfl]
  walk_at "rd"
  refine rd_isi rx.ty (kit_list d) ?_
  walk_at "rd"
  refine rd_isi ry.ty (kit_list d) ?_
  walk_at "rd"
  rw [decide_eq_true rfl]
  walk_at "rd"
  refine rd_isi rx.ty (kit_tuple d) ?_
  walk_at "rd"
  refine rd_isi ry.ty (kit_tuple d) ?_
  walk_at "rd"
  rw [decide_eq_true rfl]
  walk_at "rd"
  refine rd_isi ry.ty (kit_list d) ?_
  walk_at "rd"
  rcases ok with sc | ⟨ds, rfl, hl, hS⟩ | ⟨ds, rfl, hl, hS⟩
  ·have e1 : isD "list" d = false := by rcases sc with ⟨i, rfl⟩ | ⟨b, rfl⟩ | rfl <;> simp [isD]
   have e2 : isD "tuple" d = false := by rcases sc with ⟨i, rfl⟩ | ⟨b, rfl⟩ | rfl <;> simp [isD]
   rw [e1]
   walk_at "rd"
   refine rd_isi ry.ty (kit_tuple d) ?_
   rw [e2]
   walk_at "rd"
   refine rd_isi rx.ty (kit_str d) ?_
   walk_at "rd"
   refine rd_isi ry.ty (kit_str d) ?_
   walk_at "rd"
   rw [decide_eq_true rfl]
   walk_at "rd"
   have sd : SeqAt.shaped d = true := by rcases sc with ⟨i, rfl⟩ | ⟨b, rfl⟩ | rfl <;> rfl
   refine ⟨d, d, rx, ry, sd, sd, ?_⟩
   have e3 : PyData.eqv d d = true := by rcases sc with ⟨i, rfl⟩ | ⟨b, rfl⟩ | rfl <;> simp [PyData.eqv]
   rw [e3]
   exact k _ (Same.refl _)
  ·have e1 : isD "list" (.list ds) = true := by simp [isD]
   rw [e1]
   simp only [Rep] at rx ry
   obtain ⟨a, xs, rfl, ha, ra⟩ := rx
   obtain ⟨b, ys, rfl, hb, rb⟩ := ry
   obtain ⟨l1, g1⟩ := repL_get ra
   obtain ⟨l2, g2⟩ := repL_get rb
   walk_at "rd"
   refine rd_lenL ha ?_
   walk_at "rd"
   refine rd_lenL hb ?_
   walk_at "rd"
   rw [decide_eq_true (by omega : (xs.length : Int) = ys.length)]
   walk_at "rd"
   refine ⟨a, b, rfl, .inl ⟨⟨_, SqL.of ha⟩, ⟨_, SqL.of hb⟩, fun l hn => ?_⟩⟩
   refine compW_zip5 (fun _ => .bl true) ha hb (by omega) (by omega) hn (fun i x y H' Q' ex ey s1 q => ?_) (fun H' s1 e => ?_)
   ·walk_at "rd"
    obtain ⟨d, hd, rd⟩ := g1 i x ex
    obtain ⟨d', hd', rd'⟩ := g2 i y ey
    rw [hd] at hd'
    cases hd'
    exact ⟨x, y, d, rfl, hS d (List.mem_of_getElem? hd), rd.mono s1, rd'.mono s1, q⟩
   ·walk_at "rd"
    have e' : H' l = some (.lst (((List.range xs.length).map fun _ => true).map V.bl)) := by rw [e, List.map_map]; rfl
    refine rd_all e' ?_
    have e4 : ((List.range xs.length).map fun _ => true).all id = true := by simp
    rw [e4]
    exact k H' s1
  ·have e1 : isD "list" (.tuple ds) = false := by simp [isD]
   have e2 : isD "tuple" (.tuple ds) = true := by simp [isD]
   rw [e1]
   walk_at "rd"
   refine rd_isi ry.ty (kit_tuple _) ?_
   rw [e2]
   simp only [Rep] at rx ry
   obtain ⟨a, xs, rfl, ha, ra⟩ := rx
   obtain ⟨b, ys, rfl, hb, rb⟩ := ry
   obtain ⟨l1, g1⟩ := repL_get ra
   obtain ⟨l2, g2⟩ := repL_get rb
   walk_at "rd"
   refine rd_lenT ha ?_
   walk_at "rd"
   refine rd_lenT hb ?_
   walk_at "rd"
   rw [decide_eq_true (by omega : (xs.length : Int) = ys.length)]
   walk_at "rd"
   refine ⟨a, b, rfl, .inr ⟨⟨_, SqT.of ha⟩, ⟨_, SqT.of hb⟩, fun l hn => ?_⟩⟩
   refine compW_zipT5 (fun _ => .bl true) ha hb (by omega) (by omega) hn (fun i x y H' Q' ex ey s1 q => ?_) (fun H' s1 e => ?_)
   ·walk_at "rd"
    obtain ⟨d, hd, rd⟩ := g1 i x ex
    obtain ⟨d', hd', rd'⟩ := g2 i y ey
    rw [hd] at hd'
    cases hd'
    exact ⟨x, y, d, rfl, hS d (List.mem_of_getElem? hd), rd.mono s1, rd'.mono s1, q⟩
   ·walk_at "rd"
    have e' : H' l = some (.lst (((List.range xs.length).map fun _ => true).map V.bl)) := by rw [e, List.map_map]; rfl
    refine rd_all e' ?_
    have e4 : ((List.range xs.length).map fun _ => true).all id = true := by simp
    rw [e4]
    exact k H' s1
def Ok5 : PyData → Prop := OkS (OkS (OkS (OkS (OkS fun _ => False))))
theorem ok_Lsame (T : Txt K mg t) : FnOk P w K mg base CX0 5 t.f_Lsame t.d_Lsame ["_law_told", "_law_due"] (sp_same Ok5) :=
 same_step T (same_step T (same_step T (same_step T (same_step T ⟨fun vs H Q E h => (by obtain ⟨_, _, _, _, h, _⟩ := h; exact h.elim), fun A outer s H args us vs Q E _ _ _ _ h => (by obtain ⟨_, _, _, _, h, _⟩ := h; exact h.elim)⟩))))
theorem okS_int {S : PyData → Prop} (i : Int) : OkS S (.int i) := .inl (.inl ⟨i, rfl⟩)
end
def ptD (q : Int × Int) : PyData := .tuple [.int q.1, .int q.2]
theorem rep_pt {H : Hp} {v : V} {q : Int × Int} (h : Pt H v q) : Rep H (ptD q) v := by
 obtain ⟨a, rfl, ha⟩ := h
 unfold ptD
 simp only [Rep, RepL]
 exact ⟨a, _, rfl, ha, _, _, rfl, rfl, _, _, rfl, rfl, rfl⟩
theorem repL_pts {H : Hp} : ∀ {xs : List V} {ps : List (Int × Int)}, PwPt H xs ps → RepL H (ps.map ptD) xs
 | [], [], _ => by simp only [List.map_nil, RepL]
 | [], _ :: _, h => by have := h.1; simp at this
 | _ :: _, [], h => by have := h.1; simp at this
 | v :: xs, p :: ps, h => by
  obtain ⟨v', r, e, h1, h2⟩ := h.inv
  cases e
  simp only [List.map_cons, RepL]
  exact ⟨v, xs, rfl, rep_pt h1, repL_pts h2⟩
theorem rep_pts {H : Hp} {l : Addr} {xs : List V} {ps : List (Int × Int)} (e : H l = some (.lst xs)) (h : PwPt H xs ps) : Rep H (.list (ps.map ptD)) (.ref l) := by
 simp only [Rep]
 exact ⟨l, xs, rfl, e, repL_pts h⟩
theorem lay_pts : ∀ ps : List (Int × Int), PyData.canLayAll0 (ps.map ptD) = true
 | [] => rfl
 | _ :: r => by simp [PyData.canLayAll0, PyData.canLay0, ptD, lay_pts r]
theorem deep_pts : ∀ ps : List (Int × Int), PyData.depthAll (ps.map ptD) ≤ 1
 | [] => Nat.zero_le _
 | q :: r => by
  have := deep_pts r
  have e : PyData.depth (ptD q) ≤ 1 := by simp [ptD, PyData.depth, PyData.depthAll]
  simp only [List.map_cons, PyData.depthAll]
  omega
theorem shp_pts (ps : List (Int × Int)) : SeqAt.shaped (.list (ps.map ptD)) = true := by
 unfold SeqAt.shaped
 rw [Bool.and_eq_true]
 refine ⟨by simp only [PyData.canLay0]; exact lay_pts ps, decide_eq_true ?_⟩
 have := deep_pts ps
 simp only [PyData.depth]
 omega
section
variable {P : Program} {w : World} {K : PySem.W.Frag} {mg : Str → Option Value} {base : Heap} {t : Ad}
def sp_Lsewn : Sp := fun vs H Q _ => ∃ (q : Addr) (w : Str) (k st s : Int) (cs rs bs : List Int), vs = [.ref q, .str w, .int k, .int st] ∧ PlanAt true H q s cs rs ∧ IsWay w cs rs bs ∧ 0 ≤ k ∧ k < bs.length ∧ Q (.bl (decide ((st + bs.getD k.toNat 0) % 2 = 1))) H
theorem cr_ne : ¬ (("col" : Str) = "row") := by decide +kernel
theorem ok_Lsewn (T : Txt K mg t) : FnOk P w K mg base CX0 1 t.f_Lsewn t.d_Lsewn ["_law_plan_here", "_law_way", "_law_k", "_law_step"] sp_Lsewn := by
 refine T.F_Lsewn.ok sc_Lsewn (fun vs H Q E h => ?_) (fun cdv A outer s H vs Q E hr h => ?_)
 ·obtain ⟨q, w, k, st, s, cs, rs, bs, rfl, _⟩ := h; rfl
 ·obtain ⟨q, w, k, st, s, cs, rs, bs, rfl, pl, hw, h0, h1, z⟩ := h
  obtain ⟨⟨c, r, hq, hc, hr'⟩, sh, bc, br⟩ := id pl
  refine cutC (ps_set (i := 4) sc_Lsewn.nd rfl (Or.inl rfl) (pe_ix (ix_tupK K rfl) (pv 0) pe_int (fun _ _ => rfl))) fun _ _ => cutC (ps_if (pt_cmpR op_eq (pv 1) pe_str (nomark _)) (pss_one (ps_set (i := 4) sc_Lsewn.nd rfl (Or.inl rfl) (pe_ix (ix_tupK K rfl) (pv 0) pe_int (fun _ _ => rfl)))) pss_nil) fun _ _ => cutE (ps_ret (pe_cmpR op_eq (pe_op op_mod (pe_op op_add (pv 3) (pe_ix (ix_listK K rfl) (pv 4) (pv 2) (fun _ _ => rfl))) pe_int) pe_int (nomark _))) fun _ _ => ?_
  walk_at "rd"
  refine rd_ixT (SqT.of hq) (v := .ref c) rfl ?_
  walk_at "rd"
  rcases hw with ⟨rfl, rfl⟩ | ⟨rfl, rfl⟩
  ·rw [decide_eq_false cr_ne]
   walk_at "rd"
   refine rd_ixL (SqL.of hc) (atI_ints h0 h1) ?_
   walk_at "rd"
   refine rd_I (by decide) ?_
   walk_at "rd"
   exact z
  ·rw [decide_eq_true (rfl : ("row" : Str) = "row")]
   walk_at "rd"
   refine rd_ixT (SqT.of hq) (v := .ref r) rfl ?_
   walk_at "rd"
   refine rd_ixL (SqL.of hr') (atI_ints h0 h1) ?_
   walk_at "rd"
   refine rd_I (by decide) ?_
   walk_at "rd"
   exact z
end
section
variable {P : Program} {w : World} {K : PySem.W.Frag} {mg : Str → Option Value} {base : Heap} {t : Ad}
structure StpAt (H : Hp) (d : Addr) (qs : List (Int × Int)) (ds : List Nat) : Prop where
 ob : ∃ kvs : List (List Key × V), H d = some (.dT kvs) ∧ KeysAre kvs qs ∧ ∀ (j : Nat) k v, kvs[j]? = some (k, v) → ∃ n, ds[j]? = some n ∧ v = .int ((n : Nat) : Int)
theorem StpAt.mono {H H' : Hp} {d : Addr} {qs : List (Int × Int)} {ds : List Nat} (h : StpAt H d qs ds) (s : Same H H') : StpAt H' d qs ds := by
 obtain ⟨kvs, h1, h2, h3⟩ := h.ob
 exact ⟨kvs, s _ _ h1, h2, h3⟩
theorem ky_nodup {kvs : List (List Key × V)} {qs : List (Int × Int)} (h : KeysAre kvs qs) (nd : qs.Nodup) : (kvs.map (·.1)).Nodup := by
 rw [show kvs.map (·.1) = qs.map ky from h]
 unfold List.Nodup
 rw [List.pairwise_map]
 exact List.Pairwise.imp (fun {a b} (hne : a ≠ b) z => hne (ky_inj z)) nd
theorem StpAt.val {H : Hp} {d : Addr} {qs : List (Int × Int)} {ds : List Nat} {kvs : List (List Key × V)} (h : StpAt H d qs ds) (e : H d = some (.dT kvs)) (nd : qs.Nodup) {i : Nat} {c : Int × Int} {n : Nat} (hc : qs[i]? = some c) (hn : ds[i]? = some n) : valV kvs (ky c) = some (.int ((n : Nat) : Int)) := by
 obtain ⟨kvs', h1, h2, h3⟩ := h.ob
 rw [e] at h1
 cases h1
 have li : i < kvs.length := by rw [h2.len]; exact (List.getElem?_eq_some_iff.mp hc).1
 have hk : (kvs.map (·.1))[i]? = some (ky c) := by rw [show kvs.map (·.1) = qs.map ky from h2, List.getElem?_map, hc]; rfl
 rw [List.getElem?_map, List.getElem?_eq_getElem li] at hk
 obtain ⟨n', q1, q2⟩ := h3 i _ _ (List.getElem?_eq_getElem li)
 rw [hn] at q1
 cases q1
 refine valV_at (i := i) (ky_nodup h2 nd) ?_
 rw [List.getElem?_eq_getElem li]
 injection hk with hk
 rw [← hk, ← q2]
 rfl
theorem StpAt.put {H : Hp} {d : Addr} {qs : List (Int × Int)} {ds : List Nat} {kvs : List (List Key × V)} {c : Int × Int} {n : Nat} (h : StpAt H d qs ds) (e : H d = some (.dT kvs)) (ld : ds.length = qs.length) (hn : c ∉ qs) : StpAt (L2.upd H d (.dT (putK kvs (ky c) (.int ((n : Nat) : Int))))) d (qs ++ [c]) (ds ++ [n]) := by
 obtain ⟨kvs', h1, h2, h3⟩ := h.ob
 rw [e] at h1
 cases h1
 have hv : valV kvs (ky c) = none := by
  have := h2.val c
  rw [decide_eq_false hn] at this
  cases z : valV kvs (ky c) with
  | none => rfl
  | some y => rw [z] at this; cases this
 have lk := h2.len
 refine ⟨_, upd_same, h2.put hn, fun j k v ej => ?_⟩
 rw [putK_new _ hv] at ej
 rcases Bf.at_snoc ej with ⟨hj, ej⟩ | ⟨hj, ej⟩
 ·obtain ⟨n', q1, q2⟩ := h3 j k v ej
  exact ⟨n', Bf.at_app q1, q2⟩
 ·cases ej
  exact ⟨n, by rw [hj, lk, ← ld]; exact Bf.at_end, rfl⟩
def b4 (cs rs : List Int) (x y : Int) : List ((Int × Int) × Bool) := [((x + 1, y), bR cs x y), ((x - 1, y), bL cs x y), ((x, y + 1), bU rs x y), ((x, y - 1), bD rs x y)]
def dn4 (g : List ((Int × Int) × Bool)) : List (Int × Int) := (g.filter (·.2)).map (·.1)
theorem b4_mem {cs rs : List Int} {x y : Int} {u : (Int × Int) × Bool} (h : u ∈ b4 cs rs x y) (hu : u.2 = true) : u.1 ∈ bs cs rs (x, y) := by
 unfold b4 at h
 simp only [List.mem_cons, List.not_mem_nil, or_false] at h
 rw [mem_bs]
 rcases h with rfl | rfl | rfl | rfl
 ·exact .inr (.inr (.inr ⟨hu, rfl⟩))
 ·exact .inl ⟨hu, rfl⟩
 ·exact .inr (.inr (.inl ⟨hu, rfl⟩))
 ·exact .inr (.inl ⟨hu, rfl⟩)
theorem b4_all {cs rs : List Int} {x y : Int} {c : Int × Int} (h : c ∈ bs cs rs (x, y)) : c ∈ dn4 (b4 cs rs x y) := by
 unfold dn4 b4
 rw [List.mem_map]
 rcases mem_bs.mp h with ⟨z, rfl⟩ | ⟨z, rfl⟩ | ⟨z, rfl⟩ | ⟨z, rfl⟩
 ·exact ⟨((x - 1, y), bL cs x y), List.mem_filter.mpr ⟨by simp, z⟩, rfl⟩
 ·exact ⟨((x, y - 1), bD rs x y), List.mem_filter.mpr ⟨by simp, z⟩, rfl⟩
 ·exact ⟨((x, y + 1), bU rs x y), List.mem_filter.mpr ⟨by simp, z⟩, rfl⟩
 ·exact ⟨((x + 1, y), bR cs x y), List.mem_filter.mpr ⟨by simp, z⟩, rfl⟩
def sp_Lflood : Sp := fun vs H Q _ => ∃ (q a : Addr) (g : Int × Int) (s : Int) (cs rs : List Int), vs = [.ref q, .ref a] ∧ PlanAt true H q s cs rs ∧ H a = some (.tup [.int g.1, .int g.2]) ∧ inC cs rs g ∧
 ∀ d qs ps ds H', Same H H' → H d = none → StpAt H' d qs ds → Bf.St (bs cs rs) g qs ps ds qs.length [] → Q (.ref d) H'
theorem ok_Lflood (T : Txt K mg t) : FnOk P w K mg base CX0 2 t.f_Lflood t.d_Lflood ["_law_plan_here", "_law_cell"] sp_Lflood := by
  have G_Lsewn := ok_Lsewn (P := P) (w := w) (base := base) T
  refine T.F_Lflood.ok sc_Lflood (fun vs H Q E h => ?_) (fun cdv A outer s H vs Q E hr h => ?_)
  · obtain ⟨q, a, g, s, cs, rs, rfl, _⟩ := h; rfl
  · obtain ⟨q, a, g, s, cs, rs, rfl, pl, ha, hin, k⟩ := h
    obtain ⟨⟨c, r, hq, hc, hr'⟩, sh, bc, br⟩ := id pl
    have lc := bc.1
    have lr := br.1
    refine cutC (ps_set (i := 2) sc_Lflood.nd rfl (Or.inl rfl) (pe_op op_add (pe_callB (cI_lenK K rfl) rfl T.no_len (by rfl) (pa_cons (pe_ix (ix_tupK K rfl) (pv 0) pe_int (fun _ _ => rfl)) pa_nil)) pe_int)) fun _ _ => cutC (ps_set (i := 3) sc_Lflood.nd rfl (Or.inl rfl) (pe_op op_add (pe_callB (cI_lenK K rfl) rfl T.no_len (by rfl) (pa_cons (pe_ix (ix_tupK K rfl) (pv 0) pe_int (fun _ _ => rfl)) pa_nil)) pe_int)) fun _ _ => cutC (ps_set (i := 4) sc_Lflood.nd rfl (Or.inl rfl) (pe_lst (pa_cons (pv 1) pa_nil))) fun _ _ => cutC (ps_set (i := 5) sc_Lflood.nd rfl (Or.inl rfl) (pe_disp1 (hu_of hr) (pv 1) pe_int)) fun _ _ => cutC (ps_set (i := 6) sc_Lflood.nd rfl (Or.inl rfl) pe_int) fun _ _ => cutC (ps_while PassesOwn.never (pt_cmpR op_lt (pv 6) (pe_callB (cI_lenK K rfl) rfl T.no_len (by rfl) (pa_cons (pv 4) pa_nil)) (nomark _)) (pss_cons (ps_asg (pe_ix (ix_listK K rfl) (pv 4) (pv 6) (fun _ _ => rfl)) (pg_tupK (n := 2) K rfl rfl (pgs_cons (pg_name (i := 7) sc_Lflood.nd rfl (Or.inl rfl)) (pgs_cons (pg_name (i := 8) sc_Lflood.nd rfl (Or.inl rfl)) pgs_nil)))) (pss_cons (ps_for PassesOwn.never rfl (pi_list (pe_lst (pa_cons (pe_tup (pa_cons (pe_tup (pa_cons (pe_op op_add (pv 7) pe_int) (pa_cons (pv 8) pa_nil))) (pa_cons (pe_hold (pe_and (pe_cmpR op_lt (pe_op op_add (pv 7) pe_int) (pv 2) (nomark _)) (pe_one (pe_not (pe_call G_Lsewn (hr.mono (by first | decide | omega)) rfl T.mg_Lsewn T.F_Lsewn.kp T.b_Lsewn .nil pass0 (pa_cons (pv 0) (pa_cons pe_str (pa_cons (pv 7) (pa_cons (pv 8) pa_nil))))))))) pa_nil))) (pa_cons (pe_tup (pa_cons (pe_tup (pa_cons (pe_op op_sub (pv 7) pe_int) (pa_cons (pv 8) pa_nil))) (pa_cons (pe_hold (pe_and (pe_cmpR op_gt (pv 7) pe_int (nomark _)) (pe_one (pe_not (pe_call G_Lsewn (hr.mono (by first | decide | omega)) rfl T.mg_Lsewn T.F_Lsewn.kp T.b_Lsewn .nil pass0 (pa_cons (pv 0) (pa_cons pe_str (pa_cons (pe_op op_sub (pv 7) pe_int) (pa_cons (pv 8) pa_nil))))))))) pa_nil))) (pa_cons (pe_tup (pa_cons (pe_tup (pa_cons (pv 7) (pa_cons (pe_op op_add (pv 8) pe_int) pa_nil))) (pa_cons (pe_hold (pe_and (pe_cmpR op_lt (pe_op op_add (pv 8) pe_int) (pv 3) (nomark _)) (pe_one (pe_not (pe_call G_Lsewn (hr.mono (by first | decide | omega)) rfl T.mg_Lsewn T.F_Lsewn.kp T.b_Lsewn .nil pass0 (pa_cons (pv 0) (pa_cons pe_str (pa_cons (pv 8) (pa_cons (pv 7) pa_nil))))))))) pa_nil))) (pa_cons (pe_tup (pa_cons (pe_tup (pa_cons (pv 7) (pa_cons (pe_op op_sub (pv 8) pe_int) pa_nil))) (pa_cons (pe_hold (pe_and (pe_cmpR op_gt (pv 8) pe_int (nomark _)) (pe_one (pe_not (pe_call G_Lsewn (hr.mono (by first | decide | omega)) rfl T.mg_Lsewn T.F_Lsewn.kp T.b_Lsewn .nil pass0 (pa_cons (pv 0) (pa_cons pe_str (pa_cons (pe_op op_sub (pv 8) pe_int) (pa_cons (pv 7) pa_nil))))))))) pa_nil))) pa_nil)))))) (pg_tupK (n := 2) K rfl rfl (pgs_cons (pg_name (i := 9) sc_Lflood.nd rfl (Or.inl rfl)) (pgs_cons (pg_name (i := 10) sc_Lflood.nd rfl (Or.inl rfl)) pgs_nil))) (pss_one (ps_join (ps_if (PW.pt (pw_and (pt_val (pv 10)) (pw_and1 (pt_cmp (pc_dnotin (hu_of hr) (pv 9) (pv 5)))))) (pss_cons (ps_dput (hu_of hr) (pv 5) (pv 9) (pe_op op_add (pe_dget (hu_of hr) (pv 5) (pe_ix (ix_listK K rfl) (pv 4) (pv 6) (fun _ _ => rfl)) (fun _ _ => rfl)) pe_int) rfl) (pss_one (ps_expr (pe_bm PySem.F.plainAttrs_list PySem.F.slot_list_append PySem.F.type_list_append mt_append (pv 4) (pa_cons (pv 9) pa_nil))))) pss_nil)))) (pss_one (ps_aug (i := 6) sc_Lflood.nd rfl (Or.inl rfl) pe_int ip_add))))) fun _ _ => cutE (ps_ret (pv 5)) fun _ _ => ?_
    walk_at "rdf"
    refine rd_ixT (SqT.of hq) (v := .ref c) rfl ?_
    walk_at "rdf"
    refine rd_lenL hc ?_
    rw [List.length_map]
    walk_at "rdf"
    refine rd_ixT (SqT.of hq) (v := .ref r) rfl ?_
    walk_at "rdf"
    refine rd_lenL hr' ?_
    rw [List.length_map]
    walk_at "rdf"
    refine ⟨by show 1 ≤ sizeLine; decide, fun l nl => ?_⟩
    have sl := Same.new (o := HO.lst [V.ref a]) nl
    have el := upd_same (H := H) (a := l) (o := HO.lst [V.ref a])
    generalize upd H l (HO.lst [V.ref a]) = H0 at sl el ⊢
    walk_at "rdf"
    intro d nd
    have nd0 : H d = none := sl.free nd
    have dl : d ≠ l := fun z => by rw [z, el] at nd; cases nd
    walk_at "rdf"
    refine ⟨a, ky g, .int 0, rfl, Same.new nd _ _ (sl _ _ ha), upd_same, ?_⟩
    rw [upd_upd]
    have s1 := sl.trans (Same.new (o := HO.dT [(ky g, V.int 0)]) nd)
    have e1 := upd_same (H := H0) (a := d) (o := HO.dT [(ky g, V.int 0)])
    have el := (Same.new (o := HO.dT [(ky g, V.int 0)]) nd) _ _ el
    generalize upd H0 d (HO.dT [(ky g, V.int 0)]) = H1 at s1 e1 el ⊢
    walk_at "rdf"
    refine ⟨fun m σ' H' => ∃ (i : Nat) (qs : List (Int × Int)) (ps ds : List Nat) (xs : List V) (o7 o8 o9 o10 : Option V), m = 1601 - i ∧ i ≤ qs.length ∧ σ' = [some (.ref q), some (.ref a), some (.int ((cs.length : Nat) + 1)), some (.int ((rs.length : Nat) + 1)), some (.ref l), some (.ref d), some (.int (i : Nat)), o7, o8, o9, o10] ∧ Same H H' ∧ H' l = some (.lst xs) ∧ PwPt H' xs qs ∧ StpAt H' d qs ds ∧ Bf.St (bs cs rs) g qs ps ds i [],
      ⟨_, 0, [g], [0], [0], [V.ref a], none, none, none, none, rfl, Nat.zero_le _, rfl, s1, el, PwPt.cons ⟨a, rfl, s1 _ _ ha⟩ PwPt.nil, ⟨_, e1, rfl, fun j k v ej => ?_⟩, Bf.St.start⟩, ?_⟩
    · cases j with
      | zero => cases ej; exact ⟨0, rfl, rfl⟩
      | succ j => simp at ej
    rintro m σ' H3 ⟨i, qs, ps, ds, xs, o7, o8, o9, o10, rfl, hi, rfl, s3, e3, px, on3, st3⟩
    have lq := inC_few (by omega) (by omega) st3.nd (st_in hin st3)
    walk_at "rdf"
    refine rd_lenL e3 ?_
    rw [px.1]
    walk_at "rdf"
    refine ite2 (fun c => ?_) (fun c => ?_)
    · have hi : i < qs.length := by have := of_decide_eq_true c; omega
      refine ⟨fun σ' H' => ∃ (qs : List (Int × Int)) (ps ds : List Nat) (xs : List V) (o7 o8 o9 o10 : Option V), i + 1 ≤ qs.length ∧ σ' = [some (.ref q), some (.ref a), some (.int ((cs.length : Nat) + 1)), some (.int ((rs.length : Nat) + 1)), some (.ref l), some (.ref d), some (.int ((i + 1 : Nat) : Int)), o7, o8, o9, o10] ∧ Same H H' ∧ H' l = some (.lst xs) ∧ PwPt H' xs qs ∧ StpAt H' d qs ds ∧ Bf.St (bs cs rs) g qs ps ds (i + 1) [], ?_, ?_⟩
      · rintro σ' H' ⟨qs', ps', ds', xs', o7, o8, o9, o10, hi', rfl, r⟩
        exact ⟨_, by omega, i + 1, qs', ps', ds', xs', o7, o8, o9, o10, rfl, hi', rfl, r⟩
      · obtain ⟨c0, hc0⟩ : ∃ c0, qs[i]? = some c0 := ⟨_, List.getElem?_eq_getElem hi⟩
        obtain ⟨d0, hd0⟩ : ∃ d0, ds[i]? = some d0 := ⟨_, List.getElem?_eq_getElem (by rw [st3.ld]; exact hi)⟩
        have hx : i < xs.length := by rw [px.1]; exact hi
        obtain ⟨b0, eb0, hb0⟩ := px.2 i _ c0 (List.getElem?_eq_getElem hx) hc0
        have ic0 := st_in hin st3 c0 (List.mem_of_getElem? hc0)
        have ib0 : atI xs ((i : Nat) : Int) = some (.ref b0) := atI_nat (by rw [List.getElem?_eq_getElem hx, eb0])
        obtain ⟨x, y⟩ := c0
        obtain ⟨⟨x0, x1⟩, y0, y1⟩ := id ic0
        dsimp only at hb0 x0 x1 y0 y1
        walk_at "rdf"
        refine rd_ixL (SqL.of e3) ib0 ?_
        refine rd_gtup hb0 rfl ?_
        walk_at "rdf"
        refine ⟨by show 2 ≤ sizeLine; decide, fun p0 np0 => ?_⟩
        have sp0 := Same.new (o := HO.tup [V.int (x + 1), V.int (y)]) np0
        have ep0 := upd_same (H := H3) (a := p0) (o := HO.tup [V.int (x + 1), V.int (y)])
        generalize upd H3 p0 (HO.tup [V.int (x + 1), V.int (y)]) = A0 at sp0 ep0 ⊢
        have SA0 := sp0
        walk_at "rdf"
        refine rd_andVB (decide (x + 1 < (cs.length : Int) + 1)) (!decide ((y + cs.getD (x).toNat 0) % 2 = 1)) (fun Q' q' => ?_) (fun hcc Q' q' => ?_) ?_
        · walk_at "rdf"
          exact q'
        · have hcc := of_decide_eq_true hcc
          walk_at "rdf"
          refine ⟨q, "col", x, y, s, cs, rs, cs, rfl, pl.mono (s3.trans SA0), .inl ⟨rfl, rfl⟩, by omega, by omega, ?_⟩
          walk_at "rdf"
          exact q'
        rw [show (decide (x + 1 < (cs.length : Int) + 1) && !decide ((y + cs.getD (x).toNat 0) % 2 = 1)) = bR cs x y from rfl]
        walk_at "rdf"
        refine ⟨by show 2 ≤ sizeLine; decide, fun u0 nu0 => ?_⟩
        have su0 := Same.new (o := HO.tup [V.ref p0, V.bl (bR cs x y)]) nu0
        have eu0 := upd_same (H := A0) (a := u0) (o := HO.tup [V.ref p0, V.bl (bR cs x y)])
        generalize upd A0 u0 (HO.tup [V.ref p0, V.bl (bR cs x y)]) = B0 at su0 eu0 ⊢
        have SB0 := SA0.trans su0
        walk_at "rdf"
        refine ⟨by show 2 ≤ sizeLine; decide, fun p1 np1 => ?_⟩
        have sp1 := Same.new (o := HO.tup [V.int (x - 1), V.int (y)]) np1
        have ep1 := upd_same (H := B0) (a := p1) (o := HO.tup [V.int (x - 1), V.int (y)])
        generalize upd B0 p1 (HO.tup [V.int (x - 1), V.int (y)]) = A1 at sp1 ep1 ⊢
        have SA1 := SB0.trans sp1
        walk_at "rdf"
        refine rd_andVB (decide (0 < x)) (!decide ((y + cs.getD (x - 1).toNat 0) % 2 = 1)) (fun Q' q' => ?_) (fun hcc Q' q' => ?_) ?_
        · walk_at "rdf"
          exact q'
        · have hcc := of_decide_eq_true hcc
          walk_at "rdf"
          refine ⟨q, "col", x - 1, y, s, cs, rs, cs, rfl, pl.mono (s3.trans SA1), .inl ⟨rfl, rfl⟩, by omega, by omega, ?_⟩
          walk_at "rdf"
          exact q'
        rw [show (decide (0 < x) && !decide ((y + cs.getD (x - 1).toNat 0) % 2 = 1)) = bL cs x y from rfl]
        walk_at "rdf"
        refine ⟨by show 2 ≤ sizeLine; decide, fun u1 nu1 => ?_⟩
        have su1 := Same.new (o := HO.tup [V.ref p1, V.bl (bL cs x y)]) nu1
        have eu1 := upd_same (H := A1) (a := u1) (o := HO.tup [V.ref p1, V.bl (bL cs x y)])
        generalize upd A1 u1 (HO.tup [V.ref p1, V.bl (bL cs x y)]) = B1 at su1 eu1 ⊢
        have SB1 := SA1.trans su1
        walk_at "rdf"
        refine ⟨by show 2 ≤ sizeLine; decide, fun p2 np2 => ?_⟩
        have sp2 := Same.new (o := HO.tup [V.int (x), V.int (y + 1)]) np2
        have ep2 := upd_same (H := B1) (a := p2) (o := HO.tup [V.int (x), V.int (y + 1)])
        generalize upd B1 p2 (HO.tup [V.int (x), V.int (y + 1)]) = A2 at sp2 ep2 ⊢
        have SA2 := SB1.trans sp2
        walk_at "rdf"
        refine rd_andVB (decide (y + 1 < (rs.length : Int) + 1)) (!decide ((x + rs.getD (y).toNat 0) % 2 = 1)) (fun Q' q' => ?_) (fun hcc Q' q' => ?_) ?_
        · walk_at "rdf"
          exact q'
        · have hcc := of_decide_eq_true hcc
          walk_at "rdf"
          refine ⟨q, "row", y, x, s, cs, rs, rs, rfl, pl.mono (s3.trans SA2), .inr ⟨rfl, rfl⟩, by omega, by omega, ?_⟩
          walk_at "rdf"
          exact q'
        rw [show (decide (y + 1 < (rs.length : Int) + 1) && !decide ((x + rs.getD (y).toNat 0) % 2 = 1)) = bU rs x y from rfl]
        walk_at "rdf"
        refine ⟨by show 2 ≤ sizeLine; decide, fun u2 nu2 => ?_⟩
        have su2 := Same.new (o := HO.tup [V.ref p2, V.bl (bU rs x y)]) nu2
        have eu2 := upd_same (H := A2) (a := u2) (o := HO.tup [V.ref p2, V.bl (bU rs x y)])
        generalize upd A2 u2 (HO.tup [V.ref p2, V.bl (bU rs x y)]) = B2 at su2 eu2 ⊢
        have SB2 := SA2.trans su2
        walk_at "rdf"
        refine ⟨by show 2 ≤ sizeLine; decide, fun p3 np3 => ?_⟩
        have sp3 := Same.new (o := HO.tup [V.int (x), V.int (y - 1)]) np3
        have ep3 := upd_same (H := B2) (a := p3) (o := HO.tup [V.int (x), V.int (y - 1)])
        generalize upd B2 p3 (HO.tup [V.int (x), V.int (y - 1)]) = A3 at sp3 ep3 ⊢
        have SA3 := SB2.trans sp3
        walk_at "rdf"
        refine rd_andVB (decide (0 < y)) (!decide ((x + rs.getD (y - 1).toNat 0) % 2 = 1)) (fun Q' q' => ?_) (fun hcc Q' q' => ?_) ?_
        · walk_at "rdf"
          exact q'
        · have hcc := of_decide_eq_true hcc
          walk_at "rdf"
          refine ⟨q, "row", y - 1, x, s, cs, rs, rs, rfl, pl.mono (s3.trans SA3), .inr ⟨rfl, rfl⟩, by omega, by omega, ?_⟩
          walk_at "rdf"
          exact q'
        rw [show (decide (0 < y) && !decide ((x + rs.getD (y - 1).toNat 0) % 2 = 1)) = bD rs x y from rfl]
        walk_at "rdf"
        refine ⟨by show 2 ≤ sizeLine; decide, fun u3 nu3 => ?_⟩
        have su3 := Same.new (o := HO.tup [V.ref p3, V.bl (bD rs x y)]) nu3
        have eu3 := upd_same (H := A3) (a := u3) (o := HO.tup [V.ref p3, V.bl (bD rs x y)])
        generalize upd A3 u3 (HO.tup [V.ref p3, V.bl (bD rs x y)]) = B3 at su3 eu3 ⊢
        have SB3 := SA3.trans su3
        walk_at "rdf"
        refine ⟨by show 4 ≤ sizeLine; decide, fun lo nlo => ?_⟩
        have slo := Same.new (o := HO.lst [V.ref u0, V.ref u1, V.ref u2, V.ref u3]) nlo
        have elo := upd_same (H := B3) (a := lo) (o := HO.lst [V.ref u0, V.ref u1, V.ref u2, V.ref u3])
        generalize upd B3 lo (HO.lst [V.ref u0, V.ref u1, V.ref u2, V.ref u3]) = H4 at slo elo ⊢
        have s4 := SB3.trans slo
        have four : ∀ (n : Nat) v u, [V.ref u0, V.ref u1, V.ref u2, V.ref u3][n]? = some v → (b4 cs rs x y)[n]? = some u → ∃ tt pp, v = .ref tt ∧ H4 tt = some (.tup [.ref pp, .bl u.2]) ∧ H4 pp = some (.tup [.int u.1.1, .int u.1.2]) := by
          intro n v u hv hu
          match n, hv, hu with
          | 0, hv, hu => cases hv; cases hu; exact ⟨u0, p0, rfl, slo _ _ (su3 _ _ (sp3 _ _ (su2 _ _ (sp2 _ _ (su1 _ _ (sp1 _ _ eu0)))))), slo _ _ (su3 _ _ (sp3 _ _ (su2 _ _ (sp2 _ _ (su1 _ _ (sp1 _ _ (su0 _ _ ep0)))))))⟩
          | 1, hv, hu => cases hv; cases hu; exact ⟨u1, p1, rfl, slo _ _ (su3 _ _ (sp3 _ _ (su2 _ _ (sp2 _ _ eu1)))), slo _ _ (su3 _ _ (sp3 _ _ (su2 _ _ (sp2 _ _ (su1 _ _ ep1)))))⟩
          | 2, hv, hu => cases hv; cases hu; exact ⟨u2, p2, rfl, slo _ _ (su3 _ _ (sp3 _ _ eu2)), slo _ _ (su3 _ _ (sp3 _ _ (su2 _ _ ep2)))⟩
          | 3, hv, hu => cases hv; cases hu; exact ⟨u3, p3, rfl, slo _ _ eu3, slo _ _ (su3 _ _ ep3)⟩
          | n + 4, hv, hu => simp at hv
        walk_at "rdf"
        refine ⟨⟨_, SqL.of elo⟩, ?_⟩
        have nlo0 : H lo = none := (s3.trans SB3).free nlo
        have dlo : lo ≠ d ∧ lo ≠ l := by
          obtain ⟨kvs, z, _⟩ := on3.ob
          have z := SB3 _ _ z
          have z2 := SB3 _ _ e3
          exact ⟨fun q => (by rw [q, z] at nlo; cases nlo), fun q => (by rw [q, z2] at nlo; cases nlo)⟩
        refine forW_list (K := K) (a := lo) (xs := [V.ref u0, V.ref u1, V.ref u2, V.ref u3]) (fun n σ' H' => ∃ (qs : List (Int × Int)) (ps ds : List Nat) (xs : List V) (o9 o10 : Option V), σ' = [some (.ref q), some (.ref a), some (.int ((cs.length : Nat) + 1)), some (.int ((rs.length : Nat) + 1)), some (.ref l), some (.ref d), some (.int (i : Nat)), some (.int x), some (.int y), o9, o10] ∧ Same H H' ∧ ButL [d, l] H4 H' ∧ H' lo = some (.lst [V.ref u0, V.ref u1, V.ref u2, V.ref u3]) ∧ H' l = some (.lst xs) ∧ PwPt H' xs qs ∧ StpAt H' d qs ds ∧ qs[i]? = some (x, y) ∧ ds[i]? = some d0 ∧ Bf.St (bs cs rs) g qs ps ds i (dn4 ((b4 cs rs x y).take n)))
          ⟨qs, ps, ds, xs, o9, o10, rfl, s3.trans s4, ButL.refl _ _, elo, s4 _ _ e3, px.mono s4, on3.mono s4, hc0, hd0, st3⟩ (fun n σ' H' _ ⟨_, _, _, _, _, _, _, _, _, z, _⟩ => SqL.of z) ?_ ?_
        · rintro n v σ' H5 hv ⟨qs, ps, ds, xs, o9, o10, rfl, s5, m5, e5, l5, px5, on5, hc5, hd5, st5⟩
          have hn : n < 4 := (List.getElem?_eq_some_iff.mp hv).1
          obtain ⟨u, hu⟩ : ∃ u, (b4 cs rs x y)[n]? = some u := ⟨_, List.getElem?_eq_getElem (show n < (b4 cs rs x y).length from hn)⟩
          obtain ⟨tt, pp, rfl, g1, g2⟩ := four n v u hv hu
          have tk : (b4 cs rs x y).take (n + 1) = (b4 cs rs x y).take n ++ [u] := by rw [List.take_add_one, hu]; rfl
          have hum := List.mem_of_getElem? hu
          have lq5 := inC_few (by omega) (by omega) st5.nd (st_in hin st5)
          obtain ⟨kvs, ed, ke, kv⟩ := id on5.ob
          have nT5 : ∀ z ∈ [d, l], ∀ ys, H4 z ≠ some (.tup ys) := fun z hz ys => by
            have e3' := s4 _ _ e3
            obtain ⟨kvs', ed', _⟩ := (on3.mono s4).ob
            simp only [List.mem_cons, List.not_mem_nil, or_false] at hz
            rcases hz with rfl | rfl
            · rw [ed']; intro z; cases z
            · rw [e3']; intro z; cases z
          have h1 := m5 _ _ g1 (fun z => nT5 _ z _ g1)
          have h2 := m5 _ _ g2 (fun z => nT5 _ z _ g2)
          refine rd_gtup h1 rfl ?_
          walk_at "rdf"
          have dnk : dn4 ((b4 cs rs x y).take (n + 1)) = dn4 ((b4 cs rs x y).take n) ++ if u.2 = true then [u.1] else [] := by
            rw [tk]
            unfold dn4
            rw [List.filter_append, List.map_append, List.filter_cons]
            cases u.2 <;> rfl
          rw [dnk]
          obtain ⟨cc, gg⟩ := u
          dsimp only at h1 h2 hum ⊢
          refine rd_join (fun σ' H' => ∃ (qs : List (Int × Int)) (ps ds : List Nat) (xs : List V), σ' = [some (.ref q), some (.ref a), some (.int ((cs.length : Nat) + 1)), some (.int ((rs.length : Nat) + 1)), some (.ref l), some (.ref d), some (.int (i : Nat)), some (.int x), some (.int y), some (.ref pp), some (.bl gg)] ∧ Same H H' ∧ ButL [d, l] H4 H' ∧ H' lo = some (.lst [V.ref u0, V.ref u1, V.ref u2, V.ref u3]) ∧ H' l = some (.lst xs) ∧ PwPt H' xs qs ∧ StpAt H' d qs ds ∧ qs[i]? = some (x, y) ∧ ds[i]? = some d0 ∧ Bf.St (bs cs rs) g qs ps ds i (dn4 ((b4 cs rs x y).take n) ++ if gg = true then [cc] else [])) ?_ ?_
          · walk_at "rdf"
            cases gg with
            | false =>
              walk_at "rdf"
              exact ⟨qs, ps, ds, xs, rfl, s5, m5, e5, l5, px5, on5, hc5, hd5, by rw [if_neg (by decide), List.append_nil]; exact st5⟩
            | true =>
              rw [if_pos rfl]
              walk_at "rdf"
              refine ⟨d, _, rfl, DGet.t (k := ky cc) ed h2, ?_⟩
              rw [ke.val]
              by_cases hm : cc ∈ qs
              · rw [decide_eq_true hm]
                walk_at "rdf"
                exact ⟨qs, ps, ds, xs, rfl, s5, m5, e5, l5, px5, on5, hc5, hd5, st5.skip hm⟩
              · rw [decide_eq_false hm]
                have hx5 : i < xs.length := by rw [px5.1]; exact (List.getElem?_eq_some_iff.mp hc5).1
                obtain ⟨b5, eb5, hb5⟩ := px5.2 i _ (x, y) (List.getElem?_eq_getElem hx5) hc5
                have ib5 : atI xs ((i : Nat) : Int) = some (.ref b5) := atI_nat (by rw [List.getElem?_eq_getElem hx5, eb5])
                walk_at "rdf"
                refine rd_ixL (SqL.of l5) ib5 ?_
                walk_at "rdf"
                refine rd_dgetT (k := ky (x, y)) ed hb5 (on5.val ed st5.nd hc5 hd5) ?_
                walk_at "rdf"
                refine ⟨d, _, rfl, DPut.t (k := ky cc) ed h2 ?_, ?_⟩
                · have := ke.len
                  exact small1000' (by omega)
                rw [show ((d0 : Nat) : Int) + 1 = ((d0 + 1 : Nat) : Int) by omega]
                have on6 := on5.put (n := d0 + 1) ed st5.ld hm
                have lu : ∀ {u : Addr} {zs : List V}, H5 u = some (.lst zs) → upd H5 d (.dT (putK kvs (ky cc) (.int ((d0 + 1 : Nat) : Int)))) u = some (.lst zs) := fun {u zs} eu => (upd_ne (ne_of eu ed (by intro z; cases z))).trans eu
                have tu : ∀ {u : Addr} {zs : List V}, H5 u = some (.tup zs) → upd H5 d (.dT (putK kvs (ky cc) (.int ((d0 + 1 : Nat) : Int)))) u = some (.tup zs) := fun {u zs} eu => (upd_ne (ne_of eu ed (by intro z; cases z))).trans eu
                have s6 : Same H (upd H5 d (.dT (putK kvs (ky cc) (.int ((d0 + 1 : Nat) : Int))))) := s5.later nd0
                have m6 : ButL [d, l] H4 (upd H5 d (.dT (putK kvs (ky cc) (.int ((d0 + 1 : Nat) : Int))))) := m5.upd (by simp)
                have px6 := px5.upd (o := .dT (putK kvs (ky cc) (.int ((d0 + 1 : Nat) : Int)))) ed (by intro ys z; cases z)
                have e6 := lu e5
                have l6 := lu l5
                have h26 := tu h2
                generalize upd H5 d (.dT (putK kvs (ky cc) (.int ((d0 + 1 : Nat) : Int)))) = H6 at on6 s6 m6 px6 e6 l6 h26 ⊢
                walk_at "rdf"
                refine rd_bmL l6 ?_
                walk_at "rdf"
                refine rd_append l6 (by rw [px6.1]; exact small1000' (by omega)) ?_
                have nT : ∀ ys, HO.tup ys ≠ HO.lst xs := by intro ys z; cases z
                obtain ⟨kvs6, ed6, ke6, kv6⟩ := on6.ob
                refine ⟨qs ++ [cc], ps ++ [i], ds ++ [d0 + 1], xs ++ [.ref pp], rfl, s6.later nl, m6.upd (by simp), by rw [upd_ne dlo.2]; exact e6, upd_same, (px6.upd l6 nT).snoc (Pt.upd (q := cc) ⟨pp, rfl, h26⟩ l6 nT), ⟨kvs6, (upd_ne dl).trans ed6, ke6, kv6⟩, Bf.at_app hc5, Bf.at_app hd5, st5.add hc5 hd5 (b4_mem hum rfl) hm⟩
          · rintro σ' H6 ⟨qs, ps, ds, xs, rfl, r⟩
            exact ⟨qs, ps, ds, xs, _, _, rfl, r⟩
        · rintro σ' H5 ⟨qs, ps, ds, xs, o9, o10, rfl, s5, m5, e5, l5, px5, on5, hc5, hd5, st5⟩
          walk_at "rdf"
          exact ⟨qs, ps, ds, xs, _, _, _, _, (List.getElem?_eq_some_iff.mp hc5).1, rfl, s5, l5, px5, on5, st5.next hc5 fun c hc => b4_all hc⟩
    · have hi : i = qs.length := by
        have : ¬ ((i : Nat) : Int) < (qs.length : Nat) := fun z => c (decide_eq_true z)
        omega
      subst hi
      walk_at "rdf"
      exact k d qs ps ds H3 s3 nd0 on3 st3
end
section
theorem bs_sym {cs rs : List Int} {a b : Int × Int} (ha : inC cs rs a) (h : b ∈ bs cs rs a) : a ∈ bs cs rs b := by
 obtain ⟨x, y⟩ := a
 unfold inC at ha
 rw [mem_bs]
 rcases mem_bs.mp h with ⟨z, rfl⟩ | ⟨z, rfl⟩ | ⟨z, rfl⟩ | ⟨z, rfl⟩ <;> dsimp only at z ha ⊢
 ·obtain ⟨z1, z2⟩ := bL_iff.mp z
  exact .inr (.inr (.inr ⟨bR_iff.mpr ⟨by omega, z2⟩, by rw [Int.sub_add_cancel]⟩))
 ·obtain ⟨z1, z2⟩ := bD_iff.mp z
  exact .inr (.inr (.inl ⟨bU_iff.mpr ⟨by omega, z2⟩, by rw [Int.sub_add_cancel]⟩))
 ·obtain ⟨z1, z2⟩ := bU_iff.mp z
  exact .inr (.inl ⟨bD_iff.mpr ⟨by omega, by rw [Int.add_sub_cancel]; exact z2⟩, by rw [Int.add_sub_cancel]⟩)
 ·obtain ⟨z1, z2⟩ := bR_iff.mp z
  exact .inl ⟨bL_iff.mpr ⟨by omega, by rw [Int.add_sub_cancel]; exact z2⟩, by rw [Int.add_sub_cancel]⟩
theorem wk_back {cs rs : List Int} {a c : Int × Int} {m : Nat} (ha : inC cs rs a) (wk : Bf.Walk (bs cs rs) a c m) : Bf.Walk (bs cs rs) c a m := by
 induction wk with
 | here => exact .here
 | on w e ih => exact Bf.Walk.first (bs_sym (walk_in ha w) e) ih
structure Ch (cs rs : List Int) (c : Int × Int) (L : List (Int × Int)) : Prop where
 fst : L[0]? = some c
 nxt : ∀ (i : Nat) u v, L[i]? = some u → L[i + 1]? = some v → v ∈ bs cs rs u
theorem Ch.one {cs rs : List Int} {c : Int × Int} : Ch cs rs c ([] ++ [c]) := ⟨rfl, fun i u v _ h => by simp at h⟩
theorem Ch.on {cs rs : List Int} {c u v : Int × Int} {P : List (Int × Int)} (h : Ch cs rs c (P ++ [u])) (hv : v ∈ bs cs rs u) : Ch cs rs c (P ++ [u] ++ [v]) := by
 refine ⟨Bf.at_app h.fst, fun i a b h1 h2 => ?_⟩
 rcases Bf.at_snoc h2 with ⟨_, z2⟩ | ⟨z2, z3⟩
 ·rcases Bf.at_snoc h1 with ⟨_, z1⟩ | ⟨z1, _⟩
  ·exact h.nxt i a b z1 z2
  ·have := (List.getElem?_eq_some_iff.mp z2).1; omega
 ·subst z3
  rw [List.length_append, List.length_singleton] at z2
  have : i = P.length := by omega
  subst this
  have e : (P ++ [u])[P.length]? = some u := Bf.at_end
  rw [Bf.at_app e] at h1
  cases h1
  exact hv
theorem OnwAt.val {H : Hp} {d : Addr} {qs : List (Int × Int)} {ps : List Nat} {kvs : List (List Key × V)} (h : OnwAt H d qs ps) (e : H d = some (.dT kvs)) (nd : qs.Nodup) {j : Nat} {c : Int × Int} (hc : qs[j]? = some c) : ∃ v, valV kvs (ky c) = some v ∧ ((j = 0 ∧ v = .non) ∨ (0 < j ∧ ∃ b p c', ps[j]? = some p ∧ qs[p]? = some c' ∧ v = .ref b ∧ H b = some (.tup [.int c'.1, .int c'.2]))) := by
 obtain ⟨kvs', h1, h2, h3⟩ := h.ob
 rw [e] at h1
 cases h1
 have lj : j < kvs.length := by rw [h2.len]; exact (List.getElem?_eq_some_iff.mp hc).1
 have hk : (kvs.map (·.1))[j]? = some (ky c) := by rw [show kvs.map (·.1) = qs.map ky from h2, List.getElem?_map, hc]; rfl
 rw [List.getElem?_map, List.getElem?_eq_getElem lj] at hk
 injection hk with hk
 have ej : kvs[j]? = some (ky c, kvs[j].2) := by rw [List.getElem?_eq_getElem lj, ← hk]
 exact ⟨_, valV_at (ky_nodup h2 nd) ej, h3 j _ _ ej⟩
structure PathL (cs rs : List Int) (c d : Int × Int) (P : List (Int × Int)) : Prop where
 ch : Ch cs rs c P
 lst : P.getLast? = some d
 len : ∃ n, P.length = n + 1 ∧ Bf.Walk (bs cs rs) d c n ∧ ∀ m, Bf.Walk (bs cs rs) d c m → n ≤ m
 in_ : ∀ q ∈ P, inC cs rs q
 few : P.length ≤ 1601
end
section
variable {P : Program} {w : World} {K : PySem.W.Frag} {mg : Str → Option Value} {base : Heap} {t : Ad}
def sp_needcell (C : Addr) : Sp := fun vs H Q _ => ∃ (p : Addr) (x y s : Int) (cs rs : List Int), vs = [.ref p, .int x, .int y] ∧ ClothAt C H p s cs rs ∧ inC cs rs (x, y) ∧ Q .non H
theorem ok_needcell (T : Txt K mg t) : FnOk P w K mg base CX0 3 t.f_needcell t.d_needcell ["board", "x", "y"] (sp_needcell t.a_Cloth) :=
 (okx_needcell T).down fun vs H Q E hh => by
  obtain ⟨p, x, y, s, cs, rs, rfl, hc, hi, q⟩ := hh
  exact ⟨p, x, y, s, cs, rs, rfl, hc, .inl ⟨hi, q⟩⟩
def sp_path (C : Addr) : Sp := fun vs H Q _ => ∃ (p a b : Addr) (c d : Int × Int) (s : Int) (cs rs : List Int), vs = [.ref p, .ref a, .ref b] ∧ ClothAt C H p s cs rs ∧ cs.length ≤ 39 ∧ rs.length ≤ 39 ∧ H a = some (.tup [.int c.1, .int c.2]) ∧ H b = some (.tup [.int d.1, .int d.2]) ∧ inC cs rs c ∧ inC cs rs d ∧
 (∀ H', Same H H' → (¬ ∃ m, Bf.Walk (bs cs rs) d c m) → Q .non H') ∧
 ∀ l ys L H', Same H H' → H l = none → H' l = some (.lst ys) → PwPt H' ys L → PathL cs rs c d L → Q (.ref l) H'
theorem ok_path (T : Txt K mg t) : FnOk P w K mg base CX0 7 t.f_path t.d_path ["cloth", "one", "other"] (sp_path t.a_Cloth) := by
 have G_needcell := ok_needcell (P := P) (w := w) (base := base) T
 have G_waysto := ok_waysto (P := P) (w := w) (base := base) T
 refine T.F_path.ok sc_path (fun vs H Q E h => ?_) (fun cdv A outer s H vs Q E hr h => ?_)
 ·obtain ⟨p, a, b, c, d, s, cs, rs, rfl, _⟩ := h; rfl
 ·obtain ⟨p, a, b, c, d, s, cs, rs, rfl, hc, lc, lr, ha, hb, hic, hid, k0, k1⟩ := h
  refine cutC (ps_expr (pe_call G_needcell (hr.mono (by first | decide | omega)) rfl T.mg_needcell T.F_needcell.kp T.b_needcell .nil pass0 (pa_cons (pv 0) (pa_cons (pe_ix (ix_tupK K rfl) (pv 1) pe_int (fun _ _ => rfl)) (pa_cons (pe_ix (ix_tupK K rfl) (pv 1) pe_int (fun _ _ => rfl)) pa_nil))))) fun _ _ => cutC (ps_expr (pe_call G_needcell (hr.mono (by first | decide | omega)) rfl T.mg_needcell T.F_needcell.kp T.b_needcell .nil pass0 (pa_cons (pv 0) (pa_cons (pe_ix (ix_tupK K rfl) (pv 2) pe_int (fun _ _ => rfl)) (pa_cons (pe_ix (ix_tupK K rfl) (pv 2) pe_int (fun _ _ => rfl)) pa_nil))))) fun _ _ => cutC (ps_set (i := 3) sc_path.nd rfl (Or.inl rfl) (pe_call G_waysto (hr.mono (by first | decide | omega)) rfl T.mg_waysto T.F_waysto.kp T.b_waysto .nil pass0 (pa_cons (pv 0) (pa_cons (pv 2) pa_nil)))) fun _ _ => cutC (ps_if (pt_cmp (pc_dnotin (hu_of hr) (pv 1) (pv 3))) (pss_one (ps_ret pe_non)) pss_nil) fun _ _ => cutC (ps_set (i := 4) sc_path.nd rfl (Or.inl rfl) (pe_lst pa_nil)) fun _ _ => cutC (ps_set (i := 5) sc_path.nd rfl (Or.inl rfl) (pv 1)) fun _ _ => cutC (ps_while PassesOwn.never (pt_cmpR op_notN (pv 5) pe_non (nomark _)) (pss_cons (ps_expr (pe_bm PySem.F.plainAttrs_list PySem.F.slot_list_append PySem.F.type_list_append mt_append (pv 4) (pa_cons (pv 5) pa_nil))) (pss_one (ps_set (i := 5) sc_path.nd rfl (Or.inl rfl) (pe_dget (hu_of hr) (pv 3) (pv 5) (fun _ _ => rfl)))))) fun _ _ => cutE (ps_ret (pv 4)) fun _ _ => ?_
  walk_at "rdf"
  refine rd_ixT (SqT.of ha) (v := .int c.1) rfl ?_
  walk_at "rdf"
  refine rd_ixT (SqT.of ha) (v := .int c.2) rfl ?_
  walk_at "rdf"
  refine ⟨p, c.1, c.2, s, cs, rs, rfl, hc, hic, ?_⟩
  walk_at "rdf"
  refine rd_ixT (SqT.of hb) (v := .int d.1) rfl ?_
  walk_at "rdf"
  refine rd_ixT (SqT.of hb) (v := .int d.2) rfl ?_
  walk_at "rdf"
  refine ⟨p, d.1, d.2, s, cs, rs, rfl, hc, hid, ?_⟩
  walk_at "rdf"
  refine ⟨p, b, d, s, cs, rs, rfl, hc, lc, lr, hb, hid, fun dd qs ps ds H1 s1 ndd on1 st1 => ?_⟩
  obtain ⟨kvs, ed, ke, _⟩ := id on1.ob
  have ha1 := s1 _ _ ha
  have mem := st1.mem (Nat.le_refl _) c
  have lq := inC_few lc lr st1.nd (st_in hid st1)
  walk_at "rdf"
  refine ⟨dd, _, rfl, DGet.t (k := ky c) ed ha1, ?_⟩
  rw [ke.val]
  by_cases hm : c ∈ qs
  ·rw [decide_eq_true hm]
   walk_at "rdf"
   refine ⟨by show 0 ≤ sizeLine; decide, fun l nl => ?_⟩
   have sl := Same.new (o := HO.lst []) nl
   have el := upd_same (H := H1) (a := l) (o := HO.lst [])
   generalize upd H1 l (HO.lst []) = H2 at sl el ⊢
   walk_at "rdf"
   obtain ⟨j0, hj0⟩ := List.mem_iff_getElem?.mp hm
   obtain ⟨D, hD⟩ : ∃ D, ds[j0]? = some D := ⟨_, List.getElem?_eq_getElem (by rw [st1.ld]; exact (List.getElem?_eq_some_iff.mp hj0).1)⟩
   have hDq : D ≤ 1600 := by
    have key : ∀ (j : Nat) e, ds[j]? = some e → e ≤ j := by
     intro j
     induction j using Nat.strongRecOn with
     | ind j ih =>
      intro e he
      by_cases hj : j = 0
      ·subst hj; rw [st1.h0] at he; cases he; exact Nat.le_refl _
      ·have lj : j < qs.length := by rw [← st1.ld]; exact (List.getElem?_eq_some_iff.mp he).1
       obtain ⟨a1, _, c2, d2, _, _, r3, r4⟩ := st1.par j _ _ (by omega) (List.getElem?_eq_getElem lj) (List.getElem?_eq_getElem (show j < ps.length by rw [st1.lp]; exact lj))
       rw [he] at r4
       cases r4
       have := ih _ a1 d2 r3
       omega
    have := key j0 D hD
    have := (List.getElem?_eq_some_iff.mp hj0).1
    omega
   refine ⟨fun m σ' H' => ∃ (hv : V) (xs : List V) (L : List (Int × Int)), σ' = [some (.ref p), some (.ref a), some (.ref b), some (.ref dd), some (.ref l), some hv] ∧ Same H1 H' ∧ H' l = some (.lst xs) ∧ PwPt H' xs L ∧ (∀ q ∈ L, inC cs rs q) ∧ ((m = 0 ∧ hv = .non ∧ Ch cs rs c L ∧ L.getLast? = some d ∧ L.length = D + 1) ∨ ∃ (j : Nat) (cj : Int × Int) (e : Nat) (bj : Addr), m = j + 1 ∧ qs[j]? = some cj ∧ ds[j]? = some e ∧ hv = .ref bj ∧ H' bj = some (.tup [.int cj.1, .int cj.2]) ∧ Ch cs rs c (L ++ [cj]) ∧ L.length + e = D),
    ⟨_, .ref a, [], [], rfl, sl, el, PwPt.nil, fun q hq => (by cases hq), .inr ⟨j0, c, D, a, rfl, hj0, hD, rfl, sl _ _ ha1, Ch.one, by simp⟩⟩, ?_⟩
   rintro m σ' H3 ⟨hv, xs, L, rfl, s3, e3, px, inL, st⟩
   walk_at "rdf"
   refine ⟨rfl, ?_⟩
   rcases st with ⟨rfl, rfl, ch, lst, len⟩ | ⟨j, cj, e, bj, rfl, hj, he, rfl, hbj, ch, len⟩
   ·rw [show (!decide (V.non = V.non)) = false by simp]
    walk_at "rdf"
    refine k1 l xs L H3 (s1.trans s3) (s1.free nl) e3 px ⟨ch, lst, ⟨D, len, st1.walk j0 c D hj0 hD, fun m wm => st1.dist (Nat.le_refl _) hj0 hD wm⟩, inL, by omega⟩
   ·rw [show (!decide (V.ref bj = V.non)) = true by simp]
    walk_at "rdf"
    refine ⟨fun σ' H' => ∃ (m' : Nat) (hv : V) (xs : List V) (L : List (Int × Int)), m' < j + 1 ∧ σ' = [some (.ref p), some (.ref a), some (.ref b), some (.ref dd), some (.ref l), some hv] ∧ Same H1 H' ∧ H' l = some (.lst xs) ∧ PwPt H' xs L ∧ (∀ q ∈ L, inC cs rs q) ∧ ((m' = 0 ∧ hv = .non ∧ Ch cs rs c L ∧ L.getLast? = some d ∧ L.length = D + 1) ∨ ∃ (j : Nat) (cj : Int × Int) (e : Nat) (bj : Addr), m' = j + 1 ∧ qs[j]? = some cj ∧ ds[j]? = some e ∧ hv = .ref bj ∧ H' bj = some (.tup [.int cj.1, .int cj.2]) ∧ Ch cs rs c (L ++ [cj]) ∧ L.length + e = D), ?_, ?_⟩
    ·rintro σ' H' ⟨m', hv, xs, L, hm', r⟩
     exact ⟨m', hm', hv, xs, L, r⟩
    ·walk_at "rdf"
     refine rd_bmL e3 ?_
     walk_at "rdf"
     refine rd_append e3 (by rw [px.1]; exact small1000' (by omega)) ?_
     have nT : ∀ ys, HO.tup ys ≠ HO.lst xs := by intro ys z; cases z
     have s4 : Same H1 (upd H3 l (.lst (xs ++ [.ref bj]))) := s3.later nl
     have px4 := (px.upd (o := .lst (xs ++ [.ref bj])) e3 nT).snoc (Pt.upd (q := cj) (o := .lst (xs ++ [.ref bj])) ⟨bj, rfl, hbj⟩ e3 nT)
     have hb4 : upd H3 l (.lst (xs ++ [.ref bj])) bj = some (.tup [.int cj.1, .int cj.2]) := (upd_ne (ne_of hbj e3 (nT _))).trans hbj
     have e4 := upd_same (H := H3) (a := l) (o := HO.lst (xs ++ [.ref bj]))
     generalize upd H3 l (.lst (xs ++ [.ref bj])) = H4 at s4 px4 hb4 e4 ⊢
     have inL4 : ∀ q ∈ L ++ [cj], inC cs rs q := fun q hq => by
      rcases List.mem_append.mp hq with z | z
      ·exact inL q z
      ·rw [List.mem_singleton.mp z]; exact st_in hid st1 cj (List.mem_of_getElem? hj)
     obtain ⟨v, hval, hv⟩ := (on1.mono s4).val (s4 _ _ ed) st1.nd hj
     walk_at "rdf"
     refine rd_dgetT (k := ky cj) (s4 _ _ ed) hb4 hval ?_
     walk_at "rdf"
     rcases hv with ⟨rfl, rfl⟩ | ⟨j0', b', p', c', q1, q2, rfl, q4⟩
     ·rw [st1.hd] at hj
      cases hj
      rw [st1.h0] at he
      cases he
      exact ⟨0, .non, _, L ++ [d], by omega, rfl, s4, e4, px4, inL4, .inl ⟨rfl, rfl, ch, by simp, by rw [List.length_append, List.length_singleton]; omega⟩⟩
     ·obtain ⟨a1, _, c2, d2, r1, r2, r3, r4⟩ := st1.par j _ _ j0' hj q1
      rw [q2] at r1
      cases r1
      rw [he] at r4
      cases r4
      exact ⟨p' + 1, .ref b', _, L ++ [cj], by omega, rfl, s4, e4, px4, inL4, .inr ⟨p', c', d2, b', rfl, q2, r3, rfl, q4, ch.on (bs_sym (st_in hid st1 c' (List.mem_of_getElem? q2)) r2), by rw [List.length_append, List.length_singleton]; omega⟩⟩
  ·rw [decide_eq_false hm]
   walk_at "rdf"
   exact k0 H1 s1 fun z => hm (mem.mpr z)
end
section
variable {P : Program} {w : World} {K : PySem.W.Frag} {mg : Str → Option Value} {base : Heap} {t : Ad}
theorem rd_eqNil' {H : Hp} {Q : VK} {l m : Addr} {xs : List V} {ps : List (Int × Int)} (e : H l = some (.lst xs)) (h : PwPt H xs ps) (e' : H m = some (.lst [])) (q : Q (.bl ps.isEmpty) H) : rEqD false (.ref l) (.ref m) H Q := by
 refine ⟨.list (ps.map ptD), .list [], rep_pts e h, by rw [Rep]; exact ⟨m, [], rfl, e', by rw [RepL]⟩, shp_pts _, by decide, ?_⟩
 rw [if_neg (by decide)]
 cases ps with
 | nil => simp only [List.map_nil, PyData.eqv, PyData.eqvAll]; exact q
 | cons p r => simp only [List.map_cons, PyData.eqv, PyData.eqvAll]; exact q
theorem bs_one {cs rs : List Int} {x y u v : Int} (h : (u, v) ∈ bs cs rs (x, y)) : (if u - x < 0 then -(u - x) else u - x) + (if v - y < 0 then -(v - y) else v - y) = 1 := by
 rcases mem_bs.mp h with ⟨_, e⟩ | ⟨_, e⟩ | ⟨_, e⟩ | ⟨_, e⟩ <;> injection e with e1 e2 <;> subst e1 <;> subst e2 <;> dsimp only <;> split <;> split <;> omega
theorem bs_col {cs rs : List Int} {x y u v : Int} (hi : inC cs rs (x, y)) (h : (u, v) ∈ bs cs rs (x, y)) (e : v = y) : 0 ≤ (if u < x then u else x) ∧ (if u < x then u else x) < cs.length ∧ ¬ (y + cs.getD (if u < x then u else x).toNat 0) % 2 = 1 := by
 unfold inC at hi
 dsimp only at hi
 rcases mem_bs.mp h with ⟨z, e'⟩ | ⟨_, e'⟩ | ⟨_, e'⟩ | ⟨z, e'⟩ <;> injection e' with e1 e2 <;> dsimp only at e1 e2
 ·have := bL_iff.mp z
  rw [if_pos (by omega), e1]
  exact ⟨by omega, by omega, this.2⟩
 ·omega
 ·omega
 ·have := bR_iff.mp z
  rw [if_neg (by omega)]
  exact ⟨by omega, by omega, this.2⟩
theorem bs_row {cs rs : List Int} {x y u v : Int} (hi : inC cs rs (x, y)) (h : (u, v) ∈ bs cs rs (x, y)) (e : u = x) : 0 ≤ (if v < y then v else y) ∧ (if v < y then v else y) < rs.length ∧ ¬ (x + rs.getD (if v < y then v else y).toNat 0) % 2 = 1 := by
 unfold inC at hi
 dsimp only at hi
 rcases mem_bs.mp h with ⟨_, e'⟩ | ⟨z, e'⟩ | ⟨z, e'⟩ | ⟨_, e'⟩ <;> injection e' with e1 e2 <;> dsimp only at e1 e2
 ·omega
 ·have := bD_iff.mp z
  rw [if_pos (by omega), e2]
  exact ⟨by omega, by omega, this.2⟩
 ·have := bU_iff.mp z
  rw [if_neg (by omega)]
  exact ⟨by omega, by omega, this.2⟩
 ·omega
def sp_Lwalks : Sp := fun vs H Q _ => ∃ (q l a b : Addr) (s : Int) (cs rs : List Int) (ys : List V) (L : List (Int × Int)) (c d : Int × Int), vs = [.ref q, .ref l, .ref a, .ref b] ∧ PlanAt true H q s cs rs ∧ H l = some (.lst ys) ∧ PwPt H ys L ∧ PathL cs rs c d L ∧ H a = some (.tup [.int c.1, .int c.2]) ∧ H b = some (.tup [.int d.1, .int d.2]) ∧
 ∀ H', Same H H' → Q (.bl true) H'
theorem ok_Lwalks (T : Txt K mg t) : FnOk P w K mg base CX0 6 t.f_Lwalks t.d_Lwalks ["_law_plan_here", "_law_line", "_law_one", "_law_other"] sp_Lwalks := by
 have G_Lsewn := ok_Lsewn (P := P) (w := w) (base := base) T
 have G_Lsame := ok_Lsame (P := P) (w := w) (base := base) T
 refine T.F_Lwalks.ok sc_Lwalks (fun vs H Q E h => ?_) (fun cdv A outer s H vs Q E hr h => ?_)
 ·obtain ⟨q, l, a, b, s, cs, rs, ys, L, c, d, rfl, _⟩ := h; rfl
 ·obtain ⟨q, l, a, b, s, cs, rs, ys, L, c, d, rfl, pl, el, py, pa, ha, hb, k⟩ := h
  have ly := py.1
  have fw := pa.few
  obtain ⟨n, hn, _⟩ := pa.len
  obtain ⟨b0, eb0, hb0⟩ := py.2 0 _ c (List.getElem?_eq_getElem (by omega)) pa.ch.fst
  have hlast : L[L.length - 1]? = some d := by rw [← List.getLast?_eq_getElem?]; exact pa.lst
  obtain ⟨b1, eb1, hb1⟩ := py.2 (L.length - 1) _ d (List.getElem?_eq_getElem (by omega)) hlast
  have i0 : atI ys 0 = some (.ref b0) := atI_nat (j := 0) (by rw [List.getElem?_eq_getElem (by omega), eb0])
  have i1 : atI ys (-1) = some (.ref b1) := by
   have e : ys[ys.length - 1]? = some (.ref b1) := by
    rw [ly, List.getElem?_eq_getElem (by omega), eb1]
   obtain ⟨zs, v, rfl⟩ : ∃ zs v, ys = zs ++ [v] := ⟨ys.dropLast, ys.getLast (fun e => by rw [e] at ly; simp at ly; omega), (List.dropLast_concat_getLast _).symm⟩
   rw [List.length_append, List.length_singleton, Nat.add_sub_cancel, Bf.at_end] at e
   rw [← e]
   exact atI_last _ _
  refine cutC (ps_if (PW.pt (pw_or (pt_not (pt_val (pe_callB (cI_isinstK K rfl) rfl T.no_isinstance (by rfl) (pa_cons (pv 1) (pa_cons (pe_bltn (v := .ty "list") rfl T.no_list (by rfl : bootBuiltins "list" = some (.type "list")) rfl) pa_nil))))) (pw_or (pt_cmpR (op_eqD hr.units) (pv 1) (pe_lst pa_nil) (nomark _)) (pw_or (pt_cmpR (op_neD hr.units) (pe_ix (ix_listK K rfl) (pv 1) pe_int (fun _ _ => rfl)) (pv 2) (nomark _)) (pw_or1 (pt_cmpR (op_neD hr.units) (pe_ix (ix_listK K rfl) (pv 1) (pe_un un_neg pe_int) (fun _ _ => rfl)) (pv 3) (nomark _))))))) (pss_one (ps_ret pe_bl)) pss_nil) fun _ _ => cutC (ps_for PassesOwn.never rfl (pi_range2 rfl T.no_range (pa_cons pe_int (pa_cons (pe_callB (cI_lenK K rfl) rfl T.no_len (by rfl) (pa_cons (pv 1) pa_nil)) pa_nil))) (pg_name (i := 4) sc_Lwalks.nd rfl (Or.inl rfl)) (pss_cons (ps_asg (pe_ix (ix_listK K rfl) (pv 1) (pe_op op_sub (pv 4) pe_int) (fun _ _ => rfl)) (pg_tupK (n := 2) K rfl rfl (pgs_cons (pg_name (i := 5) sc_Lwalks.nd rfl (Or.inl rfl)) (pgs_cons (pg_name (i := 6) sc_Lwalks.nd rfl (Or.inl rfl)) pgs_nil)))) (pss_cons (ps_set (i := 7) sc_Lwalks.nd rfl (Or.inl rfl) (pe_ix (ix_listK K rfl) (pv 1) (pv 4) (fun _ _ => rfl))) (pss_cons (ps_if (PW.pt (pw_or (pt_not (pt_val (pe_call G_Lsame (hr.mono (by first | decide | omega)) rfl T.mg_Lsame T.F_Lsame.kp T.b_Lsame .nil pass0 (pa_cons (pv 7) (pa_cons (pe_tup (pa_cons (pe_ix (ix_tupK K rfl) (pv 7) pe_int (fun _ _ => rfl)) (pa_cons (pe_ix (ix_tupK K rfl) (pv 7) pe_int (fun _ _ => rfl)) pa_nil))) pa_nil))))) (pw_or1 (pt_cmpR op_ne (pe_op op_add (pe_callB cI_abs rfl T.no_abs (by rfl) (pa_cons (pe_op op_sub (pe_ix (ix_tupK K rfl) (pv 7) pe_int (fun _ _ => rfl)) (pv 5)) pa_nil)) (pe_callB cI_abs rfl T.no_abs (by rfl) (pa_cons (pe_op op_sub (pe_ix (ix_tupK K rfl) (pv 7) pe_int (fun _ _ => rfl)) (pv 6)) pa_nil))) pe_int (nomark _))))) (pss_one (ps_ret pe_bl)) pss_nil) (pss_cons (ps_if (PW.pt (pw_and (pt_cmpR op_eq (pe_ix (ix_tupK K rfl) (pv 7) pe_int (fun _ _ => rfl)) (pv 6) (nomark _)) (pw_and1 (pt_val (pe_call G_Lsewn (hr.mono (by first | decide | omega)) rfl T.mg_Lsewn T.F_Lsewn.kp T.b_Lsewn .nil pass0 (pa_cons (pv 0) (pa_cons pe_str (pa_cons (pe_callB (cI_min2 rfl) rfl T.no_min (by rfl) (pa_cons (pv 5) (pa_cons (pe_ix (ix_tupK K rfl) (pv 7) pe_int (fun _ _ => rfl)) pa_nil))) (pa_cons (pv 6) pa_nil))))))))) (pss_one (ps_ret pe_bl)) pss_nil) (pss_one (ps_if (PW.pt (pw_and (pt_cmpR op_eq (pe_ix (ix_tupK K rfl) (pv 7) pe_int (fun _ _ => rfl)) (pv 5) (nomark _)) (pw_and1 (pt_val (pe_call G_Lsewn (hr.mono (by first | decide | omega)) rfl T.mg_Lsewn T.F_Lsewn.kp T.b_Lsewn .nil pass0 (pa_cons (pv 0) (pa_cons pe_str (pa_cons (pe_callB (cI_min2 rfl) rfl T.no_min (by rfl) (pa_cons (pv 6) (pa_cons (pe_ix (ix_tupK K rfl) (pv 7) pe_int (fun _ _ => rfl)) pa_nil))) (pa_cons (pv 5) pa_nil))))))))) (pss_one (ps_ret pe_bl)) pss_nil))))))) fun _ _ => cutE (ps_ret pe_bl) fun _ _ => ?_
  walk_at "rdf"
  refine rd_isi (rep_pts el py).ty (kit_list _) ?_
  rw [show isD "list" (.list (L.map ptD)) = true by simp [isD]]
  walk_at "rdf"
  refine ⟨by show 0 ≤ sizeLine; decide, fun le nle => ?_⟩
  have sle := Same.new (o := HO.lst []) nle
  have ele := upd_same (H := H) (a := le) (o := HO.lst [])
  generalize upd H le (HO.lst []) = H1 at sle ele ⊢
  walk_at "rdf"
  refine rd_eqNil' (sle _ _ el) (py.mono sle) ele ?_
  rw [show L.isEmpty = false by cases L with | nil => simp at hn | cons => rfl]
  walk_at "rdf"
  refine rd_ixL (SqL.of (sle _ _ el)) i0 ?_
  walk_at "rdf"
  refine rd_neP (sle _ _ hb0) (sle _ _ ha) ?_
  rw [show (!decide (c = c)) = false by simp]
  walk_at "rdf"
  refine rd_ixL (SqL.of (sle _ _ el)) i1 ?_
  walk_at "rdf"
  refine rd_neP (sle _ _ hb1) (sle _ _ hb) ?_
  rw [show (!decide (d = d)) = false by simp]
  walk_at "rdf"
  refine rd_rng2 ?_
  walk_at "rdf"
  refine rd_lenL (sle _ _ el) ?_
  walk_at "rdf"
  refine ⟨_, _, rfl, ⟨by omega, by omega, by omega, by omega⟩, ?_⟩
  refine forW_range (fun i σ' H' => ∃ (o4 o5 o6 o7 : Option V), σ' = [some (.ref q), some (.ref l), some (.ref a), some (.ref b), o4, o5, o6, o7] ∧ Same H H')
   ⟨none, none, none, none, rfl, sle⟩ ?_ ?_
  ·rintro i σ' H3 hi ⟨o4, o5, o6, o7, rfl, s3⟩
   have hi1 : i + 1 < L.length := by omega
   obtain ⟨⟨x, y⟩, hu⟩ : ∃ u, L[i]? = some u := ⟨_, List.getElem?_eq_getElem (by omega)⟩
   obtain ⟨⟨x', y'⟩, hv⟩ : ∃ u, L[i + 1]? = some u := ⟨_, List.getElem?_eq_getElem hi1⟩
   have hnx := pa.ch.nxt i _ _ hu hv
   have hiu := pa.in_ _ (List.mem_of_getElem? hu)
   obtain ⟨bu, ebu, hbu⟩ := py.2 i _ _ (List.getElem?_eq_getElem (by omega)) hu
   obtain ⟨bv, ebv, hbv⟩ := py.2 (i + 1) _ _ (List.getElem?_eq_getElem (by omega)) hv
   dsimp only at hbu hbv
   have iu : atI ys (1 + ((i : Nat) : Int) - 1) = some (.ref bu) := by
    rw [show 1 + ((i : Nat) : Int) - 1 = ((i : Nat) : Int) by omega]
    exact atI_nat (by rw [List.getElem?_eq_getElem (by omega), ebu])
   have iv : atI ys (1 + ((i : Nat) : Int)) = some (.ref bv) := by
    rw [show 1 + ((i : Nat) : Int) = ((i + 1 : Nat) : Int) by omega]
    exact atI_nat (by rw [List.getElem?_eq_getElem (by omega), ebv])
   have hbv3 := s3 _ _ hbv
   walk_at "rdf"
   refine rd_ixL (SqL.of (s3 _ _ el)) iu ?_
   refine rd_gtup (s3 _ _ hbu) rfl ?_
   walk_at "rdf"
   refine rd_ixL (SqL.of (s3 _ _ el)) iv ?_
   walk_at "rdf"
   refine rd_ixT (SqT.of hbv3) (v := .int x') rfl ?_
   walk_at "rdf"
   refine rd_ixT (SqT.of hbv3) (v := .int y') rfl ?_
   walk_at "rdf"
   refine ⟨by show 2 ≤ sizeLine; decide, fun tt ntt => ?_⟩
   have stt := Same.new (o := HO.tup [V.int x', V.int y']) ntt
   have ett := upd_same (H := H3) (a := tt) (o := HO.tup [V.int x', V.int y'])
   generalize upd H3 tt (HO.tup [V.int x', V.int y']) = H4 at stt ett ⊢
   walk_at "rdf"
   refine ⟨.ref bv, .ref tt, ptD (x', y'), rfl, ?_, rep_pt ⟨bv, rfl, stt _ _ hbv3⟩, rep_pt ⟨tt, rfl, ett⟩, fun H5 s5 => ?_⟩
   ·refine .inr (.inr ⟨_, rfl, by show 2 ≤ 5000; decide, fun d hd => ?_⟩)
    simp only [List.mem_cons, List.not_mem_nil, or_false] at hd
    rcases hd with rfl | rfl <;> exact okS_int _
   have s35 := stt.trans s5
   have hb5 := s35 _ _ hbv3
   walk_at "rdf"
   refine rd_ixT (SqT.of hb5) (v := .int x') rfl ?_
   walk_at "rdf"
   refine rd_ixT (SqT.of hb5) (v := .int y') rfl ?_
   walk_at "rdf"
   rw [bs_one hnx, decide_eq_true (rfl : (1 : Int) = 1)]
   walk_at "rdf"
   refine rd_ixT (SqT.of hb5) (v := .int y') rfl ?_
   walk_at "rdf"
   have fin : ∃ (o4 o5 o6 o7 : Option V), [some (V.ref q), some (.ref l), some (.ref a), some (.ref b), some (.int (1 + ((i : Nat) : Int))), some (.int x), some (.int y), some (.ref bv)] = [some (.ref q), some (.ref l), some (.ref a), some (.ref b), o4, o5, o6, o7] ∧ Same H H5 := ⟨_, _, _, _, rfl, s3.trans s35⟩
   by_cases hy : y' = y
   ·rw [decide_eq_true hy]
    obtain ⟨g0, g1, g2⟩ := bs_col hiu hnx hy
    walk_at "rdf"
    refine rd_ixT (SqT.of hb5) (v := .int x') rfl ?_
    walk_at "rdf"
    refine ⟨q, "col", _, y, s, cs, rs, cs, rfl, pl.mono (s3.trans s35), .inl ⟨rfl, rfl⟩, g0, g1, ?_⟩
    rw [decide_eq_false g2]
    walk_at "rdf"
    refine rd_ixT (SqT.of hb5) (v := .int x') rfl ?_
    walk_at "rdf"
    have hx : ¬ x' = x := fun z => by
     have := bs_one hnx
     rw [z, hy] at this
     simp at this
    rw [decide_eq_false hx]
    walk_at "rdf"
    exact fin
   ·rw [decide_eq_false hy]
    walk_at "rdf"
    refine rd_ixT (SqT.of hb5) (v := .int x') rfl ?_
    walk_at "rdf"
    have hx : x' = x := by
     rcases mem_bs.mp hnx with ⟨_, e⟩ | ⟨_, e⟩ | ⟨_, e⟩ | ⟨_, e⟩ <;> injection e with e1 e2 <;> dsimp only at e1 e2 <;> omega
    obtain ⟨g0, g1, g2⟩ := bs_row hiu hnx hx
    rw [decide_eq_true hx]
    walk_at "rdf"
    refine rd_ixT (SqT.of hb5) (v := .int y') rfl ?_
    walk_at "rdf"
    refine ⟨q, "row", _, x, s, cs, rs, rs, rfl, pl.mono (s3.trans s35), .inr ⟨rfl, rfl⟩, g0, g1, ?_⟩
    rw [decide_eq_false g2]
    walk_at "rdf"
    exact fin
  ·rintro σ' H3 ⟨o4, o5, o6, o7, rfl, s3⟩
   walk_at "rdf"
   exact k H3 s3
end
section
variable {P : Program} {w : World} {K : PySem.W.Frag} {mg : Str → Option Value} {base : Heap} {t : Ad}
def sp_law (K : PySem.W.Frag) : Sp := fun vs H Q _ => ∃ (a : Addr) (ns : List Int), vs = [.ref a] ∧ SqL K H a (ns.map V.int) ∧ ns.length ≤ 63 ∧ ∀ H', Q (.bl true) H'
theorem ok_law (T : Txt K mg t) : FnOk P w K mg base CX0 12 t.f_law t.d_law ["_law_script"] (sp_law K) := by
 have G_Ldraws := ok_Ldraws (P := P) (w := w) (base := base) T
 have G_Lplan := ok_Lplan (P := P) (w := w) (base := base) T
 have G_Lmade := ok_Lmade (P := P) (w := w) (base := base) T
 have G_Lflood := ok_Lflood (P := P) (w := w) (base := base) T
 have G_path := ok_path (P := P) (w := w) (base := base) T
 have G_Lwalks := ok_Lwalks (P := P) (w := w) (base := base) T
 refine T.F_law.ok sc_law (fun vs H Q E h => ?_) (fun cdv A outer s H vs Q E hr h => ?_)
 ·obtain ⟨a, ns, rfl, _⟩ := h; rfl
 ·obtain ⟨a, ns, rfl, hS, hl, z⟩ := h
  refine cutC (ps_set (i := 1) sc_law.nd rfl (Or.inl rfl) (pe_call G_Ldraws (hr.mono (by first | decide | omega)) rfl T.mg_Ldraws T.F_Ldraws.kp T.b_Ldraws .nil pass0 (pa_cons (pv 0) (pa_cons pe_int pa_nil)))) fun _ _ => cutC (ps_set (i := 2) sc_law.nd rfl (Or.inl rfl) (pe_call G_Lplan (hr.mono (by first | decide | omega)) rfl T.mg_Lplan T.F_Lplan.kp T.b_Lplan .nil pass0 (pa_cons (pv 1) pa_nil))) fun _ _ => cutC (ps_set (i := 3) sc_law.nd rfl (Or.inl rfl) (pe_call G_Lmade (hr.mono (by first | decide | omega)) rfl T.mg_Lmade T.F_Lmade.kp T.b_Lmade .nil pass0 (pa_cons (pv 2) pa_nil))) fun _ _ => cutC (ps_set (i := 4) sc_law.nd rfl (Or.inl rfl) (pe_op op_add (pe_callB (cI_lenK K rfl) rfl T.no_len (by rfl) (pa_cons (pe_ix (ix_tupK K rfl) (pv 2) pe_int (fun _ _ => rfl)) pa_nil)) pe_int)) fun _ _ => cutC (ps_set (i := 5) sc_law.nd rfl (Or.inl rfl) (pe_op op_add (pe_callB (cI_lenK K rfl) rfl T.no_len (by rfl) (pa_cons (pe_ix (ix_tupK K rfl) (pv 2) pe_int (fun _ _ => rfl)) pa_nil)) pe_int)) fun _ _ => cutC (ps_for PassesOwn.never rfl (pi_range1 rfl T.no_range (pa_cons pe_int pa_nil)) (pg_name (i := 6) sc_law.nd rfl (Or.inl rfl)) (pss_cons (ps_set (i := 7) sc_law.nd rfl (Or.inl rfl) (pe_tup (pa_cons (pe_op op_mod (pe_ix (ix_listK K rfl) (pv 1) (pe_op op_add pe_int (pe_op op_mul pe_int (pv 6))) (fun _ _ => rfl)) (pv 4)) (pa_cons (pe_op op_mod (pe_ix (ix_listK K rfl) (pv 1) (pe_op op_add pe_int (pe_op op_mul pe_int (pv 6))) (fun _ _ => rfl)) (pv 5)) pa_nil)))) (pss_cons (ps_set (i := 8) sc_law.nd rfl (Or.inl rfl) (pe_call G_Lflood (hr.mono (by first | decide | omega)) rfl T.mg_Lflood T.F_Lflood.kp T.b_Lflood .nil pass0 (pa_cons (pv 2) (pa_cons (pv 7) pa_nil)))) (pss_cons (ps_set (i := 9) sc_law.nd rfl (Or.inl rfl) (pe_callB (cI_sortedD rfl) rfl T.no_sorted (by rfl) (pa_cons (pv 8) pa_nil))) (pss_cons (ps_set (i := 10) sc_law.nd rfl (Or.inl rfl) (pe_tup (pa_cons (pe_op op_mod (pe_ix (ix_listK K rfl) (pv 1) (pe_op op_add pe_int (pe_op op_mul pe_int (pv 6))) (fun _ _ => rfl)) (pv 4)) (pa_cons (pe_op op_mod (pe_ix (ix_listK K rfl) (pv 1) (pe_op op_add pe_int (pe_op op_mul pe_int (pv 6))) (fun _ _ => rfl)) (pv 5)) pa_nil)))) (pss_one (ps_for PassesOwn.never rfl (pi_list (pe_lst (pa_cons (pv 10) (pa_cons (pe_ix (ix_listK K rfl) (pv 9) pe_int (fun _ _ => rfl)) (pa_cons (pe_ix (ix_listK K rfl) (pv 9) (pe_un un_neg pe_int) (fun _ _ => rfl)) (pa_cons (pv 7) (pa_cons (pe_ix (ix_listK K rfl) (pv 9) (pe_un un_neg pe_int) (fun _ _ => rfl)) (pa_cons (pv 10) pa_nil)))))))) (pg_name (i := 11) sc_law.nd rfl (Or.inl rfl)) (pss_cons (ps_set (i := 12) sc_law.nd rfl (Or.inl rfl) (pe_call G_path (hr.mono (by first | decide | omega)) rfl T.mg_path T.F_path.kp T.b_path .nil pass0 (pa_cons (pv 3) (pa_cons (pv 7) (pa_cons (pv 11) pa_nil))))) (pss_one (ps_join (ps_if (pt_cmp (pc_dnotin (hu_of hr) (pv 11) (pv 8))) (pss_one (ps_if (pt_cmpR op_notN (pv 12) pe_non (nomark _)) (pss_one (ps_ret pe_bl)) pss_nil)) (pss_one (ps_if (PW.pt (pw_or (pt_not (pt_val (pe_call G_Lwalks (hr.mono (by first | decide | omega)) rfl T.mg_Lwalks T.F_Lwalks.kp T.b_Lwalks .nil pass0 (pa_cons (pv 2) (pa_cons (pv 12) (pa_cons (pv 7) (pa_cons (pv 11) pa_nil))))))) (pw_or1 (pt_cmpR op_ne (pe_callB (cI_lenK K rfl) rfl T.no_len (by rfl) (pa_cons (pv 12) pa_nil)) (pe_op op_add (pe_dget (hu_of hr) (pv 8) (pv 11) (fun _ _ => rfl)) pe_int) (nomark _))))) (pss_one (ps_ret pe_bl)) (pss_one (ps_expr (pe_bm0 PySem.F.plainAttrs_list PySem.F.slot_list_clear PySem.F.type_list_clear mt_clear (pv 12))))))))))))))))) fun _ _ => cutE (ps_ret pe_bl) fun _ _ => ?_
  walk_at "rdf"
  refine ⟨a, 48, ns, rfl, hS, hl, by decide, fun ls zs H1 s1 es lz _ sm => ?_⟩
  walk_at "rdf"
  refine ⟨ls, zs, rfl, es, by omega, fun pp sh cs rs H2 s2 pl => ?_⟩
  have es := s2 _ _ es
  walk_at "rdf"
  refine ⟨pp, true, sh, cs, rs, rfl, pl, fun p H4 s4 hC => ?_⟩
  have es := s4 _ _ es
  have pl := pl.mono s4
  obtain ⟨⟨c, r, hp, hc, hr'⟩, shh, bc, br⟩ := id pl
  have lc : cs.length ≤ 39 := bc.1
  have lr : rs.length ≤ 39 := br.1
  walk_at "rdf"
  refine rd_ixT (SqT.of hp) (v := .ref c) rfl ?_
  walk_at "rdf"
  refine rd_lenL hc ?_
  rw [List.length_map]
  walk_at "rdf"
  refine rd_ixT (SqT.of hp) (v := .ref r) rfl ?_
  walk_at "rdf"
  refine rd_lenL hr' ?_
  rw [List.length_map]
  walk_at "rdf"
  refine ⟨8, rfl, by omega, by omega, ?_⟩
  refine forW_range (fun i σ' H' => ∃ (o6 o7 o8 o9 o10 o11 o12 : Option V), σ' = [some (.ref a), some (.ref ls), some (.ref pp), some (.ref p), some (.int ((cs.length : Nat) + 1)), some (.int ((rs.length : Nat) + 1)), o6, o7, o8, o9, o10, o11, o12] ∧ Same H4 H')
   ⟨none, none, none, none, none, none, none, rfl, Same.refl _⟩ ?_ ?_
  ·rintro i σ' H19 hi ⟨o6, o7, o8, o9, o10, o11, o12, rfl, s19⟩
   rw [Int.zero_add]
   have es9 := s19 _ _ es
   walk_at "rdf"
   refine rd_I (.inl ⟨by omega, by omega⟩) ?_
   walk_at "rdf"
   refine rd_ixL (SqL.of es9) (atI_ints (i := 12 + 4 * ((i : Nat) : Int)) (by omega) (by omega)) ?_
   walk_at "rdf"
   refine rd_I (show (0 : Int) < (cs.length : Nat) + 1 by omega) ?_
   walk_at "rdf"
   refine rd_I (.inl ⟨by omega, by omega⟩) ?_
   walk_at "rdf"
   refine rd_ixL (SqL.of es9) (atI_ints (i := 13 + 4 * ((i : Nat) : Int)) (by omega) (by omega)) ?_
   walk_at "rdf"
   refine rd_I (show (0 : Int) < (rs.length : Nat) + 1 by omega) ?_
   walk_at "rdf"
   generalize zs.getD (12 + 4 * ((i : Nat) : Int)).toNat 0 = za
   generalize zs.getD (13 + 4 * ((i : Nat) : Int)).toNat 0 = zb
   have k0 := Int.emod_nonneg za (show ((cs.length : Nat) : Int) + 1 ≠ 0 by omega)
   have k1 := Int.emod_lt_of_pos za (show (0 : Int) < (cs.length : Nat) + 1 by omega)
   have t0 := Int.emod_nonneg zb (show ((rs.length : Nat) : Int) + 1 ≠ 0 by omega)
   have t1 := Int.emod_lt_of_pos zb (show (0 : Int) < (rs.length : Nat) + 1 by omega)
   generalize za % (((cs.length : Nat) : Int) + 1) = px at k0 k1 ⊢
   generalize zb % (((rs.length : Nat) : Int) + 1) = py at t0 t1 ⊢
   have hin : inC cs rs (px, py) := ⟨⟨k0, k1⟩, t0, t1⟩
   refine ⟨by show 2 ≤ sizeLine; decide, fun a1 na1 => ?_⟩
   have sa1 := Same.new (o := HO.tup [V.int px, V.int py]) na1
   have ea1 := upd_same (H := H19) (a := a1) (o := HO.tup [V.int px, V.int py])
   generalize upd H19 a1 (HO.tup [V.int px, V.int py]) = H20 at sa1 ea1 ⊢
   generalize hone : (px, py) = one at hin
   have ea1 : H20 a1 = some (.tup [.int one.1, .int one.2]) := by rw [← hone]; exact ea1
   have s20 := s19.trans sa1
   clear za zb k0 k1 t0 t1
   walk_at "rdf"
   refine ⟨pp, a1, one, sh, cs, rs, rfl, pl.mono s20, ea1, hin, fun d qs ps ds H21 s21 nd on st => ?_⟩
   have ea1 := s21 _ _ ea1
   have s421 := s20.trans s21
   obtain ⟨kvs, ed, ke, _⟩ := id on.ob
   walk_at "rdf"
   refine rd_sortD (ps := qs) ed ke fun lf ys g nlf hp pm pw => ?_
   have sf := Same.new (o := HO.lst ys) nlf
   have ef := upd_same (H := H21) (a := lf) (o := HO.lst ys)
   generalize upd H21 lf (HO.lst ys) = H22 at sf ef ⊢
   have s422 := s421.trans sf
   have es9 := s422 _ _ es
   walk_at "rdf"
   refine rd_I (.inl ⟨by omega, by omega⟩) ?_
   walk_at "rdf"
   refine rd_ixL (SqL.of es9) (atI_ints (i := 14 + 4 * ((i : Nat) : Int)) (by omega) (by omega)) ?_
   walk_at "rdf"
   refine rd_I (show (0 : Int) < (cs.length : Nat) + 1 by omega) ?_
   walk_at "rdf"
   refine rd_I (.inl ⟨by omega, by omega⟩) ?_
   walk_at "rdf"
   refine rd_ixL (SqL.of es9) (atI_ints (i := 15 + 4 * ((i : Nat) : Int)) (by omega) (by omega)) ?_
   walk_at "rdf"
   refine rd_I (show (0 : Int) < (rs.length : Nat) + 1 by omega) ?_
   walk_at "rdf"
   generalize zs.getD (14 + 4 * ((i : Nat) : Int)).toNat 0 = za
   generalize zs.getD (15 + 4 * ((i : Nat) : Int)).toNat 0 = zb
   have k0 := Int.emod_nonneg za (show ((cs.length : Nat) : Int) + 1 ≠ 0 by omega)
   have k1 := Int.emod_lt_of_pos za (show (0 : Int) < (cs.length : Nat) + 1 by omega)
   have t0 := Int.emod_nonneg zb (show ((rs.length : Nat) : Int) + 1 ≠ 0 by omega)
   have t1 := Int.emod_lt_of_pos zb (show (0 : Int) < (rs.length : Nat) + 1 by omega)
   generalize za % (((cs.length : Nat) : Int) + 1) = qx at k0 k1 ⊢
   generalize zb % (((rs.length : Nat) : Int) + 1) = qy at t0 t1 ⊢
   have hin2 : inC cs rs (qx, qy) := ⟨⟨k0, k1⟩, t0, t1⟩
   refine ⟨by show 2 ≤ sizeLine; decide, fun a2 na2 => ?_⟩
   have sa2 := Same.new (o := HO.tup [V.int qx, V.int qy]) na2
   have ea2 := upd_same (H := H22) (a := a2) (o := HO.tup [V.int qx, V.int qy])
   generalize upd H22 a2 (HO.tup [V.int qx, V.int qy]) = H23 at sa2 ea2 ⊢
   generalize hdr : (qx, qy) = drawn at hin2
   have ea2 : H23 a2 = some (.tup [.int drawn.1, .int drawn.2]) := by rw [← hdr]; exact ea2
   clear za zb k0 k1 t0 t1
   have q0 : 0 < qs.length := (List.getElem?_eq_some_iff.mp st.hd).1
   have ly : ys.length = qs.length := by have := pm.length_eq; rw [List.length_map] at this; exact this
   obtain ⟨v0, yr, ey⟩ : ∃ v r, ys = v :: r := by
    cases ys with
    | nil => simp at ly; omega
    | cons v r => exact ⟨v, r, rfl⟩
   obtain ⟨yr2, v1, ey2⟩ : ∃ r v, ys = r ++ [v] := ⟨ys.dropLast, ys.getLast (fun e => by rw [e] at ly; simp at ly; omega), (List.dropLast_concat_getLast _).symm⟩
   have ing : ∀ v ∈ ys, Pt H23 v (g v) ∧ inC cs rs (g v) := fun v hv => by
    obtain ⟨b, rfl, hb⟩ := hp v hv
    exact ⟨⟨b, rfl, sa2 _ _ (sf _ _ hb)⟩, st_in hin st _ (pm.mem_iff.mp (List.mem_map.mpr ⟨_, hv, rfl⟩))⟩
   obtain ⟨p0, i0⟩ := ing v0 (by rw [ey]; exact List.mem_cons_self)
   obtain ⟨p1, i1⟩ := ing v1 (by rw [ey2]; simp)
   have j0 : atI ys 0 = some v0 := atI_nat (j := 0) (by rw [ey]; rfl)
   have j1 : atI ys (-1) = some v1 := by rw [ey2]; exact atI_last _ _
   have ef3 := sa2 _ _ ef
   have s423 := s422.trans sa2
   have ea1 := sa2 _ _ (sf _ _ ea1)
   have on := on.mono (sf.trans sa2)
   have pa1 : Pt H23 (.ref a1) one := ⟨a1, rfl, ea1⟩
   have pa2 : Pt H23 (.ref a2) drawn := ⟨a2, rfl, ea2⟩
   clear ing hp pm pw ed ke
   walk_at "rdf"
   refine rd_ixL (SqL.of ef3) j0 ?_
   walk_at "rdf"
   refine rd_ixL (SqL.of ef3) j1 ?_
   walk_at "rdf"
   refine rd_ixL (SqL.of ef3) j1 ?_
   walk_at "rdf"
   refine ⟨by show 6 ≤ sizeLine; decide, fun lo nlo => ?_⟩
   have slo := Same.new (o := HO.lst [V.ref a2, v0, v1, V.ref a1, v1, V.ref a2]) nlo
   have elo := upd_same (H := H23) (a := lo) (o := HO.lst [V.ref a2, v0, v1, V.ref a1, v1, V.ref a2])
   generalize upd H23 lo (HO.lst [V.ref a2, v0, v1, V.ref a1, v1, V.ref a2]) = H24 at slo elo ⊢
   have all : ∀ v ∈ [V.ref a2, v0, v1, V.ref a1, v1, V.ref a2], ∃ q, Pt H24 v q ∧ inC cs rs q := by
    intro v hv
    simp only [List.mem_cons, List.not_mem_nil, or_false] at hv
    rcases hv with rfl | rfl | rfl | rfl | rfl | rfl
    ·exact ⟨_, pa2.mono slo, hin2⟩
    ·exact ⟨_, p0.mono slo, i0⟩
    ·exact ⟨_, p1.mono slo, i1⟩
    ·exact ⟨_, pa1.mono slo, hin⟩
    ·exact ⟨_, p1.mono slo, i1⟩
    ·exact ⟨_, pa2.mono slo, hin2⟩
   have on := on.mono slo
   have ea1 := slo _ _ ea1
   have s424 := s423.trans slo
   generalize [V.ref a2, v0, v1, V.ref a1, v1, V.ref a2] = xo at elo all
   walk_at "rdf"
   refine ⟨⟨_, SqL.of elo⟩, ?_⟩
   refine forW_list (K := K) (a := lo) (xs := xo) (fun n σ' H' => ∃ (o11 o12 : Option V), σ' = [some (.ref a), some (.ref ls), some (.ref pp), some (.ref p), some (.int ((cs.length : Nat) + 1)), some (.int ((rs.length : Nat) + 1)), some (.int (i : Nat)), some (.ref a1), some (.ref d), some (.ref lf), some (.ref a2), o11, o12] ∧ Same H24 H')
    ⟨o11, o12, rfl, Same.refl _⟩ (fun n σ' H' _ ⟨_, _, _, z⟩ => SqL.of (z _ _ elo)) ?_ ?_
   ·rintro n v σ' H25 hv ⟨o11, o12, rfl, s25⟩
    obtain ⟨oth, pv, ho⟩ := all v (List.mem_of_getElem? hv)
    obtain ⟨b, rfl, hb⟩ := pv.mono s25
    have ea5 := s25 _ _ ea1
    walk_at "rdf"
    refine ⟨p, a1, b, one, oth, sh, cs, rs, rfl, hC.mono (s424.trans s25), lc, lr, ea5, hb, hin, ho, fun H26 s26 no => ?_, fun l yl L H26 s26 nl el py pa => ?_⟩
    ·obtain ⟨kvs, ed, ke, _⟩ := id (on.mono (s25.trans s26)).ob
     walk_at "rdf"
     refine rd_join (fun σ' H' => σ' = [some (.ref a), some (.ref ls), some (.ref pp), some (.ref p), some (.int ((cs.length : Nat) + 1)), some (.int ((rs.length : Nat) + 1)), some (.int (i : Nat)), some (.ref a1), some (.ref d), some (.ref lf), some (.ref a2), some (.ref b), some .non] ∧ Same H24 H') ?_ ?_
     ·walk_at "rdf"
      refine ⟨d, _, rfl, DGet.t (k := ky oth) ed (s26 _ _ hb), ?_⟩
      rw [ke.val, decide_eq_false (fun hm => by
       obtain ⟨m, wm⟩ := (st.mem (Nat.le_refl _) oth).mp hm
       exact no ⟨m, wk_back hin wm⟩)]
      walk_at "rdf"
      refine ⟨rfl, ?_⟩
      rw [show (!decide (V.non = V.non)) = false by simp]
      walk_at "rdf"
      exact ⟨rfl, s25.trans s26⟩
     ·rintro σ' H' ⟨rfl, s⟩
      exact ⟨_, _, rfl, s⟩
    ·obtain ⟨kvs, ed, ke, _⟩ := id (on.mono (s25.trans s26)).ob
     obtain ⟨n', hn', wn', mn'⟩ := pa.len
     have hm : oth ∈ qs := (st.mem (Nat.le_refl _) oth).mpr ⟨n', wk_back ho wn'⟩
     obtain ⟨j, hj⟩ := List.mem_iff_getElem?.mp hm
     obtain ⟨e, he⟩ : ∃ e, ds[j]? = some e := ⟨_, List.getElem?_eq_getElem (by rw [st.ld]; exact (List.getElem?_eq_some_iff.mp hj).1)⟩
     have en : e = n' := by
      have h1 := st.dist (Nat.le_refl _) hj he (wk_back ho wn')
      have h2 := mn' e (wk_back hin (st.walk j _ _ hj he))
      omega
     walk_at "rdf"
     refine rd_join (fun σ' H' => σ' = [some (.ref a), some (.ref ls), some (.ref pp), some (.ref p), some (.int ((cs.length : Nat) + 1)), some (.int ((rs.length : Nat) + 1)), some (.int (i : Nat)), some (.ref a1), some (.ref d), some (.ref lf), some (.ref a2), some (.ref b), some (.ref l)] ∧ Same H24 H') ?_ ?_
     ·walk_at "rdf"
      refine ⟨d, _, rfl, DGet.t (k := ky oth) ed (s26 _ _ hb), ?_⟩
      rw [ke.val, decide_eq_true hm]
      walk_at "rdf"
      refine ⟨pp, l, a1, b, sh, cs, rs, yl, L, one, oth, rfl, pl.mono ((s424.trans s25).trans s26), el, py, pa, s26 _ _ ea5, s26 _ _ hb, fun H27 s27 => ?_⟩
      have on7 := (on.mono ((s25.trans s26).trans s27))
      walk_at "rdf"
      refine rd_lenL (s27 _ _ el) ?_
      walk_at "rdf"
      refine rd_dgetT (k := ky oth) (s27 _ _ ed) (s27 _ _ (s26 _ _ hb)) (on7.val (s27 _ _ ed) st.nd hj he) ?_
      walk_at "rdf"
      rw [decide_eq_true (show ((yl.length : Nat) : Int) = ((e : Nat) : Int) + 1 by rw [py.1]; omega)]
      walk_at "rdf"
      refine rd_bmL (s27 _ _ el) ?_
      refine rd_clear (s27 _ _ el) ?_
      exact ⟨rfl, ((s25.trans s26).trans s27).later (s25.free nl)⟩
     ·rintro σ' H' ⟨rfl, s⟩
      exact ⟨_, _, rfl, s⟩
   ·rintro σ' H25 ⟨o11, o12, rfl, s25⟩
    exact ⟨_, _, _, _, _, _, _, rfl, s424.trans s25⟩
  ·rintro σ' H19 ⟨o6, o7, o8, o9, o10, o11, o12, rfl, s19⟩
   walk_at "rdf"
   exact z _
end
end My
set_option Elab.async false
set_option linter.all false
set_option maxRecDepth 100000
namespace PySem.W.Fast
theorem tw5459736639991392464:True:=⟨⟩
theorem tw7225904913563313232:True:=⟨⟩
theorem tw11224233429186560427:True:=⟨⟩
theorem tw7499913789156281855:True:=⟨⟩
theorem tw7451443994012958661:True:=⟨⟩
theorem tw6069128831438277606:True:=⟨⟩
theorem tw16334790430774050436:True:=⟨⟩
theorem tw13781462843687029740:True:=⟨⟩
theorem tw17137993661239022681:True:=⟨⟩
theorem tw13884686124416707205:True:=⟨⟩
theorem tw14827841387823360983:True:=⟨⟩
theorem tw205726382380605153:True:=⟨⟩
theorem tw7772016678641014444:True:=⟨⟩
theorem tw9327301096341146260:True:=⟨⟩
theorem tw6675269320386150281:True:=⟨⟩
theorem tw15555377448710647643:True:=⟨⟩
theorem tw3310006043402166191:True:=⟨⟩
theorem tw16693409962895520295:True:=⟨⟩
theorem tw7764935184664620433:True:=⟨⟩
theorem tw15929131441432003557:True:=⟨⟩
theorem tw7174396504318836749:True:=⟨⟩
theorem tw7026188751626606537:True:=⟨⟩
theorem tw12097512309078971907:True:=⟨⟩
theorem tw14502216930753149752:True:=⟨⟩
theorem tw4772328282445444062:True:=⟨⟩
theorem tw15440017232065077686:True:=⟨⟩
theorem tw14816850900750477784:True:=⟨⟩
theorem tw13951832686486513717:True:=⟨⟩
theorem tw8537130118103539148:True:=⟨⟩
theorem tw10337733996460612480:True:=⟨⟩
theorem tw894283532966523887:True:=⟨⟩
theorem tw3164314754158245737:True:=⟨⟩
theorem tw16255257518438966509:True:=⟨⟩
theorem tw6591123529612278448:True:=⟨⟩
theorem tw16453042641819903720:True:=⟨⟩
theorem tw16588301528249738563:True:=⟨⟩
theorem tw3875784782981031813:True:=⟨⟩
theorem tw17650492944600107127:True:=⟨⟩
theorem tw6291361052847703037:True:=⟨⟩
theorem tw12568972615333230596:True:=⟨⟩
theorem tw632428470312803820:True:=⟨⟩
theorem tw5364092700130021391:True:=⟨⟩
theorem tw6514483132845067581:True:=⟨⟩
theorem tw8723055796603789237:True:=⟨⟩
theorem tw12545979176107874443:True:=⟨⟩
theorem tw6203275127534202302:True:=⟨⟩
theorem tw2846707356401859822:True:=⟨⟩
theorem tw16743801247788358848:True:=⟨⟩
theorem tw17585619279713593744:True:=⟨⟩
theorem tw11344649425645360811:True:=⟨⟩
theorem tw9825407527142924129:True:=⟨⟩
theorem tw15995024113081554467:True:=⟨⟩
theorem tw14744410078621970984:True:=⟨⟩
theorem tw13989257621362534022:True:=⟨⟩
theorem tw10736333294641404551:True:=⟨⟩
theorem tw13101369703203301600:True:=⟨⟩
theorem tw1943816360677790364:True:=⟨⟩
theorem tw13327439764559615028:True:=⟨⟩
theorem tw9679325118494971381:True:=⟨⟩
theorem tw12196944314537267961:True:=⟨⟩
theorem tw4381110149297727585:True:=⟨⟩
theorem tw130417041991491501:True:=⟨⟩
theorem tw16028257491552469162:True:=⟨⟩
theorem tw12353835447429314264:True:=⟨⟩
theorem tw15684486219606335853:True:=⟨⟩
theorem tw9762759831104054924:True:=⟨⟩
theorem tw13783553215074016343:True:=⟨⟩
theorem tw4590433849593802475:True:=⟨⟩
theorem tw2100234506357922717:True:=⟨⟩
theorem tw4596092756873321981:True:=⟨⟩
theorem tw9799364783080868048:True:=⟨⟩
theorem tw6472000772316217257:True:=⟨⟩
theorem tw4021884495251499770:True:=⟨⟩
theorem tw16250122144314364678:True:=⟨⟩
theorem tw15145113369830763078:True:=⟨⟩
theorem tw11340676348762031205:True:=⟨⟩
theorem tw2916643894657517747:True:=⟨⟩
theorem tw14538264477275345917:True:=⟨⟩
theorem tw666809062050218636:True:=⟨⟩
theorem tw7965660920255399449:True:=⟨⟩
theorem tw10371387061330012140:True:=⟨⟩
theorem tw16469834843994358591:True:=⟨⟩
theorem tw6288682284948024552:True:=⟨⟩
theorem tw4629957070496125600:True:=⟨⟩
theorem tw7150486306362192758:True:=⟨⟩
theorem tw16119764618638626619:True:=⟨⟩
theorem tw15595568748727635530:True:=⟨⟩
theorem tw7998595323277749491:True:=⟨⟩
theorem tw1955257466417246551:True:=⟨⟩
theorem tw8948633984851942858:True:=⟨⟩
theorem tw17068445171455334456:True:=⟨⟩
theorem tw6560916650848497730:True:=⟨⟩
theorem tw18134261948987740510:True:=⟨⟩
theorem tw778534773828370170:True:=⟨⟩
theorem tw2671260783345380760:True:=⟨⟩
theorem tw2628171327301770249:True:=⟨⟩
theorem tw4172575029229459164:True:=⟨⟩
theorem tw11107625324951482192:True:=⟨⟩
theorem tw13403733134759647088:True:=⟨⟩
theorem tw18220301635455990508:True:=⟨⟩
theorem tw16079220724259470810:True:=⟨⟩
theorem tw13450497000344311005:True:=⟨⟩
theorem tw15898543578695185070:True:=⟨⟩
theorem tw15546758590809160490:True:=⟨⟩
theorem tw11059011307164241623:True:=⟨⟩
theorem tw1976768404280109813:True:=⟨⟩
theorem tw3137407453902355921:True:=⟨⟩
theorem tw11000085031352192648:True:=⟨⟩
theorem tw507896475935320641:True:=⟨⟩
theorem tw13232600237219643725:True:=⟨⟩
theorem tw7553877872667155199:True:=⟨⟩
theorem tw8483884704494311695:True:=⟨⟩
theorem tw1040413111634840565:True:=⟨⟩
theorem tw9287368797021072682:True:=⟨⟩
theorem tw5072155110070159307:True:=⟨⟩
theorem tw5815066948473804792:True:=⟨⟩
theorem tw18417917461137154171:True:=⟨⟩
theorem tw12814301916223444736:True:=⟨⟩
theorem tw930411471749831595:True:=⟨⟩
theorem tw13895685188541687616:True:=⟨⟩
theorem tw1673720096809570080:True:=⟨⟩
theorem tw13842690885532259215:True:=⟨⟩
theorem tw15179084888105626609:True:=⟨⟩
theorem tw3160956446197480935:True:=⟨⟩
theorem tw18219939700105038621:True:=⟨⟩
theorem tw13172837548409207355:True:=⟨⟩
theorem tw10556021401819378157:True:=⟨⟩
theorem tw6111991723683776560:True:=⟨⟩
theorem tw2072435260334688622:True:=⟨⟩
theorem tw1590256268509237745:True:=⟨⟩
theorem tw18209299585119259080:True:=⟨⟩
theorem tw17132174640162698969:True:=⟨⟩
theorem tw807134595775479442:True:=⟨⟩
theorem tw14446883780770731363:True:=⟨⟩
theorem tw3698381744931354430:True:=⟨⟩
theorem tw13588821418039445165:True:=⟨⟩
theorem tw11879826574970211928:True:=⟨⟩
theorem tw4656579488636617788:True:=⟨⟩
theorem tw10866051674656379282:True:=⟨⟩
theorem tw737282808246447657:True:=⟨⟩
theorem tw14361685535722378173:True:=⟨⟩
theorem tw7598487003907523330:True:=⟨⟩
theorem tw7015741748397704244:True:=⟨⟩
theorem tw9390333673325498891:True:=⟨⟩
theorem tw15382565232492755581:True:=⟨⟩
theorem tw1628833606408193219:True:=⟨⟩
theorem tw12123531618869811038:True:=⟨⟩
theorem tw11967227613473712779:True:=⟨⟩
theorem tw10558818246888187890:True:=⟨⟩
theorem tw13406954556811148705:True:=⟨⟩
theorem tw14864766806591536071:True:=⟨⟩
theorem tw5635640913871903544:True:=⟨⟩
theorem tw3154354614083155546:True:=⟨⟩
theorem tw3537523873241019085:True:=⟨⟩
theorem tw975868534667384894:True:=⟨⟩
theorem tw3727054427251621596:True:=⟨⟩
theorem tw7865546012141080442:True:=⟨⟩
theorem tw10808674473500022827:True:=⟨⟩
theorem tw11955145151046836051:True:=⟨⟩
theorem tw3173603977851910102:True:=⟨⟩
theorem tw13401993402907967913:True:=⟨⟩
theorem tw6557466414735288102:True:=⟨⟩
theorem tw7403666893536696556:True:=⟨⟩
theorem tw3834582550965107288:True:=⟨⟩
theorem tw18055057347059624558:True:=⟨⟩
theorem tw17945378471249106941:True:=⟨⟩
theorem tw13565147447011702337:True:=⟨⟩
theorem tw8419811108234083877:True:=⟨⟩
theorem tw14396082667507856726:True:=⟨⟩
theorem tw1463033570263531249:True:=⟨⟩
theorem tw142218516208774994:True:=⟨⟩
theorem tw9408556155261293187:True:=⟨⟩
theorem tw10809845151586127145:True:=⟨⟩
theorem tw14618041040199683513:True:=⟨⟩
theorem tw11834109929047654603:True:=⟨⟩
theorem tw4507728127823113697:True:=⟨⟩
theorem tw8367055886281821324:True:=⟨⟩
theorem tw13383754704838888247:True:=⟨⟩
theorem tw9453628035324066182:True:=⟨⟩
theorem tw3371309283684193598:True:=⟨⟩
theorem tw6942231861838896895:True:=⟨⟩
theorem tw9987811335990526986:True:=⟨⟩
theorem tw9306719565732786010:True:=⟨⟩
theorem tw8459083949239933377:True:=⟨⟩
theorem tw7773725448772095841:True:=⟨⟩
theorem tw8112001613833869277:True:=⟨⟩
theorem tw1793018606662282521:True:=⟨⟩
theorem tw6170777285729263134:True:=⟨⟩
theorem tw7406593326017503604:True:=⟨⟩
theorem tw14132036850573434457:True:=⟨⟩
theorem tw14564701425416988032:True:=⟨⟩
theorem tw10569607253513547894:True:=⟨⟩
theorem tw2331415268126815704:True:=⟨⟩
theorem tw7570501335795139021:True:=⟨⟩
theorem tw9735876907114454385:True:=⟨⟩
theorem tw15517735546223786219:True:=⟨⟩
theorem tw10099639368157493019:True:=⟨⟩
theorem tw15592128598837857046:True:=⟨⟩
theorem tw11898583452195951469:True:=⟨⟩
theorem tw1416566536797145463:True:=⟨⟩
theorem tw14018655970158981161:True:=⟨⟩
theorem tw16973841508015224574:True:=⟨⟩
theorem tw2832101116720678565:True:=⟨⟩
theorem tw10066525342101284901:True:=⟨⟩
theorem tw3831962233994153881:True:=⟨⟩
theorem tw13421292455248634554:True:=⟨⟩
theorem tw9578330091746069441:True:=⟨⟩
theorem tw2668916050000118937:True:=⟨⟩
theorem tw13512979831001418673:True:=⟨⟩
theorem tw2768030763026498220:True:=⟨⟩
theorem tw4204350141255643755:True:=⟨⟩
theorem tw14509393341228884297:True:=⟨⟩
theorem tw3408269016338004362:True:=⟨⟩
theorem tw18111503995932276455:True:=⟨⟩
theorem tw14804484966874523139:True:=⟨⟩
theorem tw9082909512380920:True:=⟨⟩
theorem tw15401218682079571026:True:=⟨⟩
theorem tw889728822988410669:True:=⟨⟩
theorem tw4227556478435041922:True:=⟨⟩
theorem tw13172535318771794250:True:=⟨⟩
theorem tw6223206412602589191:True:=⟨⟩
theorem tw13927483426571110064:True:=⟨⟩
theorem tw12128086081927470195:True:=⟨⟩
theorem tw18292835721347615686:True:=⟨⟩
theorem tw4544375607367236059:True:=⟨⟩
theorem tw6174904685897138723:True:=⟨⟩
theorem tw1963263217770972792:True:=⟨⟩
theorem tw1724911436146130755:True:=⟨⟩
theorem tw8336841632531719552:True:=⟨⟩
theorem tw16500099828290899983:True:=⟨⟩
theorem tw14837917746304828586:True:=⟨⟩
theorem tw12921058273418803434:True:=⟨⟩
theorem tw5073583773015186601:True:=⟨⟩
theorem tw8170854317938974898:True:=⟨⟩
theorem tw2189178824814180907:True:=⟨⟩
theorem tw15741183849136177707:True:=⟨⟩
theorem tw5323211382473504210:True:=⟨⟩
theorem tw16577641211523728824:True:=⟨⟩
theorem tw16165274408998380969:True:=⟨⟩
theorem tw13035032264016897953:True:=⟨⟩
theorem tw8375664777840503839:True:=⟨⟩
theorem tw10283390493936936374:True:=⟨⟩
theorem tw13508608236679686823:True:=⟨⟩
theorem tw6791797165588210651:True:=⟨⟩
theorem tw13024856067785552915:True:=⟨⟩
theorem tw9871886550798565574:True:=⟨⟩
theorem tw16800099315976325033:True:=⟨⟩
theorem tw16391705081309108440:True:=⟨⟩
theorem tw15398225282178337032:True:=⟨⟩
theorem tw7610463387126950084:True:=⟨⟩
theorem tw8713500092943060360:True:=⟨⟩
theorem tw1770205935792844473:True:=⟨⟩
theorem tw13234287528917377867:True:=⟨⟩
theorem tw14416946209310869319:True:=⟨⟩
theorem tw13914698454286625822:True:=⟨⟩
theorem tw5519894948187350896:True:=⟨⟩
theorem tw7405132410657777866:True:=⟨⟩
theorem tw18034265841348946160:True:=⟨⟩
theorem tw13034737044574010851:True:=⟨⟩
theorem tw15766431951780429420:True:=⟨⟩
theorem tw15520959490489756339:True:=⟨⟩
theorem tw14016648361557172031:True:=⟨⟩
theorem tw6864740759069894690:True:=⟨⟩
theorem tw3127715687360232057:True:=⟨⟩
theorem tw8776338686742328049:True:=⟨⟩
theorem tw13699829697214440184:True:=⟨⟩
theorem tw15162057595130707424:True:=⟨⟩
theorem tw8437021479761125062:True:=⟨⟩
theorem tw13270092647738220378:True:=⟨⟩
theorem tw14280373821367024114:True:=⟨⟩
theorem tw6788464690101033094:True:=⟨⟩
theorem tw5179684828955798124:True:=⟨⟩
theorem tw7919915042043012401:True:=⟨⟩
theorem tw5647407308686695590:True:=⟨⟩
theorem tw6049299538438090950:True:=⟨⟩
theorem tw9302759262522620998:True:=⟨⟩
theorem tw9598718790829348167:True:=⟨⟩
theorem tw13066609438266959660:True:=⟨⟩
theorem tw16275854438956108159:True:=⟨⟩
theorem tw9459969658143391692:True:=⟨⟩
theorem tw5353282359286757578:True:=⟨⟩
theorem tw1192029218766430962:True:=⟨⟩
theorem tw17233940962274737386:True:=⟨⟩
theorem tw1754615024793164280:True:=⟨⟩
theorem tw8569539598117496560:True:=⟨⟩
theorem tw3991291119718971403:True:=⟨⟩
theorem tw16907396961242958385:True:=⟨⟩
theorem tw5834958975642639864:True:=⟨⟩
theorem tw14174812875825645889:True:=⟨⟩
theorem tw13634411614907775329:True:=⟨⟩
theorem tw8276779303067793728:True:=⟨⟩
theorem tw14088372174599391948:True:=⟨⟩
theorem tw1605287670039074565:True:=⟨⟩
theorem tw5414971003238497953:True:=⟨⟩
theorem tw9225749048419425116:True:=⟨⟩
theorem tw13221385882550478261:True:=⟨⟩
theorem tw17933291458087998428:True:=⟨⟩
theorem tw4834003102688361972:True:=⟨⟩
end PySem.W.Fast
open PySem PySem.W PyProof.Rows
set_option maxRecDepth 100000 in
set_option maxHeartbeats 0 in
theorem PySem.Challenge.cw_sashiko_k18_paths_in_a_region_holds : PySem.Challenge.rw_sashiko_k18_paths_in_a_region.Holds := by
 w_on; o_law; k_head; (case hw => w_witness2)
 k_fill
 refine L2.walk_ofK (l := PySem.Challenge.rw_sashiko_k18_paths_in_a_region) (n := 63) (k := 12) (x := "_law_script") (CX := L2.CX0) (sp := My.sp_law) rfl (by decide) rfl ⟨rfl, by decide, by decide⟩ (fun w h Y => PySem.W.kIn_of Y) ?F ?S ?C
 case F =>
  intro w mg fa h KX G hmg
  have T : ∃ t : My.Ad, My.Txt (L2.KOf KX) mg t := by
   dsimp only [L2.KOf]
   refine' My.txt_mk KX G ?aC_Board ?ga_Board ?rd_Board ?aC_Cloth ?pg_Cloth ?hd_Cloth ?po_Cloth ?sa_Cloth ?mk_Cloth ?kc_Cloth ?na_columns_count ?na_rows_count ?na_col_bits ?na_row_bits ?na_first_colour ?a_isnumber ?F_isnumber ?a_isbelow ?F_isbelow ?a_isbit ?F_isbit ?a_allbits ?F_allbits ?a_isside ?F_isside ?a_needcell ?F_needcell ?fc_BoardInit ?F_BoardInit ?a_ClothInit ?i_ClothInit ?F_ClothInit ?a_Clothwide ?i_Clothwide ?F_Clothwide ?a_Clothtall ?i_Clothtall ?F_Clothtall ?a_Clothbitsalong ?i_Clothbitsalong ?F_Clothbitsalong ?a_Clothbit ?i_Clothbit ?F_Clothbit ?a_Clothstitched ?i_Clothstitched ?F_Clothstitched ?a_beside ?F_beside ?a_waysto ?F_waysto ?a_path ?F_path ?a_Ldraws ?F_Ldraws ?a_Lbits ?F_Lbits ?a_Lrow ?F_Lrow ?a_Lplan ?F_Lplan ?a_Lmade ?F_Lmade ?a_Lsewn ?F_Lsewn ?a_Lflood ?F_Lflood ?a_Lsame ?F_Lsame ?a_Lwalks ?F_Lwalks ?a_law ?F_law ?aX_SewError ?aX_BadSize ?aX_BadBit ?aX_NoCell ?aX_NoLine ?aX_NoStep ?x_BadSize ?x_BadBit ?x_NoCell ?x_NoLine ?x_NoStep ?v_LONGEST_SIDE ?z_isinstance ?z_int ?z_bool ?z_all ?z_len ?z_tuple ?z_list ?z_range ?z_abs ?z_str ?z_zip ?z_ValueError ?z_sorted ?z_min ?z_max
   (case aC_Board | ga_Board | rd_Board | aC_Cloth | pg_Cloth | hd_Cloth | po_Cloth | sa_Cloth | mk_Cloth | kc_Cloth | na_columns_count | na_rows_count | na_col_bits | na_row_bits | na_first_colour | a_isnumber | a_isbelow | a_isbit | a_allbits | a_isside | a_needcell | fc_BoardInit | a_ClothInit | i_ClothInit | a_Clothwide | i_Clothwide | a_Clothtall | i_Clothtall | a_Clothbitsalong | i_Clothbitsalong | a_Clothbit | i_Clothbit | a_Clothstitched | i_Clothstitched | a_beside | a_waysto | a_path | a_Ldraws | a_Lbits | a_Lrow | a_Lplan | a_Lmade | a_Lsewn | a_Lflood | a_Lsame | a_Lwalks | a_law | aX_SewError | aX_BadSize | aX_BadBit | aX_NoCell | aX_NoLine | aX_NoStep | v_LONGEST_SIDE | z_isinstance | z_int | z_bool | z_all | z_len | z_tuple | z_list | z_range | z_abs | z_str | z_zip | z_ValueError | z_sorted | z_min | z_max => k_is)
   (case F_isnumber | F_isbelow | F_isbit | F_allbits | F_isside | F_needcell | F_BoardInit | F_ClothInit | F_Clothwide | F_Clothtall | F_Clothbitsalong | F_Clothbit | F_Clothstitched | F_beside | F_waysto | F_path | F_Ldraws | F_Lbits | F_Lrow | F_Lplan | F_Lmade | F_Lsewn | F_Lflood | F_Lsame | F_Lwalks | F_law => exact L2.fun_mk (by k_is) (by k_is) (by k_is))
   (case x_BadSize | x_BadBit | x_NoCell | x_NoLine | x_NoStep => k_exc)
  obtain ⟨t, T⟩ := T
  have e0 := hmg.symm.trans T.mg_law
  cases e0
  exact ⟨t.d_law, T.F_law.bl fun _ _ _ _ _ _ _ => rfl, fun base _ _ => My.ok_law T⟩
 case S => exact fun K H a ns hl _ hS => ⟨a, ns, rfl, hS, hl, fun _ => rfl⟩
 case C => exact fun _ _ _ _ z => z
