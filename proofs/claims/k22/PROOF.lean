import PyProof.Rows.All
import Wide.All
import OpenK.AllK
import Wide.FinOn
import Lean
import PyProof.EqAt
import PyProof.EqKinds
import PyProof.TupleCall
import KE.KSortTup
import KE.KItemsList
import KE.KPairComp
import PySem.Challenge.RW_sashiko_k22_even_blocks
set_option Elab.async false
set_option linter.all false
set_option maxRecDepth 100000
/-! THE HAND LAYER, for ints, bools, texts, own classes, LISTS and tuples (index, slices, in, append, pop ..), calls, loops. Paste it whole ahead of your own text; what your proof does not reach may be deleted. -/
namespace L2
open PySem PySem.Spec PyProof.Rows

/-- a key: an int or a str -/
abbrev Key := Sum Int Str
def keyIs : Key → Value → Bool
  | .inl k, v => Value.isInt k v
  | .inr x, v => Value.isStrOf x v
def keyH (w : World) : Key → Int
  | .inl k => hashInt k
  | .inr x => hashStr w x
theorem keyIs_shape : ∀ {k : Key} {v : Value}, keyIs k v = true → (∃ i t, k = Sum.inl i ∧ v = Value.int i t) ∨ (∃ x t, k = Sum.inr x ∧ v = Value.str x t)
  | .inl i, v, h => by
    obtain ⟨t, e⟩ := Value.isInt_shape (k := i) (v := v) h
    exact .inl ⟨i, t, rfl, e⟩
  | .inr x, v, h => by
    obtain ⟨t, e⟩ := Value.isStrOf_shape (x := x) (v := v) h
    exact .inr ⟨x, t, rfl, e⟩
theorem key_ll (a b : Int) : decide ((Sum.inl a : Key) = Sum.inl b) = (a == b) := by
  by_cases e : a = b
  · subst e; simp
  · have h : ¬ (Sum.inl a : Key) = Sum.inl b := fun q => e (Sum.inl.inj q)
    rw [decide_eq_false h]
    exact (beq_eq_false_iff_ne.mpr e).symm
theorem key_rr (a b : Str) : decide ((Sum.inr a : Key) = Sum.inr b) = decide (a = b) := by
  by_cases e : a = b
  · subst e; simp
  · have h : ¬ (Sum.inr a : Key) = Sum.inr b := fun q => e (Sum.inr.inj q)
    rw [decide_eq_false h, decide_eq_false e]
theorem key_lr (a : Int) (b : Str) : decide ((Sum.inl a : Key) = Sum.inr b) = false := decide_eq_false (fun q => nomatch q)
theorem key_rl (a : Str) (b : Int) : decide ((Sum.inr a : Key) = Sum.inl b) = false := decide_eq_false (fun q => nomatch q)

def mixKind (prog : Program) (w : World) : PySem.KeyKind prog w Key where
  is := keyIs
  hash := keyH w
  inj := fun v a b ha hb => by
    rcases keyIs_shape ha with ⟨i, t, rfl, rfl⟩ | ⟨x, t, rfl, rfl⟩
    · rcases keyIs_shape hb with ⟨j, u, rfl, e⟩ | ⟨y, u, rfl, e⟩
      · injection e with e1 _; rw [e1]
      · exact nomatch e
    · rcases keyIs_shape hb with ⟨j, u, rfl, e⟩ | ⟨y, u, rfl, e⟩
      · exact nomatch e
      · injection e with e1 _; rw [e1]
  byValue := fun k v h => by
    rcases keyIs_shape h with ⟨i, t, rfl, rfl⟩ | ⟨x, t, rfl, rfl⟩ <;> rfl
  pyHash := fun hv h => by
    rcases keyIs_shape hv with ⟨i, t, rfl, rfl⟩ | ⟨x, t, rfl, rfl⟩
    · exact wpAny_pyHash_int h
    · exact wpAny_pyHash_str h
  eqBool := fun hu hv h => by
    rcases keyIs_shape hu with ⟨i, t, rfl, rfl⟩ | ⟨x, t, rfl, rfl⟩
    · rcases keyIs_shape hv with ⟨j, u, rfl, rfl⟩ | ⟨y, u, rfl, rfl⟩
      · rw [key_ll] at h; exact wpAny_eqBool_int h
      · rw [key_lr] at h; exact SeqAt.EqAt.int_str i t y u _ _ _ _ h
    · rcases keyIs_shape hv with ⟨j, u, rfl, rfl⟩ | ⟨y, u, rfl, rfl⟩
      · rw [key_rl] at h; exact SeqAt.EqAt.str_int x t j u _ _ _ _ h
      · rw [key_rr] at h; exact wpAny_eqBool_str h
  «strs» := fun k x t v h => by
    rcases keyIs_shape h with ⟨i, u, rfl, e⟩ | ⟨y, u, rfl, e⟩
    · exact nomatch e
    · injection e with e1 _
      subst e1
      cases v <;> rfl

end L2

namespace L2
open PySem PySem.Spec PyProof.Rows

/-- a value, without the heap -/
inductive V where
  | non | bl (b : Bool) | int (i : Int) | str (x : Str) | byt (b : Array UInt8) | flt (b : UInt64) | ref (a : Addr) | ty (n : String)
  deriving DecidableEq

def RelV : V → Value → Prop
  | .non, u => u = Value.none
  | .bl b, u => u = Value.bool b
  | .int i, u => ∃ t, u = Value.int i t
  | .str x, u => ∃ t, u = Value.str x t
  | .byt b, u => ∃ t, u = Value.bytes b t
  | .flt b, u => ∃ t, u = Value.float b t
  | .ref a, u => u = Value.ref a
  | .ty n, u => u = Value.type n

abbrev Vals : List V → List Value → Prop := Paired RelV
theorem Vals.length {xs : List V} {us : List Value} (r : Vals xs us) : xs.length = us.length := Paired.length r
theorem Vals.get : ∀ {xs : List V} {us : List Value} {i : Nat} {x : V}, Vals xs us → xs[i]? = some x → ∃ u, us[i]? = some u ∧ RelV x u
  | _, _, _, _, .nil, e => by simp at e
  | _, _, 0, _, .cons r _, e => by simp at e; subst e; exact ⟨_, rfl, r⟩
  | _, _, i + 1, x, .cons _ t, e => by
    obtain ⟨u, h1, h2⟩ := Vals.get (i := i) (x := x) t (by simpa using e)
    exact ⟨u, by simpa using h1, h2⟩
theorem Vals.set {x : V} {u : Value} (r : RelV x u) : ∀ {xs : List V} {us : List Value} (i : Nat), Vals xs us → Vals (xs.set i x) (us.set i u)
  | _, _, _, .nil => .nil
  | _, _, 0, .cons _ t => .cons r t
  | _, _, i + 1, .cons q t => .cons q (Vals.set r i t)
theorem Vals.append : ∀ {xs ys : List V} {us ws : List Value}, Vals xs us → Vals ys ws → Vals (xs ++ ys) (us ++ ws)
  | _, _, _, _, .nil, s => s
  | _, _, _, _, .cons r t, s => .cons r (Vals.append t s)
theorem Vals.take : ∀ {xs : List V} {us : List Value} (n : Nat), Vals xs us → Vals (xs.take n) (us.take n)
  | _, _, 0, _ => .nil
  | _, _, _ + 1, .nil => .nil
  | _, _, n + 1, .cons r t => .cons r (Vals.take n t)
theorem Vals.drop : ∀ {xs : List V} {us : List Value} (n : Nat), Vals xs us → Vals (xs.drop n) (us.drop n)
  | _, _, 0, r => r
  | _, _, _ + 1, .nil => .nil
  | _, _, n + 1, .cons _ t => Vals.drop n t

def RelO : Option V → Option Value → Prop
  | some v, some u => RelV v u
  | none, none => True
  | _, _ => False
def KV {κ : Type} : List (κ × V) → List (κ × Value) → Prop := Paired fun (p : κ × V) (q : κ × Value) => p.1 = q.1 ∧ RelV p.2 q.2

/-- a key of a dict (00_mix): an int or a text -/
def kV : Key → V
  | .inl i => .int i
  | .inr x => .str x

/-- what stands at a tracked address -/
inductive HO where
  /-- a list -/
  | lst (xs : List V)
  /-- a tuple (never changes) -/
  | tup (xs : List V)
  /-- a dict whose keys are ints and texts; one whose keys are tuples of ints and texts (the empty one is both) -/
  | dK (kvs : List (Key × V)) | dT (kvs : List (List Key × V))
  /-- a set of ints: its members, its size -/
  | set (S : Int → Bool) (n : Nat)
  /-- an instance of the class at C, its dict at dx, its attributes -/
  | ins (C dx : Addr) (fs : List (Str × V))
  /-- the dict of the instance at x -/
  | own (x : Addr)
  /-- the dict of an exception -/
  | xd (fs : List (Str × V))
  /-- a bound method, f of x -/
  | met (f x : Addr)
  /-- a range object lo, lo + 1, .. below hi -/
  | rng (lo hi : Int)
  /-- a thing that is known to the object (the script; a dict while a loop walks it): read, never written while it is so -/
  | frz (o : Obj) (u : HO)
  /-- a code object's table -/
  | tbl (ps : Array Value)
  /-- any other thing, by what is true of its one object (a def of one's own: SetO a S n := HO.ext fun h => ..) -/
  | ext (φ : Heap → Prop)

abbrev Hp := Addr → Option HO
def upd (H : Hp) (a : Addr) (o : HO) : Hp := fun b => if b = a then some o else H b
theorem upd_same {H : Hp} {a : Addr} {o : HO} : upd H a o a = some o := by unfold upd; rw [if_pos rfl]
theorem upd_ne {H : Hp} {a b : Addr} {o : HO} (h : b ≠ a) : upd H a o b = H b := by unfold upd; rw [if_neg h]
theorem upd_upd {H : Hp} {a : Addr} {o u : HO} : upd (upd H a o) a u = upd H a u := by
  funext b; unfold upd; split <;> rfl
/-- two objects of different content stand apart -/
theorem ne_of {H : Hp} {a b : Addr} {o u : HO} (h : H a = some o) (h' : H b = some u) (d : o ≠ u) : a ≠ b := by
  intro e; subst e; rw [h] at h'; exact d (Option.some.inj h')
theorem ne_of_none {H : Hp} {a b : Addr} {o : HO} (h : H a = some o) (h' : H b = none) : a ≠ b := by
  intro e; subst e; rw [h] at h'; cases h'

section
variable (P : Program) (w : World)
def ObjOk (H : Hp) (h : Heap) (a : Addr) : HO → Prop
  | .lst xs => xs.length ≤ sizeLine ∧ ∃ (its : List Value) (n : Nat), Vals xs its ∧ h.get? a = some { cls := .type "list", data := .seq its.toArray n }
  | .tup xs => xs.length ≤ sizeLine ∧ ∃ its : List Value, Vals xs its ∧ IsTup h a its.toArray
  | .dK kvs => kvs.length ≤ sizeLine ∧ (a == sysModules) = false ∧ ∃ vs, KV kvs vs ∧ h.DictOf (mixKind P w) a vs
  | .dT kvs => kvs.length ≤ sizeLine ∧ (a == sysModules) = false ∧ ∃ xs : List (List Key × Addr × Value),
      Paired (fun (p : List Key × V) (q : List Key × Addr × Value) => p.1 = q.1 ∧ H q.2.1 = some (.tup (p.1.map kV)) ∧ RelV p.2 q.2.2) kvs xs ∧
      ∃ o es ep, h.get? a = some o ∧ o.ExactDict ∧ o.data = .dict es ep ∧ es.toList = xs.map (entryOfKey (tupleKind (mixKind P w))) ∧ (xs.map (·.1)).Nodup
  | .set S n => h.SetOf (intKind P w) a S n
  | .ins C dx fs => H dx = some (.own a) ∧ fs.length ≤ 1000 ∧ dx ≠ a ∧ h.get? a = some (PySem.W.instObj C dx) ∧
      ∃ mA, h.Ns1 dx mA ∧ (∀ f, RelO (fs.lookup f) (mA f)) ∧ PySem.Within mA (fs.map (·.1))
  | .own _ => ∃ o, h.get? a = some o
  | .xd fs => ∃ mA, h.Ns1 a mA ∧ ∀ f, RelO (fs.lookup f) (mA f)
  | .rng lo hi => ∃ t u v, h.get? a = some { cls := .type "range", data := .fields #[.int lo t, .int hi u, .int 1 v] }
  | .frz o u => h.get? a = some o ∧ ObjOk H h a u
  | .tbl ps => h.get? a = some { cls := .none, data := .fields ps }
  | .met f x => h.get? a = some (PySem.W.methodObj (.ref f) (.ref x))
  | .ext φ => φ h ∧ (∃ o, h.get? a = some o) ∧ ∀ h1 h2 : Heap, φ h1 → (∀ o, h1.get? a = some o → h2.get? a = some o) → φ h2
/-- the abstract heap is held -/
def HOk (H : Hp) (h : Heap) : Prop := ∀ a o, H a = some o → ObjOk P w H h a o
end

section
variable {P : Program} {w : World} {H H' : Hp} {h h' : Heap} {a : Addr} {o : HO}
theorem ObjOk.lt (x : ObjOk P w H h a o) : a < h.objs.size := by
  cases o with
  | lst xs => obtain ⟨_, _, _, _, e⟩ := x; exact Heap.lt_size e
  | tup xs => obtain ⟨_, _, _, p⟩ := x; exact p.lt
  | dK kvs => obtain ⟨_, _, _, _, o, _, _, e, _⟩ := x; exact Heap.lt_size e
  | dT kvs => obtain ⟨_, _, _, _, o, _, _, e, _⟩ := x; exact Heap.lt_size e
  | set S n => obtain ⟨o, _, _, _, e, _⟩ := x; exact Heap.lt_size e
  | ins C dx fs => obtain ⟨_, _, _, e, _⟩ := x; exact Heap.lt_size e
  | own y => obtain ⟨_, e⟩ := x; exact Heap.lt_size e
  | xd fs => obtain ⟨_, ⟨_, _, _, e, _⟩, _⟩ := x; exact Heap.lt_size e
  | rng lo hi => obtain ⟨_, _, _, e⟩ := x; exact Heap.lt_size e
  | frz ob u => obtain ⟨e, _⟩ := x; exact Heap.lt_size e
  | tbl ps => exact Heap.lt_size (show h.get? a = some _ from x)
  | met f y => exact Heap.lt_size (show h.get? a = some _ from x)
  | ext φ => obtain ⟨_, ⟨_, e⟩, _⟩ := x; exact Heap.lt_size e
theorem Paired.mapP {α β : Type} {F G : α → β → Prop} : ∀ {l₁ : List α} {l₂ : List β}, Paired F l₁ l₂ → (∀ a b, F a b → G a b) → Paired G l₁ l₂
  | _, _, .nil, _ => .nil
  | _, _, .cons r t, f => .cons (f _ _ r) (Paired.mapP t f)
/-- what an object's description leans on: its own object, its own dict, the tuples -/
theorem ObjOk.stay (x : ObjOk P w H h a o) (k : ∀ b u, (b = a ∨ H b = some (.own a)) → h.get? b = some u → h'.get? b = some u)
    (ho : ∀ b, H b = some (.own a) → H' b = some (.own a)) (ht : ∀ b xs, H b = some (.tup xs) → H' b = some (.tup xs)) : ObjOk P w H' h' a o := by
  induction o with
  | lst xs => obtain ⟨z, its, n, r, e⟩ := x; exact ⟨z, its, n, r, k _ _ (.inl rfl) e⟩
  | tup xs => obtain ⟨z, its, r, ob, e, c⟩ := x; exact ⟨z, its, r, ob, k _ _ (.inl rfl) e, c⟩
  | dK kvs => obtain ⟨z, y, vs, r, ob, es, ep, e, c⟩ := x; exact ⟨z, y, vs, r, ob, es, ep, k _ _ (.inl rfl) e, c⟩
  | dT kvs =>
    obtain ⟨z, y, xs, r, ob, es, ep, e, c⟩ := x
    exact ⟨z, y, xs, Paired.mapP r fun p q z => ⟨z.1, ht _ _ z.2.1, z.2.2⟩, ob, es, ep, k _ _ (.inl rfl) e, c⟩
  | set S n => obtain ⟨ob, es, ep, t, e, c⟩ := x; exact ⟨ob, es, ep, t, k _ _ (.inl rfl) e, c⟩
  | ins C dx fs =>
    obtain ⟨d, z, ne, e, mA, ⟨od, es, ep, e2, c⟩, r⟩ := x
    exact ⟨ho _ d, z, ne, k _ _ (.inl rfl) e, mA, ⟨od, es, ep, k _ _ (.inr d) e2, c⟩, r⟩
  | own y => obtain ⟨ob, e⟩ := x; exact ⟨ob, k _ _ (.inl rfl) e⟩
  | xd fs => obtain ⟨mA, ⟨od, es, ep, e, c⟩, r⟩ := x; exact ⟨mA, ⟨od, es, ep, k _ _ (.inl rfl) e, c⟩, r⟩
  | rng lo hi => obtain ⟨t, u, v, e⟩ := x; exact ⟨t, u, v, k _ _ (.inl rfl) e⟩
  | frz ob u ih => obtain ⟨e, q⟩ := x; exact ⟨k _ _ (.inl rfl) e, ih q⟩
  | tbl ps =>
    have e : h.get? a = some { cls := .none, data := .fields ps } := x
    show h'.get? a = some { cls := .none, data := .fields ps }
    exact k a _ (.inl rfl) e
  | met f y =>
    have e : h.get? a = some (PySem.W.methodObj (.ref f) (.ref y)) := x
    show h'.get? a = some (PySem.W.methodObj (.ref f) (.ref y))
    exact k a _ (.inl rfl) e
  | ext φ => obtain ⟨p, ⟨o, e⟩, st⟩ := x; exact ⟨st _ _ p fun o q => k _ _ (.inl rfl) q, ⟨o, k _ _ (.inl rfl) e⟩, st⟩
theorem HOk.lt (x : HOk P w H h) (e : H a = some o) : a < h.objs.size := (x a o e).lt
theorem HOk.fresh (x : HOk P w H h) (e : h.objs.size ≤ a) : H a = none := by
  cases q : H a with
  | none => rfl
  | some u => exact absurd (Nat.lt_of_lt_of_le (x.lt q) e) (Nat.lt_irrefl _)
/-- every object of the heap is kept -/
theorem HOk.kept (x : HOk P w H h) (k : ∀ b u, h.get? b = some u → h'.get? b = some u) : HOk P w H h' := fun a o e =>
  (x a o e).stay (fun b u _ q => k b u q) (fun _ q => q) fun _ _ q => q
/-- a new object is laid and tracked -/
theorem HOk.laid (x : HOk P w H h) (k : ∀ b u, h.get? b = some u → h'.get? b = some u) (hp : h.objs.size ≤ a) (new : ObjOk P w (upd H a o) h' a o) : HOk P w (upd H a o) h' := fun b u e => by
  have hn := x.fresh hp
  by_cases hb : b = a
  · subst hb; rw [upd_same] at e; cases e; exact new
  · rw [upd_ne hb] at e
    exact (x b u e).stay (fun c v _ q => k c v q) (fun c q => by rw [upd_ne (ne_of_none q hn)]; exact q) fun c xs q => by rw [upd_ne (ne_of_none q hn)]; exact q
end

/-- what may be read as u: it is u, or a known u -/
def Rd (H : Hp) (a : Addr) (u : HO) : Prop := H a = some u ∨ ∃ o, H a = some (.frz o u)
theorem Rd.ok {P : Program} {w : World} {H : Hp} {h : Heap} {a : Addr} {u : HO} (r : Rd H a u) (x : HOk P w H h) : ObjOk P w H h a u := by
  rcases r with r | ⟨o, r⟩
  · exact x a u r
  · obtain ⟨_, q⟩ := x a _ r
    exact q
/-- what may be written -/
def Mut : Option HO → Prop
  | some (.lst _) => True
  | some (.dK _) => True
  | some (.dT _) => True
  | some (.set _ _) => True
  | some (.ins _ _ _) => True
  | some (.ext _) => True
  | _ => False
section
variable {P : Program} {w : World} {H : Hp} {h h' : Heap} {x e : Addr} {o' : HO}
/-- the object at e is changed: x itself, or the dict of the instance x -/
theorem HOk.write (ok : HOk P w H h) (mu : Mut (H x)) (he : e = x ∨ H e = some (.own x)) (k : ∀ b u, b ≠ e → h.get? b = some u → h'.get? b = some u) (heo : ∃ u, h'.get? e = some u)
    (new : ObjOk P w (upd H x o') h' x o') : HOk P w (upd H x o') h' := fun b u q => by
  have nown : ∀ c y, H c = some (.own y) → c ≠ x := fun c y r z => by subst z; rw [r] at mu; exact mu
  have ntup : ∀ c xs, H c = some (.tup xs) → c ≠ x := fun c xs r z => by subst z; rw [r] at mu; exact mu
  by_cases hb : b = x
  · subst hb; rw [upd_same] at q; cases q; exact new
  · rw [upd_ne hb] at q
    by_cases hbe : b = e
    · have q' : H b = some (.own x) := by
        rcases he with z | z
        · exact absurd (hbe.trans z) hb
        · rw [hbe]; exact z
      rw [q] at q'; cases q'
      obtain ⟨v, hv⟩ := heo
      exact ⟨v, by rw [hbe]; exact hv⟩
    · refine (ok b u q).stay (fun c v hc r => k c v ?_ r) (fun c r => by rw [upd_ne (nown c b r)]; exact r) fun c xs r => by rw [upd_ne (ntup c xs r)]; exact r
      rcases hc with rfl | hc
      · exact hbe
      · rintro rfl
        rcases he with z | z
        · exact nown c b hc z
        · rw [hc] at z; cases z; exact hb rfl
end

/-! ### kept unless tracked; of the frames at fs (the callers') the slots may change (an exception that passes writes there); of the records at ex (iterators) nothing is said -/
structure Un (fs ex : List Addr) (H H' : Hp) (h h' : Heap) : Prop where
  keep : ∀ b o, h.get? b = some o → H b = none → b ∉ fs → b ∉ ex → h'.get? b = some o
  slot : ∀ b o, h.get? b = some o → H b = none → b ∈ fs → b ∉ ex → ∃ sl, h'.get? b = some { o with slots := sl }
  free : ∀ b o, h.get? b = some o → H b = none → b ∉ ex → H' b = none
  there : ∀ b o, h.get? b = some o → b ∉ ex → ∃ o', h'.get? b = some o'
  tups : ∀ b xs, H b = some (.tup xs) → H' b = some (.tup xs)
  frzs : ∀ b o u, H b = some (.frz o u) → H' b = some (.frz o u)
  tbls : ∀ b ps, H b = some (.tbl ps) → ∃ more, H' b = some (.tbl (ps ++ more))
section
variable {fs fs' ex ex' : List Addr} {H H1 H2 : Hp} {h h1 h2 h' : Heap} {a x e : Addr} {o : HO}
theorem Un.any (u : Un fs ex H H1 h h1) {b : Addr} {ob : Obj} (q : h.get? b = some ob) (n : H b = none) (hx : b ∉ ex) : ∃ sl, h1.get? b = some { ob with slots := sl } := by
  by_cases hb : b ∈ fs
  · exact u.slot b ob q n hb hx
  · exact ⟨ob.slots, u.keep b ob q n hb hx⟩
theorem Un.kept (k : ∀ b u, h.get? b = some u → h'.get? b = some u) : Un fs ex H H h h' :=
  ⟨fun b ob q _ _ _ => k b ob q, fun b ob q _ _ _ => ⟨ob.slots, k b ob q⟩, fun _ _ _ n _ => n, fun b ob q _ => ⟨ob, k b ob q⟩, fun _ _ q => q, fun _ _ _ q => q, fun _ ps q => ⟨#[], by rw [q]; simp⟩⟩
theorem Un.refl : Un fs ex H H h h := Un.kept fun _ _ q => q
theorem Un.laid (k : ∀ b u, h.get? b = some u → h'.get? b = some u) (hp : h.objs.size ≤ a) (hn : H a = none) : Un fs ex H (upd H a o) h h' where
  keep := fun b u q _ _ _ => k b u q
  slot := fun b u q _ _ _ => ⟨u.slots, k b u q⟩
  free := fun b u q n _ => by rw [upd_ne (Nat.ne_of_lt (Nat.lt_of_lt_of_le (Heap.lt_size q) hp))]; exact n
  there := fun b u q _ => ⟨u, k b u q⟩
  tups := fun b xs q => by rw [upd_ne (ne_of_none q hn)]; exact q
  frzs := fun b u xs q => by rw [upd_ne (ne_of_none q hn)]; exact q
  tbls := fun b ps q => ⟨#[], by rw [upd_ne (ne_of_none q hn), q]; simp⟩
theorem Un.write (mu : Mut (H x)) (he : e = x ∨ H e = some (.own x)) (k : ∀ b u, b ≠ e → h.get? b = some u → h'.get? b = some u) (heo : ∃ u, h'.get? e = some u) : Un fs ex H (upd H x o) h h' := by
  have hx : ∀ b, H b = none → b ≠ x := fun b n z => by subst z; rw [n] at mu; exact mu
  have hb : ∀ b, H b = none → b ≠ e := fun b n z => by
    subst z
    rcases he with r | r
    · exact hx b n r
    · rw [n] at r; cases r
  have hm : ∀ b u, H b = some u → ¬ Mut (some u) → b ≠ x := fun b u q nm z => by subst z; rw [q] at mu; exact nm mu
  refine ⟨fun b u q n _ _ => k b u (hb b n) q, fun b u q n _ _ => ⟨u.slots, k b u (hb b n) q⟩, fun b u q n _ => by rw [upd_ne (hx b n)]; exact n, fun b u q _ => ?_,
    fun b xs q => by rw [upd_ne (hm b _ q fun z => z)]; exact q, fun b u xs q => by rw [upd_ne (hm b _ q fun z => z)]; exact q, fun b ps q => ⟨#[], by rw [upd_ne (hm b _ q fun z => z), q]; simp⟩⟩
  by_cases hbe : b = e
  · subst hbe; exact heo
  · exact ⟨u, k b u hbe q⟩
end

/-! ### the heap without what is tracked -/
def trk (h : Heap) (H : Hp) : List Addr := (List.range h.objs.size).filter fun a => (H a).isSome
def hidT (h : Heap) (H : Hp) : Heap := PySem.W.hideAll h (trk h H)
theorem hidT_size (h : Heap) (H : Hp) : (hidT h H).objs.size = h.objs.size := PySem.W.hideAll_size _ _
theorem hidT_get {h : Heap} {H : Hp} {b : Addr} {o : Obj} (e : h.get? b = some o) (n : H b = none) : (hidT h H).get? b = some o :=
  PySem.W.hideAll_get _ e fun hm => by
    have q : (H b).isSome = true := (List.mem_filter.mp hm).2
    rw [n] at q; simp at q
theorem of_hidT {h : Heap} {H : Hp} {b : Addr} {o : Obj} (e : (hidT h H).get? b = some o) : h.get? b = some o ∧ H b = none := by
  have e' : h.get? b = some o := PySem.W.of_hideAll (trk h H) e
  refine ⟨e', ?_⟩
  cases q : H b with
  | none => rfl
  | some x =>
    have hm : b ∈ trk h H := List.mem_filter.mpr ⟨List.mem_range.mpr (Heap.lt_size e'), by simp [q]⟩
    have z : (hidT h H).get? b = none := PySem.W.hideAll_none (trk h H) hm
    rw [z] at e; cases e

/-! ### OpenK's ledger, filled with every new object but one -/
def allNews (g h : Heap) (L : Addr) : List (Addr × Obj) := (List.range h.objs.size).filterMap fun a => if a = L ∨ (g.get? a).isSome = true then none else (h.get? a).map fun o => (a, o)
def rest (g h : Heap) (L d : Addr) : List (Addr × Obj) := (allNews g h L).filter fun p => decide (p.1 ≠ d)
end L2

namespace L2
open PySem PySem.Spec PyProof.Rows

/-- the module's facts, over the base: the heap at the law's entry without what is tracked there -/
structure Mod (K : PySem.W.Frag) (mg : Str → Option Value) (base : Heap) : Prop where
  kin : K.In base
  glob : base.Ns mainGlobals mg
  blt : ∃ mb, base.Ns builtinsNs mb ∧ ∀ x : Str, x ≠ "__name__" → mb x = bootBuiltins x
  nolimit : base.NoLimit

/-- the context: a def's body (or a comprehension's block) running. base: fixed through the whole law; s₀, H₀: the entry; outer: the frames whose slots others may change (a def's callers); stack: all frames that run;
   ex: iterators that were made ahead of the entry and are walked here (a comprehension's); fn: the names whose cells were made at the entry (a def: all; a comprehension's block: its own); calm: not within an except suite; pn: pins that every state bears; xe: what is wanted of an exception that leaves the code -/
structure Cx where
  prog : Program
  w : World
  K : PySem.W.Frag
  mg : Str → Option Value
  base : Heap
  A : Around
  N : List Str
  s₀ : Shared
  H₀ : Hp
  env : Env
  outer : List Env
  stack : List Env
  ex : List Addr
  fn : Str → Bool
  calm : Bool
  pn : List (Addr × Obj)
  xe : Value → Shared → Prop
/-- the callers' frames -/
def frs (l : List Env) : List Addr := l.filterMap (·.frame)
abbrev Cx.fs (X : Cx) : List Addr := frs X.outer

def Vis (sc : Scope) (x : Str) : Prop := sc.names.lookup x = some .local ∨ sc.names.lookup x = some .cell ∨ sc.names.lookup x = some .free
def Loc (sc : Scope) (x : Str) : Prop := sc.names.lookup x = some .local ∨ sc.names.lookup x = some .cell
def Look (env : Env) (h : Heap) (m : Str → Option Value) (x : Str) (u : Value) : Prop :=
  (env.kindOf x = some .local ∧ m x = some u) ∨ ((env.kindOf x = some .cell ∨ env.kindOf x = some .free) ∧ ∃ c, env.cells.lookup x = some c ∧ h.IsCell c (some u))

structure Cx.Ok (X : Cx) : Prop where
  mod : Mod X.K X.mg X.base
  kind : X.env.scope.kind = .function
  glob : X.env.globals = mainGlobals
  blt : X.env.builtins = builtinsNs
  above : X.s₀.heap.objs.size ≤ X.env.locals
  inj : ∀ x y c, X.env.cells.lookup x = some c → X.env.cells.lookup y = some c → x = y
  has : ∀ x, (X.env.kindOf x = some .cell ∨ X.env.kindOf x = some .free) → ∃ c, X.env.cells.lookup x = some c
  cab : ∀ x c, X.fn x = true → X.env.cells.lookup x = some c → X.s₀.heap.objs.size ≤ c
  hd : X.calm = true → X.A.handled = none
  frames : X.A.frames = some X.stack
  stk : X.stack = X.outer ∨ (X.stack = X.env :: X.outer ∧ X.env.frame = some X.env.locals)
  exf : ∀ b ∈ X.ex, b ≠ X.env.locals ∧ ∀ x c, X.env.cells.lookup x = some c → c ≠ b
  bs : ∀ b o, X.base.get? b = some o → X.s₀.heap.get? b = some o ∧ X.H₀ b = none
  bsz : X.base.objs.size ≤ X.s₀.heap.objs.size
  noex : ∀ b o, X.base.get? b = some o → b ∉ X.ex
  exfs : ∀ b ∈ X.ex, b ∉ X.fs
  funs : X.s₀.heap.FunFrames X.base X.outer
  frf : ∀ b ∈ X.fs, X.H₀ b = none

structure Inv (X : Cx) (pins : List (Addr × Obj)) (σ : List (Option V)) (H : Hp) (s : Shared) : Prop where
  ok : X.Ok
  os : s.os = X.s₀.os
  bare : AllBare s.gens
  base : Un X.fs X.ex X.H₀ H X.s₀.heap s.heap
  loc : ∃ m, s.heap.Ns X.env.locals m ∧ ∀ (i : Nat) (x : Str) (v : V), X.N[i]? = some x → σ[i]? = some (some v) → Vis X.env.scope x → ∃ u, RelV v u ∧ Look X.env s.heap m x u
  cell : ∀ x c, X.env.cells.lookup x = some c → ∃ v, s.heap.IsCell c v
  free : H X.env.locals = none
  freeC : ∀ x c, X.env.cells.lookup x = some c → H c = none
  pin : ∀ p ∈ X.pn ++ pins, s.heap.get? p.1 = some p.2 ∧ H p.1 = none ∧ p.1 ≠ X.env.locals ∧ p.1 ∉ X.fs ∧ ∀ v, p.2.data ≠ .cell v
  hok : HOk X.prog X.w H s.heap
  len : σ.length = X.N.length

section
variable {X : Cx} {pins : List (Addr × Obj)} {σ : List (Option V)} {H H' : Hp} {s : Shared} {h' : Heap}

theorem Cx.Ok.nofr (ok : X.Ok) {b : Addr} {o : Obj} (e : X.base.get? b = some o) : b ∉ X.fs := fun hb => by
  have := (ok.funs.mem hb).1
  rw [e] at this; cases this
theorem Inv.bs (I : Inv X pins σ H s) : ∀ b o, X.base.get? b = some o → s.heap.get? b = some o ∧ H b = none := fun b o e =>
  ⟨I.base.keep b o (I.ok.bs b o e).1 (I.ok.bs b o e).2 (I.ok.nofr e) (I.ok.noex b o e), I.base.free b o (I.ok.bs b o e).1 (I.ok.bs b o e).2 (I.ok.noex b o e)⟩
theorem Inv.bk (I : Inv X pins σ H s) : ∀ b o, X.base.get? b = some o → s.heap.get? b = some o := fun b o e => (I.bs b o e).1
theorem Inv.mod (I : Inv X pins σ H s) : Mod X.K X.mg X.base := I.ok.mod
theorem Inv.kIn (I : Inv X pins σ H s) : X.K.In s.heap := I.ok.mod.kin.keeps I.bk
theorem Inv.lt (I : Inv X pins σ H s) : X.env.locals < s.heap.objs.size := let ⟨_, hn, _⟩ := I.loc; hn.lt
theorem Inv.sz (I : Inv X pins σ H s) : X.s₀.heap.objs.size ≤ s.heap.objs.size := Nat.le_trans I.ok.above (Nat.le_of_lt I.lt)
theorem Inv.nofs (I : Inv X pins σ H s) {a : Addr} (h : s.heap.objs.size ≤ a) : a ∉ X.fs := fun hb => by
  obtain ⟨_, o, ho, _⟩ := I.ok.funs.mem hb
  exact absurd (Nat.lt_of_lt_of_le (Heap.lt_size ho) (Nat.le_trans I.sz h)) (Nat.lt_irrefl _)
theorem Inv.cne (I : Inv X pins σ H s) : ∀ x c, X.env.cells.lookup x = some c → c ≠ X.env.locals := fun x c e z => by
  obtain ⟨v, o, ho, hd⟩ := I.cell x c e
  obtain ⟨m, ⟨o', es, ep, ho', hd', _⟩, _⟩ := I.loc
  rw [z, ho'] at ho; cases ho; rw [hd'] at hd; cases hd
theorem Inv.funs (I : Inv X pins σ H s) : s.heap.FunFrames X.base X.outer := by
  have all : ∀ (l : List Env), (∀ b ∈ frs l, b ∈ X.fs) → X.s₀.heap.FunFrames X.base l → s.heap.FunFrames X.base l := by
    intro l
    induction l with
    | nil => intro _ _; trivial
    | cons env r ih =>
      intro hs hl
      obtain ⟨hk, ⟨L, o, hf, hn, ho, hd⟩, hr⟩ := hl
      have hL : L ∈ X.fs := hs L (by unfold frs; rw [List.filterMap_cons, hf]; exact List.mem_cons_self)
      obtain ⟨sl, e⟩ := I.base.slot L o ho (I.ok.frf L hL) hL fun z => I.ok.exfs L z hL
      exact ⟨hk, ⟨L, _, hf, hn, e, hd⟩, ih (fun b hb => hs b (by unfold frs; rw [List.filterMap_cons, hf]; exact List.mem_cons_of_mem _ hb)) hr⟩
  exact all X.outer (fun _ hb => hb) I.ok.funs

/-- the frames that run, for a call -/
theorem Inv.stack (I : Inv X pins σ H s) : s.heap.FunFrames X.base X.stack := by
  rcases I.ok.stk with e | ⟨e, hf⟩
  · rw [e]; exact I.funs
  · rw [e]
    obtain ⟨m, hn, _⟩ := I.loc
    refine .cons (by rw [I.ok.kind]; decide) hf hn ?_ I.funs
    exact Heap.get?_none_of_le (Nat.le_trans I.ok.bsz I.ok.above)
theorem Inv.stkSub (I : Inv X pins σ H s) : ∀ b ∈ frs X.stack, b ∈ X.env.locals :: X.fs := fun b hb => by
  rcases I.ok.stk with e | ⟨e, hf⟩
  · rw [e] at hb; exact List.mem_cons_of_mem _ hb
  · rw [e] at hb
    unfold frs at hb
    rw [List.filterMap_cons, hf] at hb
    exact hb
theorem Inv.stkFree (I : Inv X pins σ H s) : ∀ b ∈ frs X.stack, H b = none := fun b hb => by
  rcases List.mem_cons.mp (I.stkSub b hb) with e | hb
  · rw [e]; exact I.free
  · obtain ⟨_, o, ho, _⟩ := I.ok.funs.mem hb
    exact I.base.free b o ho (I.ok.frf b hb) fun z => I.ok.exfs b z hb

/-- THE STEP: the untracked objects but the frame and the records at ch are kept (the callers' frames up to slots), the frame's map is kept, the new abstract heap is held -/
theorem Inv.step {g' : Array GenState} {t' : Nat} {d' : Drawn} {ch : List Addr} (I : Inv X pins σ H s)
    (hch : ∀ b ∈ ch, (b ∈ X.ex ∨ X.s₀.heap.objs.size ≤ b) ∧ b ≠ X.env.locals ∧ (∀ x c, X.env.cells.lookup x = some c → c ≠ b) ∧ ∀ p ∈ X.pn ++ pins, p.1 ≠ b)
    (keep : ∀ b o, b ≠ X.env.locals → b ∉ X.fs → b ∉ ch → s.heap.get? b = some o → H b = none → h'.get? b = some o)
    (slot : ∀ b o, b ≠ X.env.locals → b ∈ X.fs → b ∉ ch → s.heap.get? b = some o → H b = none → ∃ sl, h'.get? b = some { o with slots := sl }) (free : ∀ b o, b ∉ ch → s.heap.get? b = some o → H b = none → H' b = none)
    (there : ∀ b o, b ∉ ch → s.heap.get? b = some o → ∃ o', h'.get? b = some o')
    (tups : ∀ b xs, H b = some (.tup xs) → H' b = some (.tup xs)) (frzs : ∀ b o u, H b = some (.frz o u) → H' b = some (.frz o u)) (tbls : ∀ b ps, H b = some (.tbl ps) → ∃ more, H' b = some (.tbl (ps ++ more)))
    (ns : ∀ m, s.heap.Ns X.env.locals m → h'.Ns X.env.locals m) (hok : HOk X.prog X.w H' h') (hg : AllBare g') :
    Inv X pins σ H' { s with heap := h', gens := g', drawn := d', toks := t' } := by
  have neL : ∀ b o, X.s₀.heap.get? b = some o → b ≠ X.env.locals := fun b o e => Nat.ne_of_lt (Nat.lt_of_lt_of_le (Heap.lt_size e) I.ok.above)
  have neC : ∀ b o, X.s₀.heap.get? b = some o → b ∉ X.ex → b ∉ ch := fun b o e hx hb => by
    rcases (hch b hb).1 with z | z
    · exact hx z
    · exact absurd (Nat.lt_of_lt_of_le (Heap.lt_size e) z) (Nat.lt_irrefl _)
  have cellK : ∀ x c, X.env.cells.lookup x = some c → ∀ v, s.heap.IsCell c v → h'.IsCell c v := fun x c e v ⟨o, ho, hd⟩ => by
    have nch : c ∉ ch := fun z => (hch c z).2.2.1 x c e rfl
    by_cases hc : c ∈ X.fs
    · obtain ⟨sl, q⟩ := slot c o (I.cne x c e) hc nch ho (I.freeC x c e)
      exact ⟨_, q, hd⟩
    · exact ⟨o, keep c o (I.cne x c e) hc nch ho (I.freeC x c e), hd⟩
  refine ⟨I.ok, I.os, hg, ⟨fun b o e n hb hx => ?_, fun b o e n hb hx => ?_, fun b o e n hx => ?_, fun b o e hx => ?_, fun b xs e => tups b xs (I.base.tups b xs e), fun b o xs e => frzs b o xs (I.base.frzs b o xs e), fun b ps e => ?_⟩, ?_, fun x c e => ?_, ?_, fun x c e => ?_, fun p hp => ?_, hok, I.len⟩
  · exact keep b o (neL b o e) hb (neC b o e hx) (I.base.keep b o e n hb hx) (I.base.free b o e n hx)
  · obtain ⟨sl, e1⟩ := I.base.slot b o e n hb hx
    obtain ⟨sl', e2⟩ := slot b _ (neL b o e) hb (neC b o e hx) e1 (I.base.free b o e n hx)
    exact ⟨sl', e2⟩
  · obtain ⟨o', e1⟩ := I.base.there b o e hx
    exact free b o' (neC b o e hx) e1 (I.base.free b o e n hx)
  · obtain ⟨o', e1⟩ := I.base.there b o e hx
    exact there b o' (neC b o e hx) e1
  · obtain ⟨m1, e1⟩ := I.base.tbls b ps e
    obtain ⟨m2, e2⟩ := tbls b _ e1
    exact ⟨m1 ++ m2, by rw [e2, Array.append_assoc]⟩
  · obtain ⟨m, hn, hl⟩ := I.loc
    refine ⟨m, ns m hn, fun i x v e1 e2 e3 => ?_⟩
    obtain ⟨u, r, l⟩ := hl i x v e1 e2 e3
    refine ⟨u, r, ?_⟩
    rcases l with l | ⟨k, c, e, z⟩
    · exact .inl l
    · exact .inr ⟨k, c, e, cellK x c e _ z⟩
  · obtain ⟨v, z⟩ := I.cell x c e
    exact ⟨v, cellK x c e v z⟩
  · obtain ⟨m, ⟨o, _, _, ho, _⟩, _⟩ := I.loc
    exact free _ o (fun z => (hch _ z).2.1 rfl) ho I.free
  · obtain ⟨v, o, ho, hd⟩ := I.cell x c e
    exact free c o (fun z => (hch c z).2.2.1 x c e rfl) ho (I.freeC x c e)
  · obtain ⟨e, n, ne, nf, d⟩ := I.pin p hp
    have nch : p.1 ∉ ch := fun z => (hch p.1 z).2.2.2 p hp rfl
    exact ⟨keep p.1 p.2 ne nf nch e n, free p.1 p.2 nch e n, ne, nf, d⟩
/-- .. where the frame's own object is kept too -/
theorem Inv.un {t' : Nat} (I : Inv X pins σ H s) (u : Un X.fs [] H H' s.heap h') (hok : HOk X.prog X.w H' h') : Inv X pins σ H' { s with heap := h', toks := t' } := by
  obtain ⟨m, ⟨o, es, ep, ho, r⟩, _⟩ := id I.loc
  obtain ⟨sl, hL⟩ := u.any ho I.free (by simp)
  exact I.step (g' := s.gens) (d' := s.drawn) (ch := []) (fun _ z => nomatch z) (fun b o _ hb _ e n => u.keep b o e n hb (by simp)) (fun b o _ hb _ e n => u.slot b o e n hb (by simp)) (fun b o _ e n => u.free b o e n (by simp)) (fun b o _ e => u.there b o e (by simp)) u.tups u.frzs u.tbls (fun m' hm => by
    obtain ⟨o', es', ep', ho', r'⟩ := hm
    rw [ho] at ho'; cases ho'
    exact ⟨_, es', ep', hL, r'⟩) hok I.bare
/-- behind a call (or a comprehension's block): the slots of this frame may have changed too, the records at ch may have turned -/
theorem Inv.call {g' : Array GenState} {t' : Nat} {d' : Drawn} {ch : List Addr} (I : Inv X pins σ H s) (u : Un (frs X.stack) ch H H' s.heap h') (hok : HOk X.prog X.w H' h') (hg : AllBare g')
    (hch : ∀ b ∈ ch, (b ∈ X.ex ∨ X.s₀.heap.objs.size ≤ b) ∧ b ≠ X.env.locals ∧ (∀ x c, X.env.cells.lookup x = some c → c ≠ b) ∧ ∀ p ∈ X.pn ++ pins, p.1 ≠ b) :
    Inv X pins σ H' { s with heap := h', gens := g', drawn := d', toks := t' } := by
  obtain ⟨m, ⟨o, es, ep, ho, r⟩, _⟩ := id I.loc
  obtain ⟨sl, hL⟩ := u.any ho I.free fun z => (hch _ z).2.1 rfl
  exact I.step (ch := ch) hch (fun b o hL hb hc e n => u.keep b o e n (fun z => (List.mem_cons.mp (I.stkSub b z)).elim hL hb) hc) (fun b o _ _ hc e n => u.any e n hc) (fun b o hc e n => u.free b o e n hc) (fun b o hc e => u.there b o e hc) u.tups u.frzs u.tbls (fun m' hm => by
    obtain ⟨o', es', ep', ho', r'⟩ := hm
    rw [ho] at ho'; cases ho'
    exact ⟨_, es', ep', hL, r'⟩) hok hg
/-- an untracked record of ours (an iterator) has turned -/
theorem Inv.turned {t' : Nat} {it : Addr} (I : Inv X pins σ H s) (k : ∀ b o, b ≠ it → s.heap.get? b = some o → h'.get? b = some o) (hn : H it = none) (hL : it ≠ X.env.locals)
    (h1 : it ∈ X.ex ∨ X.s₀.heap.objs.size ≤ it) (h2 : ∀ x c, X.env.cells.lookup x = some c → c ≠ it) (h3 : ∀ p ∈ X.pn ++ pins, p.1 ≠ it) : Inv X pins σ H { s with heap := h', toks := t' } := by
  have nit : ∀ b u, H b = some u → b ≠ it := fun b u e z => by rw [z, hn] at e; cases e
  refine I.step (g' := s.gens) (d' := s.drawn) (ch := [it]) (fun b hb => ?_) (fun b o _ _ hc e _ => k b o (fun z => hc (by simp [z])) e) (fun b o _ _ hc e _ => ⟨o.slots, k b o (fun z => hc (by simp [z])) e⟩) (fun _ _ _ _ n => n)
    (fun b o hc e => ⟨o, k b o (fun z => hc (by simp [z])) e⟩) (fun _ _ e => e) (fun _ _ _ e => e) (fun b ps e => ⟨#[], by rw [e]; simp⟩) (fun m hm => ?_) (fun b u e => ?_) I.bare
  · have e : b = it := by simpa using hb
    subst e
    exact ⟨h1, hL, h2, h3⟩
  · obtain ⟨o, es, ep, ho, r⟩ := hm
    exact ⟨o, es, ep, k _ o (Ne.symm hL) ho, r⟩
  · refine (I.hok b u e).stay (fun c v hc q => k c v ?_ q) (fun _ q => q) fun _ _ q => q
    rcases hc with z | z
    · rw [z]; exact nit b u e
    · exact nit c _ z
theorem Inv.tok (I : Inv X pins σ H s) (t : Nat) : Inv X pins σ H { s with toks := t } := I.un (h' := s.heap) (t' := t) Un.refl I.hok
/-- all objects kept -/
theorem Inv.kept {t' : Nat} (I : Inv X pins σ H s) (k : ∀ b u, s.heap.get? b = some u → h'.get? b = some u) : Inv X pins σ H { s with heap := h', toks := t' } := I.un (Un.kept k) (I.hok.kept k)
/-- a new object laid and tracked -/
theorem Inv.laid {a : Addr} {o : HO} {t' : Nat} (I : Inv X pins σ H s) (k : ∀ b u, s.heap.get? b = some u → h'.get? b = some u) (hp : s.heap.objs.size ≤ a) (new : ObjOk X.prog X.w (upd H a o) h' a o) :
    Inv X pins σ (upd H a o) { s with heap := h', toks := t' } := I.un (Un.laid k hp (I.hok.fresh hp)) (I.hok.laid k hp new)
/-- an object written -/
theorem Inv.write {x e : Addr} {o : HO} {t' : Nat} (I : Inv X pins σ H s) (mu : Mut (H x)) (he : e = x ∨ H e = some (.own x)) (k : ∀ b u, b ≠ e → s.heap.get? b = some u → h'.get? b = some u) (heo : ∃ u, h'.get? e = some u)
    (new : ObjOk X.prog X.w (upd H x o) h' x o) : Inv X pins σ (upd H x o) { s with heap := h', toks := t' } := I.un (Un.write mu he k heo) (I.hok.write mu he k heo new)
theorem Inv.pins_of {pins' : List (Addr × Obj)} (I : Inv X pins σ H s) (h : ∀ p ∈ pins', s.heap.get? p.1 = some p.2 ∧ H p.1 = none ∧ p.1 ≠ X.env.locals ∧ p.1 ∉ X.fs ∧ ∀ v, p.2.data ≠ .cell v) : Inv X pins' σ H s :=
  ⟨I.ok, I.os, I.bare, I.base, I.loc, I.cell, I.free, I.freeC, fun p hp => (List.mem_append.mp hp).elim (fun z => I.pin p (List.mem_append_left _ z)) (h p), I.hok, I.len⟩

theorem nodup_ix {N : List Str} (hN : N.Nodup) {i j : Nat} {x : Str} (a : N[i]? = some x) (b : N[j]? = some x) : i = j := by
  obtain ⟨h1, e1⟩ := List.getElem?_eq_some_iff.mp a
  obtain ⟨h2, e2⟩ := List.getElem?_eq_some_iff.mp b
  exact (List.getElem_inj hN).mp (e1.trans e2.symm)

/-- a name is stored; what changed -/
theorem store_ok2 {M : Model} {A : Around} {E : Value → Shared → Prop} {i : Nat} {x : Str} {v : V} {u : Value} {Q : Unit → Shared → Prop} (I : Inv X pins σ H s) (hN : X.N.Nodup) (hi : X.N[i]? = some x) (hx : Loc X.env.scope x) (r : RelV v u)
    (h : ∀ s', Inv X pins (σ.set i (some v)) H s' → (∃ a, Heap.SameBut a s.heap s'.heap ∧ (a = X.env.locals ∨ X.env.cells.lookup x = some a)) → Q () s') (hf : X.fn x = true ∨ X.env.scope.names.lookup x = some .local := by first | exact .inl rfl | exact .inr rfl | assumption) : wpAny M A (storeName X.env x u) Q E s := by
  obtain ⟨m, hn, hl⟩ := id I.loc
  have hcls : (X.env.scope.kind == .class || (X.env.scope.kind == .module && X.env.locals != X.env.globals)) = false := by rw [I.ok.kind]; rfl
  have hiσ : i < σ.length := by rw [I.len]; exact (List.getElem?_eq_some_iff.mp hi).1
  have cne := I.cne
  have tracked : ∀ {a : Addr} {h' : Heap}, (∃ o, s.heap.get? a = some o ∧ H a = none) → Heap.SameBut a s.heap h' → HOk X.prog X.w H h' := fun {a h'} ha hs b ob e => by
    obtain ⟨_, _, hfree⟩ := ha
    refine (I.hok b ob e).stay (fun c w' hc q => (hs.2 c ?_).trans q) (fun _ q => q) fun _ _ q => q
    rintro rfl
    rcases hc with rfl | hc
    · rw [hfree] at e; cases e
    · rw [hfree] at hc; cases hc
  rcases hx with hk | hk
  · refine wpAny_storeName_local hk hn (fun h' hn' hs => ?_) hcls
    obtain ⟨oL, _, _, hoL, _⟩ := id hn
    refine h _ ⟨I.ok, I.os, I.bare, ⟨fun b o e n hb hx => ?_, fun b o e n hb hx => ?_, I.base.free, fun b o e hx => ?_, I.base.tups, I.base.frzs, I.base.tbls⟩, ⟨_, hn', fun j y v' e1 e2 e3 => ?_⟩, fun y c e => ?_, I.free, I.freeC, fun p hp => ?_, tracked ⟨oL, hoL, I.free⟩ hs, by simpa using I.len⟩ ⟨_, hs, .inl rfl⟩
    · exact (hs.2 b (Nat.ne_of_lt (Nat.lt_of_lt_of_le (Heap.lt_size e) I.ok.above))).trans (I.base.keep b o e n hb hx)
    · obtain ⟨sl, e1⟩ := I.base.slot b o e n hb hx
      exact ⟨sl, (hs.2 b (Nat.ne_of_lt (Nat.lt_of_lt_of_le (Heap.lt_size e) I.ok.above))).trans e1⟩
    · obtain ⟨o', e1⟩ := I.base.there b o e hx
      exact ⟨o', (hs.2 b (Nat.ne_of_lt (Nat.lt_of_lt_of_le (Heap.lt_size e) I.ok.above))).trans e1⟩
    · by_cases hj : j = i
      · subst hj
        rw [hi] at e1; cases e1
        rw [List.getElem?_set_self hiσ] at e2
        cases e2
        exact ⟨u, r, .inl ⟨hk, by simp⟩⟩
      · rw [List.getElem?_set_ne (Ne.symm hj)] at e2
        obtain ⟨u', r', q⟩ := hl j y v' e1 e2 e3
        refine ⟨u', r', ?_⟩
        rcases q with ⟨k, e⟩ | ⟨k, c, e, z⟩
        · refine .inl ⟨k, ?_⟩
          have : y ≠ x := fun e => hj (nodup_ix hN e1 (e ▸ hi))
          simp [this, e]
        · exact .inr ⟨k, c, e, z.sameBut hs (cne y c e)⟩
    · obtain ⟨w', z⟩ := I.cell y c e
      exact ⟨w', z.sameBut hs (cne y c e)⟩
    · obtain ⟨e, n, ne, nf, d⟩ := I.pin p hp
      exact ⟨(hs.2 p.1 ne).trans e, n, ne, nf, d⟩
  · have hfn : X.fn x = true := by
      rcases hf with z | z
      · exact z
      · rw [z] at hk; cases hk
    obtain ⟨c, hc⟩ := I.ok.has x (.inl hk)
    obtain ⟨w', z⟩ := I.cell x c hc
    refine wpAny_storeName_cell I.ok.kind hk hc z (fun h' hc' hs => ?_)
    obtain ⟨oc, hoc, hocd⟩ := id z
    refine h { s with heap := h' } ⟨I.ok, I.os, I.bare, ⟨fun b o e n hb hx => ?_, fun b o e n hb hx => ?_, I.base.free, fun b o e hx => ?_, I.base.tups, I.base.frzs, I.base.tbls⟩, ⟨m, hn.sameBut hs (Ne.symm (cne x c hc)), fun j y v' e1 e2 e3 => ?_⟩, fun y c' e => ?_, I.free, I.freeC, fun p hp => ?_, tracked ⟨oc, hoc, I.freeC x c hc⟩ hs, by simpa using I.len⟩ ⟨c, hs, .inr hc⟩
    · exact (hs.2 b (Nat.ne_of_lt (Nat.lt_of_lt_of_le (Heap.lt_size e) (I.ok.cab x c hfn hc)))).trans (I.base.keep b o e n hb hx)
    · obtain ⟨sl, e1⟩ := I.base.slot b o e n hb hx
      exact ⟨sl, (hs.2 b (Nat.ne_of_lt (Nat.lt_of_lt_of_le (Heap.lt_size e) (I.ok.cab x c hfn hc)))).trans e1⟩
    · obtain ⟨o', e1⟩ := I.base.there b o e hx
      exact ⟨o', (hs.2 b (Nat.ne_of_lt (Nat.lt_of_lt_of_le (Heap.lt_size e) (I.ok.cab x c hfn hc)))).trans e1⟩
    · by_cases hj : j = i
      · subst hj
        rw [hi] at e1; cases e1
        rw [List.getElem?_set_self hiσ] at e2
        cases e2
        exact ⟨u, r, .inr ⟨.inl hk, c, hc, hc'⟩⟩
      · rw [List.getElem?_set_ne (Ne.symm hj)] at e2
        obtain ⟨u', r', q⟩ := hl j y v' e1 e2 e3
        refine ⟨u', r', ?_⟩
        rcases q with q | ⟨k, c', e, z'⟩
        · exact .inl q
        · refine .inr ⟨k, c', e, z'.sameBut hs ?_⟩
          rintro rfl
          exact hj (nodup_ix hN e1 (I.ok.inj _ _ _ e hc ▸ hi))
    · by_cases hcc : c' = c
      · subst hcc; exact ⟨_, hc'⟩
      · obtain ⟨w2, z2⟩ := I.cell y c' e
        exact ⟨w2, z2.sameBut hs hcc⟩
    · obtain ⟨e, n, ne, nf, d⟩ := I.pin p hp
      refine ⟨(hs.2 p.1 ?_).trans e, n, ne, nf, d⟩
      intro q
      rw [q, hoc] at e
      have q' : oc = p.2 := Option.some.inj e
      exact d w' (by rw [← q']; exact hocd)
theorem store_ok {M : Model} {A : Around} {E : Value → Shared → Prop} {i : Nat} {x : Str} {v : V} {u : Value} {Q : Unit → Shared → Prop} (I : Inv X pins σ H s) (hN : X.N.Nodup) (hi : X.N[i]? = some x) (hx : Loc X.env.scope x) (r : RelV v u)
    (h : ∀ s', Inv X pins (σ.set i (some v)) H s' → Q () s') (hf : X.fn x = true ∨ X.env.scope.names.lookup x = some .local := by first | exact .inl rfl | exact .inr rfl | assumption) : wpAny M A (storeName X.env x u) Q E s :=
  store_ok2 I hN hi hx r (fun s' I' _ => h s' I') hf
/-- behind a call or a block, the state as it is -/
theorem Inv.call' {s' : Shared} {ch : List Addr} (I : Inv X pins σ H s) (ho : s'.os = s.os) (u : Un (frs X.stack) ch H H' s.heap s'.heap) (hok : HOk X.prog X.w H' s'.heap) (hg : AllBare s'.gens)
    (hch : ∀ b ∈ ch, (b ∈ X.ex ∨ X.s₀.heap.objs.size ≤ b) ∧ b ≠ X.env.locals ∧ (∀ x c, X.env.cells.lookup x = some c → c ≠ b) ∧ ∀ p ∈ X.pn ++ pins, p.1 ≠ b) : Inv X pins σ H' s' := by
  obtain ⟨h', g', d', t', o'⟩ := s'
  have e : o' = s.os := ho
  subst e
  exact I.call (g' := g') (t' := t') (d' := d') u hok hg hch
end

/-! ### the judgements -/
/-- an exception: its class, its own dict's address (where it has one), the abstract heap behind it -/
abbrev XK := Value → Option Addr → Hp → Prop
abbrev St := List (Option V)
abbrev VK := V → Hp → Prop
/-- an expression's reading; a test's; an argument list's -/
abbrev TE := St → Hp → VK → Prop
abbrev TT := St → Hp → (Bool → Hp → Prop) → Prop
abbrev TA := St → Hp → (List V → Hp → Prop) → Prop
/-- what is wanted behind a statement -/
structure Ends where
  nx : St → Hp → Prop
  rt : VK
  bk : St → Hp → Prop := fun _ _ => False
  ct : St → Hp → Prop := fun _ _ => False
abbrev TS := Ends → St → Hp → Prop

def EP (X : Cx) (pins : List (Addr × Obj)) (σ : St) (Q : VK) (u : Value) (s' : Shared) : Prop := ∃ v H', Inv X pins σ H' s' ∧ RelV v u ∧ Q v H'
def TP (X : Cx) (pins : List (Addr × Obj)) (σ : St) (Q : Bool → Hp → Prop) (b : Bool) (s' : Shared) : Prop := ∃ H', Inv X pins σ H' s' ∧ Q b H'
def AP (X : Cx) (pins : List (Addr × Obj)) (σ : St) (Q : List V → Hp → Prop) (us : List Value) (s' : Shared) : Prop := ∃ vs H', Inv X pins σ H' s' ∧ Vals vs us ∧ Q vs H'
def SP (X : Cx) (pins : List (Addr × Obj)) (D : Ends) (f : Flow) (s' : Shared) : Prop :=
  match f with
  | .next => ∃ σ' H', Inv X pins σ' H' s' ∧ D.nx σ' H'
  | .brk => ∃ σ' H', Inv X pins σ' H' s' ∧ D.bk σ' H'
  | .cont => ∃ σ' H', Inv X pins σ' H' s' ∧ D.ct σ' H'
  | .ret u => ∃ v σ' H', Inv X pins σ' H' s' ∧ RelV v u ∧ D.rt v H'

def PE (X : Cx) (e : Expr) (t : TE) : Prop :=
  ∀ (pins : List (Addr × Obj)) (s : Shared) (σ : St) (H : Hp) (Q : VK), Inv X pins σ H s → t σ H Q → wpAny (model X.prog X.w) X.A (eval e X.env) (EP X pins σ Q) X.xe s
def PT (X : Cx) (e : Expr) (t : TT) : Prop :=
  ∀ (pins : List (Addr × Obj)) (s : Shared) (σ : St) (H : Hp) (Q : Bool → Hp → Prop), Inv X pins σ H s → t σ H Q → wpAny (model X.prog X.w) X.A (isTrue e X.env (eval e X.env)) (TP X pins σ Q) X.xe s
/-- a test whatever its 'whole' is (and, or) -/
def PW (X : Cx) (e : Expr) (t : TT) : Prop :=
  ∀ (whole : Sem Value) (pins : List (Addr × Obj)) (s : Shared) (σ : St) (H : Hp) (Q : Bool → Hp → Prop), Inv X pins σ H s → t σ H Q → wpAny (model X.prog X.w) X.A (isTrue e X.env whole) (TP X pins σ Q) X.xe s
theorem PW.pt {X : Cx} {e : Expr} {t : TT} (h : PW X e t) : PT X e t := h _
/-- an argument list (no star), from the left -/
def PA (X : Cx) (es : List Expr) (t : TA) : Prop :=
  ∀ (pos : Pos) (pins : List (Addr × Obj)) (s : Shared) (σ : St) (H : Hp) (Q : List V → Hp → Prop), Inv X pins σ H s → t σ H Q → wpAny (model X.prog X.w) X.A (spliced (backTo pos (starEach es X.env))) (AP X pins σ Q) X.xe s
def PS (X : Cx) (st : Stmt) (t : TS) : Prop :=
  ∀ (pins : List (Addr × Obj)) (s : Shared) (σ : St) (H : Hp) (D : Ends), Inv X pins σ H s → t D σ H → wpAny (model X.prog X.w) X.A (exec st X.env) (SP X pins D) X.xe s
def PSs (X : Cx) (st : List Stmt) (t : TS) : Prop :=
  ∀ (pins : List (Addr × Obj)) (s : Shared) (σ : St) (H : Hp) (D : Ends), Inv X pins σ H s → t D σ H → wpAny (model X.prog X.w) X.A (execs st X.env) (SP X pins D) X.xe s
/-- weaken the end -/
theorem thn {α : Type} {t : Sem α} {Q Q' : α → Shared → Prop} {M : Model} {A : Around} {E : Value → Shared → Prop} {s : Shared} (h : wpAny M A t Q E s) (hQ : ∀ a s, Q a s → Q' a s) : wpAny M A t Q' E s := wpAny_mono h hQ fun _ _ x => x
end L2

namespace L2
open PySem PySem.Spec PyProof.Rows
section
variable {X : Cx}


/-! ### names and constants -/
def tVar (i : Nat) : TE := fun σ H Q => ∃ v, σ[i]? = some (some v) ∧ Q v H
def tC (v : V) : TE := fun _ H Q => Q v H
theorem pe_var {i : Nat} {x : Str} {pos : Pos} (hN : X.N[i]? = some x) (hv : Vis X.env.scope x) (hd : (x == ("__debug__" : Str)) = false := by decide) (hcd : (x == ("__classdict__" : Str)) = false := by decide) : PE X (.Name x pos) (tVar i) := by
  intro pins s σ H Q I h
  obtain ⟨v, e, h⟩ := h
  obtain ⟨m, hn, hl⟩ := I.loc
  obtain ⟨u, r, l⟩ := hl i x v hN e hv
  have fin : EP X pins σ Q u s := ⟨v, H, I, r, h⟩
  rcases l with ⟨hk, hm⟩ | ⟨hk, c, hc, hcell⟩
  · exact wpAny_Name (wpAny_loadName_local I.ok.kind hk hn hm fin) hd
  · rcases hk with hk | hk
    · exact wpAny_Name (wpAny_loadName_cell I.ok.kind hk hc hcell fin) hd
    · exact wpAny_Name (wpAny_loadName_free I.ok.kind hk hc hcell fin hcd) hd
theorem pe_int {i j pos} : PE X (.Constant (.int i) j pos) (tC (.int i)) := fun _ _ _ H _ I h => wpAny_Constant_int ⟨.int i, H, I.tok _, ⟨_, rfl⟩, h⟩
theorem pe_bl {b j pos} : PE X (.Constant (.bool b) j pos) (tC (.bl b)) := fun _ _ _ H _ I h => Constant_bool ⟨.bl b, H, I, rfl, h⟩
theorem pe_str {x j pos} : PE X (.Constant (.str x) j pos) (tC (.str x)) := fun _ _ _ H _ I h => Calls.Constant_str ⟨.str x, H, I.tok _, ⟨_, rfl⟩, h⟩

/-- a global name of the def -/
def Gl (X : Cx) (x : Str) : Prop := X.env.kindOf x = some .globalImplicit
theorem ld_glob {E : Value → Shared → Prop} {pins : List (Addr × Obj)} {s : Shared} {σ : St} {H : Hp} {x : Str} {u : Value} {pos : Pos} {Q : Value → Shared → Prop} (I : Inv X pins σ H s) (hg : Gl X x) (hm : X.mg x = some u) (h : Q u s)
    (hd : (x == ("__debug__" : Str)) = false := by decide) : wpAny (model X.prog X.w) X.A (eval (.Name x pos) X.env) Q E s :=
  Calls.Name_function_global I.ok.kind hg (Calls.loadGlobal_global (by rw [I.ok.glob]; exact I.mod.glob.keeps I.bk) hm h) hd
theorem ld_blt {E : Value → Shared → Prop} {pins : List (Addr × Obj)} {s : Shared} {σ : St} {H : Hp} {x : Str} {u : Value} {pos : Pos} {Q : Value → Shared → Prop} (I : Inv X pins σ H s) (hg : Gl X x) (hm : X.mg x = none) (hv : bootBuiltins x = some u) (h : Q u s)
    (hn : x ≠ "__name__" := by decide) (hd : (x == ("__debug__" : Str)) = false := by decide) : wpAny (model X.prog X.w) X.A (eval (.Name x pos) X.env) Q E s := by
  obtain ⟨mb, h1, h2⟩ := I.mod.blt
  exact Calls.Name_function_global I.ok.kind hg (Calls.loadGlobal_builtin (by rw [I.ok.glob]; exact I.mod.glob.keeps I.bk) hm (by rw [I.ok.blt]; exact h1.keeps I.bk) ((h2 x hn).trans hv) h) hd
/-- a module's constant, a class, a function, as a value -/
theorem pe_glob {x : Str} {v : V} {u : Value} {pos : Pos} (hg : Gl X x) (hm : X.mg x = some u) (r : RelV v u) (hd : (x == ("__debug__" : Str)) = false := by decide) : PE X (.Name x pos) (tC v) :=
  fun _ _ _ H _ I h => ld_glob I hg hm ⟨v, H, I, r, h⟩ hd
theorem pe_bltn {x : Str} {v : V} {u : Value} {pos : Pos} (hg : Gl X x) (hm : X.mg x = none) (hv : bootBuiltins x = some u) (r : RelV v u) (hn : x ≠ "__name__" := by decide) (hd : (x == ("__debug__" : Str)) = false := by decide) : PE X (.Name x pos) (tC v) :=
  fun _ _ _ H _ I h => ld_blt I hg hm hv ⟨v, H, I, r, h⟩ hn hd

/-! ### arithmetic -/
/-- two ints -/
def t2I (ta tb : TE) (k : Int → Int → Hp → Prop) : St → Hp → Prop := fun σ H => ta σ H fun x H1 => tb σ H1 fun y H2 => ∃ i j, x = .int i ∧ y = .int j ∧ k i j H2
def tAdd (ta tb : TE) : TE := fun σ H Q => t2I ta tb (fun i j H2 => Q (.int (i + j)) H2) σ H
def tSub (ta tb : TE) : TE := fun σ H Q => t2I ta tb (fun i j H2 => Q (.int (i - j)) H2) σ H
/-- the left factor below 2^64 -/
def tMul (ta tb : TE) : TE := fun σ H Q => t2I ta tb (fun i j H2 => (-(2 ^ 64) < i ∧ i < 2 ^ 64) ∧ Q (.int (i * j)) H2) σ H
variable {a b : Expr} {ta tb : TE} {pos : Pos}

/-! ### comparisons -/
def PC (X : Cx) (op : CmpOp) (a b : Expr) (t : TE) : Prop :=
  ∀ (pins : List (Addr × Obj)) (s : Shared) (σ : St) (H : Hp) (Q : VK), Inv X pins σ H s → t σ H Q →
    wpAny (model X.prog X.w) X.A (eval a X.env) (fun v s₁ => wpAny (model X.prog X.w) X.A (eval b X.env) (fun u s₂ => wpAny (model X.prog X.w) X.A (compareOp op v u) (EP X pins σ Q) X.xe s₂) X.xe s₁) X.xe s
def tCmp (p : Int → Int → Bool) (ta tb : TE) : TE := fun σ H Q => t2I ta tb (fun i j H2 => Q (.bl (p i j)) H2) σ H
abbrev tLt : TE → TE → TE := tCmp fun i j => decide (i < j)
abbrev tLe : TE → TE → TE := tCmp fun i j => decide (i ≤ j)
abbrev tGt : TE → TE → TE := tCmp fun i j => decide (j < i)
abbrev tGe : TE → TE → TE := tCmp fun i j => decide (j ≤ i)
abbrev tEqI : TE → TE → TE := tCmp fun i j => decide (i = j)
abbrev tNeI : TE → TE → TE := tCmp fun i j => !decide (i = j)
/-- is None -/
def tIsN (ta : TE) : TE := fun σ H Q => ta σ H fun x H1 => Q (.bl (decide (x = .non))) H1
def tNotN (ta : TE) : TE := fun σ H Q => ta σ H fun x H1 => Q (.bl (!decide (x = .non))) H1
/-- a comparison as a value, as a test -/
def tB (t : TE) : TT := fun σ H Q => t σ H fun x H1 => ∃ c, x = .bl c ∧ Q c H1
/-- an expression whose value is a bool, as a test -/
theorem pt_val {e : Expr} {t : TE} (h : PE X e t) (he : ∀ whole, isTrue e X.env whole = (do let v ← whole; standAt e.pos; holding [v] (truthy v)) := by intro _; rfl) : PT X e (tB t) := by
  intro pins s σ H Q I hw
  refine isTrue_plain (thn (h pins s σ H _ I hw) fun v s1 ⟨x, H1, I1, r1, q1⟩ => ?_) (he _)
  obtain ⟨d, rfl, q⟩ := q1
  cases r1
  exact wpAny_truthy_bool ⟨H1, I1, q⟩

/-! ### and, or, not -/
variable {tA tB' : TT} {rest : List Expr}
def tAnd (t u : TT) : TT := fun σ H Q => t σ H fun c H1 => if c = true then u σ H1 Q else Q false H1
def tOr (t u : TT) : TT := fun σ H Q => t σ H fun c H1 => if c = true then Q true H1 else u σ H1 Q
def tNot (t : TT) : TT := fun σ H Q => t σ H fun c H1 => Q (!c) H1
theorem pw_and1 (ha : PT X a tA) : PW X (.BoolOp .And [a] pos) tA := by
  intro wh pins s σ H Q I h
  refine isTrue_and (thn (ha pins s σ H Q I h) fun c s1 e => ?_)
  cases c with
  | true => exact isTrue_and_nil e
  | false => exact e
theorem pw_or1 (ha : PT X a tA) : PW X (.BoolOp .Or [a] pos) tA := by
  intro wh pins s σ H Q I h
  refine isTrue_or (thn (ha pins s σ H Q I h) fun c s1 e => ?_)
  cases c with
  | false => exact isTrue_or_nil e
  | true => exact e
theorem pw_and (ha : PT X a tA) (hb : PW X (.BoolOp .And (b :: rest) pos) tB') : PW X (.BoolOp .And (a :: b :: rest) pos) (tAnd tA tB') := by
  intro wh pins s σ H Q I h
  refine isTrue_and (thn (ha pins s σ H _ I h) fun c s1 ⟨H1, I1, q1⟩ => ?_)
  cases c with
  | true => exact hb wh pins s1 σ H1 Q I1 q1
  | false => exact ⟨H1, I1, q1⟩
theorem pw_or (ha : PT X a tA) (hb : PW X (.BoolOp .Or (b :: rest) pos) tB') : PW X (.BoolOp .Or (a :: b :: rest) pos) (tOr tA tB') := by
  intro wh pins s σ H Q I h
  refine isTrue_or (thn (ha pins s σ H _ I h) fun c s1 ⟨H1, I1, q1⟩ => ?_)
  cases c with
  | true => exact ⟨H1, I1, q1⟩
  | false => exact hb wh pins s1 σ H1 Q I1 q1
theorem pt_not (ha : PT X a tA) : PT X (.UnaryOp .Not a pos) (tNot tA) := by
  intro pins s σ H Q I h
  exact isTrue_not (ha pins s σ H (fun c H1 => Q (!c) H1) I h)
/-- .. as values (bools) -/
def tAndV (ta tb : TE) : TE := fun σ H Q => ta σ H fun x H1 => ∃ c, x = .bl c ∧ if c = true then tb σ H1 Q else Q (.bl false) H1
def tOrV (ta tb : TE) : TE := fun σ H Q => ta σ H fun x H1 => ∃ c, x = .bl c ∧ if c = true then Q (.bl true) H1 else tb σ H1 Q
def tNotV (ta : TE) : TE := fun σ H Q => ta σ H fun x H1 => ∃ c, x = .bl c ∧ Q (.bl (!c)) H1
theorem pe_one {op} {t : TE} (h : PE X a t) : PE X (.BoolOp op [a] pos) t := fun pins s σ H Q I hw => BoolOp_one (h pins s σ H Q I hw)
theorem pe_and (ha : PE X a ta) (hb : PE X (.BoolOp .And (b :: rest) pos) tb) : PE X (.BoolOp .And (a :: b :: rest) pos) (tAndV ta tb) := by
  intro pins s σ H Q I h
  refine BoolOp_and (thn (ha pins s σ H _ I h) fun v s1 ⟨x, H1, I1, r1, q1⟩ => ?_)
  obtain ⟨c, rfl, q1⟩ := q1
  cases r1
  refine wpAny_truthy_bool ?_
  cases c with
  | true => exact hb pins s1 σ H1 Q I1 q1
  | false => exact ⟨.bl false, H1, I1, rfl, q1⟩
theorem pe_not (ha : PE X a ta) : PE X (.UnaryOp .Not a pos) (tNotV ta) := by
  intro pins s σ H Q I h
  refine UnaryOp_ (thn (ha pins s σ H _ I h) fun v s1 ⟨x, H1, I1, r1, q1⟩ => ?_)
  obtain ⟨c, rfl, q1⟩ := q1
  cases r1
  exact not_of (wpAny_truthy_bool ⟨.bl (!c), H1, I1, rfl, q1⟩)
/-- a if t else b -/
def tIf (t : TT) (ta tb : TE) : TE := fun σ H Q => t σ H fun c H1 => if c = true then ta σ H1 Q else tb σ H1 Q
end
end L2

namespace L2
open PySem PySem.Spec PyProof.Rows

/-! ### a list, a tuple that is read: tracked, frozen, or an object of the module -/
def SqL (K : PySem.W.Frag) (H : Hp) (a : Addr) (xs : List V) : Prop :=
  Rd H a (.lst xs) ∨
    ∃ (o : Obj) (its : Array Value) (n : Nat), K.lookup a = some o ∧ o.cls = .type "list" ∧ o.dict = none ∧ o.data = .seq its n ∧ its.size ≤ sizeLine ∧ Vals xs its.toList
def SqT (K : PySem.W.Frag) (H : Hp) (a : Addr) (xs : List V) : Prop :=
  Rd H a (.tup xs) ∨
    ∃ (o : Obj) (its : Array Value) (n : Nat), K.lookup a = some o ∧ o.cls = .type "tuple" ∧ o.data = .seq its n ∧ its.size ≤ sizeLine ∧ Vals xs its.toList
def absV : Value → Option V
  | .none => some .non
  | .bool b => some (.bl b)
  | .int i _ => some (.int i)
  | .str x _ => some (.str x)
  | .bytes b _ => some (.byt b)
  | .float b _ => some (.flt b)
  | .ref a => some (.ref a)
  | .type n => some (.ty n)
  | _ => none
theorem RelV.abs {x : V} {u : Value} (r : RelV x u) : absV u = some x := by
  cases x with
  | non => cases r; rfl
  | bl _ => cases r; rfl
  | int _ => obtain ⟨t, rfl⟩ := r; rfl
  | str _ => obtain ⟨t, rfl⟩ := r; rfl
  | byt _ => obtain ⟨t, rfl⟩ := r; rfl
  | flt _ => obtain ⟨t, rfl⟩ := r; rfl
  | ref _ => cases r; rfl
  | ty _ => cases r; rfl
theorem RelV.inj {x y : V} {u : Value} (r : RelV x u) (q : RelV y u) : x = y := Option.some.inj (r.abs.symm.trans q.abs)
theorem Vals.inj : ∀ {xs ys : List V} {us : List Value}, Vals xs us → Vals ys us → xs = ys
  | _, _, _, .nil, .nil => rfl
  | _, _, _, .cons r t, .cons r' t' => by rw [r.inj r', Vals.inj t t']
section
variable {X : Cx} {pins : List (Addr × Obj)} {σ : St} {H : Hp} {s : Shared} {a : Addr} {xs ys : List V}
theorem SqL.of {K : PySem.W.Frag} (h : H a = some (.lst xs)) : SqL K H a xs := .inl (.inl h)
theorem SqT.of {K : PySem.W.Frag} (h : H a = some (.tup xs)) : SqT K H a xs := .inl (.inl h)
theorem Inv.list (I : Inv X pins σ H s) (h : SqL X.K H a xs) : ∃ its : List Value, Vals xs its ∧ PlainL s.heap a its.toArray ∧ xs.length ≤ sizeLine := by
  rcases h with h | ⟨o, its, n, hk, hc, hd, hs, hz, r⟩
  · obtain ⟨z, its, n, r, e⟩ := h.ok I.hok
    exact ⟨its, r, ⟨_, n, e, rfl, rfl, rfl⟩, z⟩
  · refine ⟨its.toList, r, ⟨o, n, I.kIn a o hk, hc, hd, by simpa using hs⟩, ?_⟩
    have e := r.length
    simp only [Array.length_toList] at e
    omega
theorem Inv.tuple (I : Inv X pins σ H s) (h : SqT X.K H a xs) : ∃ its : List Value, Vals xs its ∧ IsTup s.heap a its.toArray ∧ xs.length ≤ sizeLine := by
  rcases h with h | ⟨o, its, n, hk, hc, hs, hz, r⟩
  · obtain ⟨z, its, r, p⟩ := h.ok I.hok
    exact ⟨its, r, p, z⟩
  · refine ⟨its.toList, r, ⟨o, I.kIn a o hk, hc, n, by simpa using hs⟩, ?_⟩
    have e := r.length
    simp only [Array.length_toList] at e
    omega
theorem Inv.list_inj (I : Inv X pins σ H s) (h : SqL X.K H a xs) (h' : SqL X.K H a ys) : xs = ys := by
  obtain ⟨its, r, ⟨o, n, e, _, _, d⟩, _⟩ := I.list h
  obtain ⟨its', r', ⟨o', n', e', _, _, d'⟩, _⟩ := I.list h'
  rw [e] at e'; cases e'
  rw [d] at d'
  injection d' with d1 _
  have : its = its' := by simpa using congrArg Array.toList d1
  subst this
  exact r.inj r'
theorem Inv.tuple_inj (I : Inv X pins σ H s) (h : SqT X.K H a xs) (h' : SqT X.K H a ys) : xs = ys := by
  obtain ⟨its, r, ⟨o, e, _, n, d⟩, _⟩ := I.tuple h
  obtain ⟨its', r', ⟨o', e', _, n', d'⟩, _⟩ := I.tuple h'
  rw [e] at e'; cases e'
  rw [d] at d'
  injection d' with d1 _
  have : its = its' := by simpa using congrArg Array.toList d1
  subst this
  exact r.inj r'
end

/-! ### another wish about exceptions -/
abbrev Cx.wish (X : Cx) (E : Value → Shared → Prop) : Cx := { X with xe := E }
/-- no exception leaves -/
abbrev Cx.nox (X : Cx) : Cx := X.wish fun _ _ => False
theorem Cx.Ok.wish {X : Cx} (ok : X.Ok) (E : Value → Shared → Prop) : (X.wish E).Ok :=
  ⟨ok.mod, ok.kind, ok.glob, ok.blt, ok.above, ok.inj, ok.has, ok.cab, ok.hd, ok.frames, ok.stk, ok.exf, ok.bs, ok.bsz, ok.noex, ok.exfs, ok.funs, ok.frf⟩
theorem Cx.Ok.unwish {X : Cx} {E : Value → Shared → Prop} (ok : (X.wish E).Ok) : X.Ok :=
  ⟨ok.mod, ok.kind, ok.glob, ok.blt, ok.above, ok.inj, ok.has, ok.cab, ok.hd, ok.frames, ok.stk, ok.exf, ok.bs, ok.bsz, ok.noex, ok.exfs, ok.funs, ok.frf⟩
section
variable {X : Cx} {pins : List (Addr × Obj)} {σ : St} {H : Hp} {s : Shared} {E : Value → Shared → Prop}
theorem Inv.wish (I : Inv X pins σ H s) (E : Value → Shared → Prop) : Inv (X.wish E) pins σ H s := ⟨I.ok.wish E, I.os, I.bare, I.base, I.loc, I.cell, I.free, I.freeC, I.pin, I.hok, I.len⟩
theorem Inv.unwish (I : Inv (X.wish E) pins σ H s) : Inv X pins σ H s := ⟨I.ok.unwish, I.os, I.bare, I.base, I.loc, I.cell, I.free, I.freeC, I.pin, I.hok, I.len⟩
theorem SP.unwish {D : Ends} {f : Flow} {s' : Shared} (h : SP (X.wish E) pins D f s') : SP X pins D f s' := by
  cases f with
  | next => obtain ⟨σ', H', I, q⟩ := h; exact ⟨σ', H', I.unwish, q⟩
  | brk => obtain ⟨σ', H', I, q⟩ := h; exact ⟨σ', H', I.unwish, q⟩
  | cont => obtain ⟨σ', H', I, q⟩ := h; exact ⟨σ', H', I.unwish, q⟩
  | ret u => obtain ⟨v, σ', H', I, r, q⟩ := h; exact ⟨v, σ', H', I.unwish, r, q⟩
theorem PSs.nox {st : List Stmt} {t : TS} (h : PSs X.nox st t) : PSs X st t := fun pins s σ H D I hw =>
  wpAny_mono (h pins s σ H D (I.wish _) hw) (fun _ _ q => q.unwish) fun _ _ z => False.elim z
end

/-! ### blocks and small statements -/
section
variable {X : Cx} {st : Stmt} {rest : List Stmt} {t u : TS} {e : Expr} {te : TE} {pos : Pos}
def tNext : TS := fun D σ H => D.nx σ H
def tSeq (t u : TS) : TS := fun D σ H => t { D with nx := u D } σ H
theorem pss_nil : PSs X [] tNext := fun _ _ σ H _ I h => wpAny_execs_nil ⟨σ, H, I, h⟩
theorem pss_cons (h1 : PS X st t) (h2 : PSs X rest u) : PSs X (st :: rest) (tSeq t u) := by
  intro pins s σ H D I h
  refine wpAny_execs_cons (thn (h1 pins s σ H { D with nx := u D } I h) fun f s1 q => ?_)
  cases f with
  | next =>
    obtain ⟨σ', H', I', q⟩ := q
    exact h2 pins s1 σ' H' D I' q
  | ret v => exact q
  | brk => exact q
  | cont => exact q
theorem pss_one (h1 : PS X st t) : PSs X [st] t := by
  intro pins s σ H D I h
  refine wpAny_execs_cons (thn (h1 pins s σ H D I h) fun f s1 q => ?_)
  cases f with
  | next => exact wpAny_execs_nil q
  | ret v => exact q
  | brk => exact q
  | cont => exact q
def tBreak : TS := fun D σ H => D.bk σ H
def tCont : TS := fun D σ H => D.ct σ H
/-- in a def's body nothing is shown -/
theorem Inv.quiet {pins : List (Addr × Obj)} {σ : St} {H : Hp} {s : Shared} (I : Inv X pins σ H s) : interactive X.env = false := by simp [interactive, I.ok.kind]
/-- an expression whose value is dropped -/
def tDrop (te : TE) : TS := fun D σ H => te σ H fun _ H1 => D.nx σ H1
theorem ps_expr (he : PE X e te) (hs : swapsWith e none pos.line X.env = pure false := by rfl) : PS X (.Expr e pos) (tDrop te) := by
  intro pins s σ H D I h
  exact wpAny_Expr_any (thn (he pins s σ H _ I h) fun v s1 ⟨x, H1, I1, r1, q1⟩ => ⟨σ, H1, I1, q1⟩) I.quiet hs
def tRet (te : TE) : TS := fun D σ H => te σ H D.rt
theorem ps_ret (he : PE X e te) : PS X (.Return (some e) pos) (tRet te) := by
  intro pins s σ H D I h
  exact wpAny_Return_some (thn (he pins s σ H _ I h) fun v s1 ⟨x, H1, I1, r1, q1⟩ => ⟨x, σ, H1, I1, r1, q1⟩)
def tRetN : TS := fun D _ H => D.rt .non H
def tIfS (c : TT) (t u : TS) : TS := fun D σ H => c σ H fun b H1 => if b = true then t D σ H1 else u D σ H1
theorem ps_if {c : Expr} {a b : List Stmt} {tc : TT} (hc : PT X c tc) (ha : PSs X a t) (hb : PSs X b u) : PS X (.If c a b pos) (tIfS tc t u) := by
  intro pins s σ H D I h
  refine wpAny_If (thn (hc pins s σ H _ I h) fun d s1 ⟨H1, I1, q1⟩ => ?_)
  cases d with
  | true => exact ha pins s1 σ H1 D I1 q1
  | false => exact hb pins s1 σ H1 D I1 q1
/-- code that the proof never comes to -/
def tNever : TS := fun _ _ _ => False
theorem pss_never {sts : List Stmt} : PSs X sts tNever := fun _ _ _ _ _ _ h => h.elim
end

/-! ### targets -/
abbrev TG := V → St → Hp → (St → Hp → Prop) → Prop
abbrev TGs := List V → St → Hp → (St → Hp → Prop) → Prop
def PG (X : Cx) (target : Expr) (t : TG) : Prop :=
  ∀ (pins : List (Addr × Obj)) (s : Shared) (σ : St) (H : Hp) (v : V) (u : Value) (Q : St → Hp → Prop), Inv X pins σ H s → RelV v u → t v σ H Q →
    wpAny (model X.prog X.w) X.A (assign target X.env u) (fun _ s' => ∃ σ' H', Inv X pins σ' H' s' ∧ Q σ' H') X.xe s
/-- several targets, one after another -/
def PGs (X : Cx) (ts : List Expr) (t : TGs) : Prop :=
  ∀ (pins : List (Addr × Obj)) (s : Shared) (σ : St) (H : Hp) (vs : List V) (us : List Value) (Q : St → Hp → Prop), Inv X pins σ H s → Vals vs us → t vs σ H Q →
    wpAny (model X.prog X.w) X.A (assignInOrder ((assignEach ts X.env).map (·.2)) us) (fun _ s' => ∃ σ' H', Inv X pins σ' H' s' ∧ Q σ' H') X.xe s
/-- o[i] = v, by values -/
abbrev TSet := V → V → V → Hp → (Hp → Prop) → Prop
def PSet (X : Cx) (t : TSet) : Prop :=
  ∀ (pins : List (Addr × Obj)) (s : Shared) (σ : St) (H : Hp) (o i v : V) (ov iv u : Value) (Q : Hp → Prop), Inv X pins σ H s → RelV o ov → RelV i iv → RelV v u → t o i v H Q →
    wpAny (model X.prog X.w) X.A (setItem ov iv u) (fun _ s' => ∃ H', Inv X pins σ H' s' ∧ Q H') X.xe s
/-- a op= b, by values -/
abbrev TIp := V → V → Hp → VK → Prop
def PIp (X : Cx) (op : Operator) (t : TIp) : Prop :=
  ∀ (pins : List (Addr × Obj)) (s : Shared) (σ : St) (H : Hp) (x y : V) (v u : Value) (Q : VK), Inv X pins σ H s → RelV x v → RelV y u → t x y H Q →
    wpAny (model X.prog X.w) X.A (inplaceOp op v u) (EP X pins σ Q) X.xe s
section
variable {X : Cx} {pos : Pos}
def gName (i : Nat) : TG := fun v σ H Q => Q (σ.set i (some v)) H
theorem pg_name {i : Nat} {x : Str} (hN : X.N.Nodup) (hi : X.N[i]? = some x) (hx : Loc X.env.scope x) (hf : X.fn x = true ∨ X.env.scope.names.lookup x = some .local := by first | exact .inl rfl | exact .inr rfl | assumption) : PG X (.Name x pos) (gName i) := by
  intro pins s σ H v u Q I r h
  exact wpAny_assign_Name (store_ok I hN hi hx r (fun s' I' => ⟨_, H, I', h⟩) hf)
def gNil : TGs := fun vs σ H Q => vs = [] ∧ Q σ H
def gCons (t : TG) (u : TGs) : TGs := fun vs σ H Q => ∃ v r, vs = v :: r ∧ t v σ H fun σ' H' => u r σ' H' Q
theorem pgs_nil : PGs X [] gNil := by
  intro pins s σ H vs us Q I r h
  obtain ⟨e, h⟩ := h
  subst e
  cases r
  exact assignInOrder_nil ⟨σ, H, I, h⟩
theorem pgs_cons {e : Expr} {es : List Expr} {t : TG} {u : TGs} (h1 : PG X e t) (h2 : PGs X es u)
    (hs : (assignEach (e :: es) X.env).map (·.2) = assign e X.env :: (assignEach es X.env).map (·.2) := by rfl) : PGs X (e :: es) (gCons t u) := by
  intro pins s σ H vs us Q I r h
  obtain ⟨v, vr, e1, h⟩ := h
  subst e1
  cases r with
  | cons r rr =>
    rw [hs]
    refine assignInOrder_cons (thn (h1 pins s σ H _ _ _ I r h) fun _ s1 ⟨σ1, H1, I1, q1⟩ => ?_)
    exact h2 pins s1 σ1 H1 _ _ Q I1 rr q1
/-- (a, b, ..) = a tuple of that length -/
def gTup (K : PySem.W.Frag) (n : Nat) (t : TGs) : TG := fun v σ H Q => ∃ a xs, v = .ref a ∧ SqT K H a xs ∧ xs.length = n ∧ t xs σ H Q
theorem pg_tup {es : List Expr} {k : Nat} {t : TGs} {n : Nat} (hc : X.calm = true) (h : PGs X es t)
    (hn : (assignEach es X.env).length = n := by rfl) (hst : (assignEach es X.env).findIdx? (·.1) = none := by rfl) : PG X (.Tuple es k pos) (gTup X.K n t) := by
  intro pins s σ H v u Q I r hw
  obtain ⟨a, xs, e1, hq, hl, hw⟩ := hw
  subst e1
  cases r
  obtain ⟨its, rv, ht, hz⟩ := I.tuple hq
  refine assign_Tuple_tuple (I.ok.hd hc) ht (by simp [hn, ← hl, rv.length]) hst fun h' hx => ?_
  have I1 : Inv X pins σ H { s with heap := h' } := I.kept (t' := s.toks) fun b o e => hx b o (Nat.ne_of_lt (Heap.lt_size e)) e
  exact h pins _ σ H xs _ Q I1 (by simpa using rv) hw
/-- o[i] = .. -/
def gSub (to ti : TE) (t : TSet) : TG := fun v σ H Q => to σ H fun o H1 => ti σ H1 fun i H2 => t o i v H2 fun H3 => Q σ H3
theorem pg_sub {o i : Expr} {to ti : TE} {t : TSet} (ho : PE X o to) (hi : PE X i ti) (hs : PSet X t)
    (ha : ∀ v, assign (.Subscript o i pos) X.env v = (do
      let ov ← holding [v] (eval o X.env)
      let iv ← holding [v, ov] (eval i X.env)
      standAt pos
      holding [v, ov, iv] (setItem ov iv v)
      release [v, ov, iv] []) := by intro _; rfl) : PG X (.Subscript o i pos) (gSub to ti t) := by
  intro pins s σ H v u Q I r h
  rw [ha]
  refine wpAny_bind (wpAny_holding (thn (ho pins s σ H _ I h) fun ov s1 ⟨x, H1, I1, r1, q1⟩ => ?_))
  refine wpAny_bind (wpAny_holding (thn (hi pins s1 σ H1 _ I1 q1) fun iv s2 ⟨y, H2, I2, r2, q2⟩ => ?_))
  refine wpAny_bind (wpAny_standAt (wpAny_bind (wpAny_holding (thn (hs pins s2 σ H2 x y v ov iv u _ I2 r1 r2 r q2) fun _ s3 ⟨H3, I3, q3⟩ => ?_))))
  exact wpAny_release ⟨σ, H3, I3, q3⟩
/-- target = value -/
def tAsg (te : TE) (g : TG) : TS := fun D σ H => te σ H fun x H1 => g x σ H1 D.nx
theorem ps_asg {tg e : Expr} {te : TE} {g : TG} (he : PE X e te) (hg : PG X tg g) (hs : swapsWithSole [tg] e pos.line X.env = pure false := by rfl) (hw : swappedStores [tg] e X.env = pure none := by rfl)
    (h1 : (assignEach [tg] X.env).map (·.2) = [assign tg X.env] := by rfl) : PS X (.Assign [tg] e pos) (tAsg te g) := by
  intro pins s σ H D I h
  refine wpAny_Assign_stores (thn (he pins s σ H _ I h) fun v s1 ⟨x, H1, I1, r1, q1⟩ => ?_) hs hw
  rw [h1]
  exact thn (hg pins s1 σ H1 x v _ I1 r1 q1) fun _ s2 q => q
/-- name = value -/
theorem ps_set {i : Nat} {x : Str} {e : Expr} {te : TE} {pos' : Pos} (hN : X.N.Nodup) (hi : X.N[i]? = some x) (hx : Loc X.env.scope x) (he : PE X e te) (hs : swapsWith e (some (.Name x pos')) pos.line X.env = pure false := by rfl) (hf : X.fn x = true ∨ X.env.scope.names.lookup x = some .local := by first | exact .inl rfl | exact .inr rfl | assumption) :
    PS X (.Assign [.Name x pos'] e pos) (tAsg te (gName i)) := by
  intro pins s σ H D I h
  refine wpAny_Assign_Name (thn (he pins s σ H _ I h) fun v s1 ⟨y, H1, I1, r1, q1⟩ => ?_) hs
  exact store_ok I1 hN hi hx r1 (fun s2 I2 => ⟨_, H1, I2, q1⟩) hf
/-- a, b = x, y with plain local names: stored from the right; the pair itself is not tracked (the opening rows as in PyProof/Rows/TupAssign.lean:23) -/
def tPar (i j : Nat) (ta : TA) : TS := fun D σ H => ta σ H fun vs H1 => ∃ v w, vs = [v, w] ∧ D.nx ((σ.set i (some v)).set j (some w)) H1
/-- name op= e -/
def tAug (i : Nat) (te : TE) (ti : TIp) : TS := fun D σ H => ∃ x, σ[i]? = some (some x) ∧ te σ H fun y H1 => ti x y H1 fun z H2 => D.nx (σ.set i (some z)) H2
/-- o[i] op= e -/
def tAugS (to ti te : TE) (tget : V → V → Hp → VK → Prop) (tip : TIp) (tset : TSet) : TS := fun D σ H => to σ H fun o H1 => ti σ H1 fun i H2 => tget o i H2 fun x H3 => te σ H3 fun y H4 => tip x y H4 fun z H5 => tset o i z H5 fun H6 => D.nx σ H6
/-- o[i], by values -/
def PGet (X : Cx) (t : V → V → Hp → VK → Prop) : Prop :=
  ∀ (pins : List (Addr × Obj)) (s : Shared) (σ : St) (H : Hp) (o i : V) (ov iv : Value) (Q : VK), Inv X pins σ H s → RelV o ov → RelV i iv → t o i H Q →
    wpAny (model X.prog X.w) X.A (getItem ov iv) (EP X pins σ Q) X.xe s
/-- ints -/
def ipI (f : Int → Int → Int) : TIp := fun x y H Q => ∃ i j, x = .int i ∧ y = .int j ∧ Q (.int (f i j)) H
end

/-! ### while -/
section
variable {X : Cx} {pos : Pos}
/-- the invariant W with its measure -/
def tWhile (c : TT) (tb : TS) : TS := fun D σ H => ∃ W : Nat → St → Hp → Prop, (∃ m, W m σ H) ∧ ∀ m σ H, W m σ H →
  c σ H fun b H1 => if b = true then ∃ N : St → Hp → Prop, (∀ σ' H', N σ' H' → ∃ m', m' < m ∧ W m' σ' H') ∧ tb { D with nx := N, ct := N, bk := D.nx } σ H1 else D.nx σ H1
theorem ps_while {c : Expr} {body : List Stmt} {tc : TT} {tb : TS} (hp : PassesOwn (model X.prog X.w) X.A X.env X.xe) (hc : PT X c tc) (hb : PSs X body tb) : PS X (.While c body [] pos) (tWhile tc tb) := by
  intro pins s σ H D I h
  obtain ⟨W, ⟨m0, w0⟩, turn⟩ := h
  refine wpAny_While (codeAny_whileLoop (fun n s' => ∃ σ' H', Inv X pins σ' H' s' ∧ W n σ' H') ?_ m0 ⟨σ, H, I, w0⟩)
  rintro n s1 ⟨σ1, H1, I1, w1⟩
  refine wpAny_passesOwn hp (thn (hc pins s1 σ1 H1 _ I1 (turn n σ1 H1 w1)) fun b s2 ⟨H2, I2, q2⟩ => ?_)
  cases b with
  | true =>
    obtain ⟨N, hN, q2⟩ := q2
    rw [if_pos rfl]
    refine wpAny_passesOwn hp (thn (hb pins s2 σ1 H2 _ I2 q2) fun f s3 q3 => ?_)
    cases f with
    | next =>
      obtain ⟨σ3, H3, I3, n3⟩ := q3
      obtain ⟨m', hm, w3⟩ := hN σ3 H3 n3
      exact ⟨m', hm, σ3, H3, I3, w3⟩
    | cont =>
      obtain ⟨σ3, H3, I3, n3⟩ := q3
      obtain ⟨m', hm, w3⟩ := hN σ3 H3 n3
      exact ⟨m', hm, σ3, H3, I3, w3⟩
    | brk => exact q3
    | ret v => exact q3
  | false =>
    rw [if_neg Bool.false_ne_true]
    exact wpAny_execs_nil ⟨σ1, H2, I2, q2⟩
end

/-! ### what a loop or a comprehension walks -/
/-- at turn i: it yields x (the heap may grow), or it stops -/
structure It where
  go : Nat → Hp → Prop
  yld : Nat → Hp → V → Hp → Prop
  stop : Nat → Hp → Prop
/-- the iterator's own objects may turn: they are not the frame's, not pinned, younger than the entry (or a comprehension's own) -/
def FpOk (X : Cx) (pins : List (Addr × Obj)) (H : Hp) (b : Addr) : Prop :=
  H b = none ∧ b ≠ X.env.locals ∧ b ∉ X.fs ∧ (b ∈ X.ex ∨ X.s₀.heap.objs.size ≤ b) ∧ (∀ x c, X.env.cells.lookup x = some c → c ≠ b) ∧ ∀ p ∈ X.pn ++ pins, p.1 ≠ b
theorem Inv.fpOk {X : Cx} {pins : List (Addr × Obj)} {σ : St} {H H' : Hp} {s : Shared} {b : Addr} (I : Inv X pins σ H s) (hb : s.heap.objs.size ≤ b) (hn : H' b = none) : FpOk X pins H' b := by
  refine ⟨hn, Nat.ne_of_gt (Nat.lt_of_lt_of_le I.lt hb), I.nofs hb, .inr (Nat.le_trans I.sz hb), fun x c e z => ?_, fun p hp z => ?_⟩
  · obtain ⟨v, q⟩ := I.cell x c e
    exact absurd (Nat.lt_of_lt_of_le q.lt (by rw [z]; exact hb)) (Nat.lt_irrefl _)
  · exact absurd (Nat.lt_of_lt_of_le (Heap.lt_size (I.pin p hp).1) (by rw [z]; exact hb)) (Nat.lt_irrefl _)
structure Turn (P : Program) (w : World) (K : PySem.W.Frag) (tg : Expr) (J : It) (fp : List Addr) (it : Addr) (tn : Nat → Heap → Prop) : Prop where
  mem : it ∈ fp
  obj : ∀ i h, tn i h → ∀ b ∈ fp, ∃ o, h.get? b = some o ∧ ∀ v, o.data ≠ .cell v
  keep : ∀ i h h', tn i h → (∀ b ∈ fp, ∀ o, h.get? b = some o → h'.get? b = some o) → tn i h'
  item : ∀ (X : Cx), X.prog = P → X.w = w → X.K = K → X.calm = true → ∀ (i : Nat) (pins : List (Addr × Obj)) (s : Shared) (σ : St) (H : Hp) (E : Value → Shared → Prop), Inv X pins σ H s → (∀ b ∈ fp, FpOk X pins H b) → tn i s.heap → J.go i H →
    wpAny (model P w) X.A (pyNext (.ref it)) (fun r s1 => ∃ u, r = some u ∧
      wpAny (model P w) X.A (letOwnedTupleGo tg (.ref it) u) (fun _ s2 => ∃ x H', Inv X pins σ H' s2 ∧ RelV x u ∧ J.yld i H x H' ∧ tn (i + 1) s2.heap ∧ ∀ b ∈ fp, H' b = none) E s1) E s
  done : ∀ (X : Cx), X.prog = P → X.w = w → X.K = K → X.calm = true → ∀ (i : Nat) (pins : List (Addr × Obj)) (s : Shared) (σ : St) (H : Hp) (E : Value → Shared → Prop), Inv X pins σ H s → (∀ b ∈ fp, FpOk X pins H b) → tn i s.heap → J.stop i H →
    wpAny (model P w) X.A (pyNext (.ref it)) (fun r s1 => r = none ∧ Inv X pins σ H s1) E s
  self : ∀ (A : Around) (i : Nat) (s : Shared) (Q : Value → Shared → Prop) (E : Value → Shared → Prop), tn i s.heap → Q (.ref it) s → wpAny (model P w) A (pyIter (.ref it)) Q E s
abbrev TI := St → Hp → (It → Hp → Prop) → Prop
/-- an iterator has come -/
def PIE (X : Cx) (pins : List (Addr × Obj)) (σ : St) (tg : Expr) (R : It → Hp → Prop) (itv : Value) (s2 : Shared) : Prop :=
  ∃ (it : Addr) (fp : List Addr) (tn : Nat → Heap → Prop) (J : It) (H' : Hp), itv = .ref it ∧ Inv X pins σ H' s2 ∧ Turn X.prog X.w X.K tg J fp it tn ∧ tn 0 s2.heap ∧ (∀ b ∈ fp, FpOk X pins H' b) ∧ R J H'
def PI (X : Cx) (tg iter : Expr) (wi : TI) : Prop :=
  ∀ (pins : List (Addr × Obj)) (s : Shared) (σ : St) (H : Hp) (R : It → Hp → Prop), Inv X pins σ H s → wi σ H R →
    wpAny (model X.prog X.w) X.A (eval iter X.env) (fun v s1 => wpAny (model X.prog X.w) X.A (pyIter v) (PIE X pins σ tg R) X.xe s1) X.xe s

/-- the step ahead of the store is nothing for an iterator that keeps no tuple -/
theorem go_of {M : Model} {A : Around} {E : Value → Shared → Prop} {s : Shared} {tg : Expr} {it : Addr} {u : Value} {o : Obj} {n : String} {vs : Array Value} {Q : Unit → Shared → Prop} (ho : s.heap.get? it = some o) (hc : o.cls = .type n) (hd : o.data = .fields vs)
    (hn : ["enumerate", "zip", "dict_itemiterator", "dict_reverseitemiterator", "odict_iterator", "itertools.zip_longest", "itertools.pairwise"].contains n = false) (hQ : Q () s) : wpAny M A (letOwnedTupleGo tg (.ref it) u) Q E s := by
  unfold letOwnedTupleGo
  cases tg <;> first
    | exact wpAny_pure hQ
    | (cases u <;> first
        | exact wpAny_pure hQ
        | (refine wpAny_bind (wpAny_load ho ?_)
           rw [hc, hd]
           show wpAny M A (if (["enumerate", "zip", "dict_itemiterator", "dict_reverseitemiterator", "odict_iterator", "itertools.zip_longest", "itertools.pairwise"].contains n && vs[0]? == some (rawInt _)) = true then _ else _) Q E s
           rw [if_neg (by intro h; rw [hn, Bool.false_and] at h; cases h)]
           exact wpAny_pure hQ))

/-- the list at a, as it stands at each turn (a loop may append to it) -/
def Itl (K : PySem.W.Frag) (a : Addr) : It :=
  ⟨fun i H => ∃ xs x, SqL K H a xs ∧ xs[i]? = some x, fun i H x H' => H' = H ∧ ∀ xs, SqL K H a xs → xs[i]? = some x, fun i H => ∃ xs, SqL K H a xs ∧ xs.length ≤ i⟩
def Itt (K : PySem.W.Frag) (a : Addr) : It :=
  ⟨fun i H => ∃ xs x, SqT K H a xs ∧ xs[i]? = some x, fun i H x H' => H' = H ∧ ∀ xs, SqT K H a xs → xs[i]? = some x, fun i H => ∃ xs, SqT K H a xs ∧ xs.length ≤ i⟩
/-- lo, lo + 1, .. (n of them) -/
def Itr (lo : Int) (n : Nat) : It := ⟨fun i _ => i < n, fun i H x H' => H' = H ∧ x = .int (lo + i), fun i _ => n ≤ i⟩
theorem turn_list {P : Program} {w : World} {K : PySem.W.Frag} {tg : Expr} (a it : Addr) : Turn P w K tg (Itl K a) [it] it (fun i h => h.IsListIter it a i) where
  mem := by simp
  obj := fun i h st b hb => by
    have e : b = it := by simpa using hb
    subst e
    obtain ⟨o, e, c, d⟩ := st
    exact ⟨o, e, fun v z => by rw [d] at z; cases z⟩
  keep := fun i h h' st k => st.at fun o e => k it (by simp) o e
  item := by
    intro X hP hw hK hc i pins s σ H E I hf st hg
    subst hP hw hK
    obtain ⟨xs, x, hq, hx⟩ := hg
    obtain ⟨its, rv, p, hz⟩ := I.list hq
    obtain ⟨u, hu, ru⟩ := rv.get hx
    obtain ⟨f0, f1, f2, f3, f4, f5⟩ := hf it (by simp)
    refine wpAny_pyNext_list_item st p.isList (x := u) (by simpa using hu) fun h' st' sb => ?_
    have I1 : Inv X pins σ H { s with heap := h' } := I.turned (t' := s.toks) (fun b o hb e => (sb.2 b hb).trans e) f0 f1 f3 f4 f5
    obtain ⟨o, e, c, d⟩ := id st'
    exact ⟨u, rfl, go_of (s := { s with heap := h' }) e c d (by decide) ⟨x, H, I1, ru, ⟨rfl, fun ys hy => by rw [I.list_inj hy hq]; exact hx⟩, st', fun b hb => (hf b hb).1⟩⟩
  done := by
    intro X hP hw hK hc i pins s σ H E I hf st hg
    subst hP hw hK
    obtain ⟨xs, hq, hx⟩ := hg
    obtain ⟨its, rv, p, hz⟩ := I.list hq
    obtain ⟨f0, f1, f2, f3, f4, f5⟩ := hf it (by simp)
    have hl := rv.length
    exact wpAny_pyNext_list_end (I.ok.hd hc) st p.isList (by simp; omega) fun h' eb => ⟨rfl, I.turned (t' := s.toks) (fun b o hb e => eb b o hb e) f0 f1 f3 f4 f5⟩
  self := fun _ _ _ _ _ st h => wpAny_pyIter_listiter st h
theorem turn_range {P : Program} {w : World} {K : PySem.W.Frag} {tg : Expr} (it : Addr) (lo : Int) (n : Nat) : Turn P w K tg (Itr lo n) [it] it (fun i h => IsRangeIter h it (lo + (i : Nat) * 1) ((n : Int) - (i : Nat)) 1) where
  mem := by simp
  obj := fun i h st b hb => by
    have e : b = it := by simpa using hb
    subst e
    exact ⟨_, st, fun v z => by
      have z' : Data.fields _ = Data.cell v := z
      cases z'⟩
  keep := fun i h h' st k => k it (by simp) _ st
  item := by
    intro X hP hw hK hc i pins s σ H E I hf st hg
    subst hP hw hK
    obtain ⟨f0, f1, f2, f3, f4, f5⟩ := hf it (by simp)
    have W := Walks.range (prog := X.prog) (w := X.w) (I.ok.hd hc) it lo 1 n
    refine W.item i s _ _ hg st fun v h' tk hv st' kk => ?_
    obtain ⟨t, rfl⟩ := hv
    have I1 : Inv X pins σ H { s with heap := h', toks := tk } := I.turned (fun b o hb e => kk b o (by simpa using hb) e) f0 f1 f3 f4 f5
    refine ⟨_, rfl, go_of (s := { s with heap := h', toks := tk }) (n := "range_iterator") st' rfl rfl (by decide) ⟨.int (lo + i), H, I1, ⟨t, ?_⟩, ⟨rfl, rfl⟩, st', fun b hb => (hf b hb).1⟩⟩
    rw [Int.mul_one]
  done := by
    intro X hP hw hK hc i pins s σ H E I hf st hg
    subst hP hw hK
    obtain ⟨f0, f1, f2, f3, f4, f5⟩ := hf it (by simp)
    exact wpAny_pyNext_range_end (I.ok.hd hc) st (by have : n ≤ i := hg; omega) fun h' eb => ⟨rfl, I.turned (t' := s.toks) (fun b o hb e => eb b o hb e) f0 f1 f3 f4 f5⟩
  self := fun _ _ _ _ _ st h => wpAny_pyIter_rangeiter st h
end L2

namespace L2
open PySem PySem.Spec PyProof.Rows
section
variable {X : Cx} {tg : Expr}
def iList (K : PySem.W.Frag) (tl : TE) : TI := fun σ H R => tl σ H fun x H1 => ∃ a, x = .ref a ∧ (∃ xs, SqL K H1 a xs) ∧ R (Itl K a) H1
def iTup (K : PySem.W.Frag) (tl : TE) : TI := fun σ H R => tl σ H fun x H1 => ∃ a, x = .ref a ∧ (∃ xs, SqT K H1 a xs) ∧ R (Itt K a) H1
theorem pi_list {l : Expr} {tl : TE} (hl : PE X l tl) : PI X tg l (iList X.K tl) := by
  intro pins s σ H R I h
  refine thn (hl pins s σ H _ I h) fun v s1 ⟨x, H1, I1, r1, q1⟩ => ?_
  obtain ⟨a, e, ⟨xs, hq⟩, q⟩ := q1
  subst e
  cases r1
  obtain ⟨its, rv, p, hz⟩ := I1.list hq
  refine wpAny_pyIter_list p.isList ?_
  refine ⟨s1.heap.objs.size, [s1.heap.objs.size], _, _, H1, rfl, I1.kept (t' := s1.toks) fun b o e => Heap.get?_push_of_some _ e, turn_list a _, ⟨_, Heap.get?_push_size _ rfl, rfl, rfl⟩, fun b hb => ?_, q⟩
  have e : b = s1.heap.objs.size := by simpa using hb
  subst e
  exact I1.fpOk (Nat.le_refl _) (I1.hok.fresh (Nat.le_refl _))
/-- a range object just made, walked -/
theorem range_it {pins : List (Addr × Obj)} {σ : St} {H : Hp} {s : Shared} {R : It → Hp → Prop} {E : Value → Shared → Prop} {lo hi : Int} {t u v : Tok} {tk : Nat} (I : Inv X pins σ H s) (h1 : -(2 ^ 62) ≤ lo) (h2 : lo < 2 ^ 62) (h3 : -(2 ^ 62) ≤ hi) (h4 : hi < 2 ^ 62)
    (q : R (Itr lo (hi - lo).toNat) H) : wpAny (model X.prog X.w) X.A (pyIter (.ref s.heap.objs.size)) (PIE X pins σ tg R) E { s with heap := s.heap.push { cls := .type "range", data := .fields #[.int lo t, .int hi u, .int 1 v] }, toks := tk } := by
  refine wpAny_pyIter_range (IsRange.new ..) (small_one h1 h2 h3 h4) ?_
  have I1 : Inv X pins σ H { s with heap := s.heap.push { cls := .type "range", data := .fields #[.int lo t, .int hi u, .int 1 v] }, toks := tk } := I.kept fun b o e => Heap.get?_push_of_some _ e
  refine ⟨(s.heap.push { cls := .type "range", data := .fields #[.int lo t, .int hi u, .int 1 v] }).objs.size, [(s.heap.push { cls := .type "range", data := .fields #[.int lo t, .int hi u, .int 1 v] }).objs.size], _, _, H, rfl,
    I1.kept (t' := tk) fun b o e => Heap.get?_push_of_some _ e, turn_range _ lo (hi - lo).toNat, ?_, fun b hb => ?_, q⟩
  · have e1 : lo + ((0 : Nat) : Int) * 1 = lo := by simp
    have e2 : (((hi - lo).toNat : Nat) : Int) - ((0 : Nat) : Int) = Builtin.Range.rangeSize lo hi 1 := by rw [rangeSize_one]; split <;> omega
    show IsRangeIter _ _ (lo + ((0 : Nat) : Int) * 1) ((((hi - lo).toNat : Nat) : Int) - ((0 : Nat) : Int)) 1
    rw [e1, e2]
    exact Heap.get?_push_size _ rfl
  · have e : b = (s.heap.push { cls := .type "range", data := .fields #[.int lo t, .int hi u, .int 1 v] }).objs.size := by simpa using hb
    subst e
    exact I1.fpOk (Nat.le_refl _) (I1.hok.fresh (Nat.le_refl _))
def iRng1 (ta : TA) : TI := fun σ H R => ta σ H fun vs H1 => ∃ j : Int, vs = [.int j] ∧ -(2 ^ 62) ≤ j ∧ j < 2 ^ 62 ∧ R (Itr 0 j.toNat) H1
def iRng2 (ta : TA) : TI := fun σ H R => ta σ H fun vs H1 => ∃ i j : Int, vs = [.int i, .int j] ∧ (-(2 ^ 62) ≤ i ∧ i < 2 ^ 62 ∧ -(2 ^ 62) ≤ j ∧ j < 2 ^ 62) ∧ R (Itr i (j - i).toNat) H1
theorem pi_range1 {a : Expr} {ta : TA} {p pos : Pos} (hg : Gl X "range") (hm : X.mg "range" = none) (ha : PA X [a] ta) (hs : starEach [a] X.env = [(false, eval a X.env)] := by rfl) : PI X tg (.Call (.Name "range" p) [a] [] pos) (iRng1 ta) := by
  intro pins s σ H R I h
  refine Call_ (ld_blt I hg hm boot_range (PyProof.Rows.callWith_type1 (thn (ha pos pins s σ H _ I h) fun us s1 ⟨vs, H1, I1, r1, q1⟩ => ?_) hs rfl))
  obtain ⟨j, e, q1, q2, q⟩ := q1
  subst e
  cases r1 with
  | cons r rr =>
    cases rr
    obtain ⟨t, rfl⟩ := r
    exact call_range_1 (range_it I1 (by omega) (by omega) q1 q2 (by simpa using q))
theorem pi_range2 {a b : Expr} {ta : TA} {p pos : Pos} (hg : Gl X "range") (hm : X.mg "range" = none) (ha : PA X [a, b] ta) (hs : starEach [a, b] X.env = [(false, eval a X.env), (false, eval b X.env)] := by rfl) (hs2 : starEach [b] X.env = [(false, eval b X.env)] := by rfl) :
    PI X tg (.Call (.Name "range" p) [a, b] [] pos) (iRng2 ta) := by
  intro pins s σ H R I h
  refine Call_ (ld_blt I hg hm boot_range (PyProof.Rows.callWith_type1 (thn (ha pos pins s σ H _ I h) fun us s1 ⟨vs, H1, I1, r1, q1⟩ => ?_) (by rw [hs, hs2]) (by rw [hs2]; rfl)))
  obtain ⟨i, j, e, ⟨q1, q2, q3, q4⟩, q⟩ := q1
  subst e
  cases r1 with
  | cons r rr =>
    cases rr with
    | cons r' rr =>
      cases rr
      obtain ⟨t, rfl⟩ := r
      obtain ⟨t', rfl⟩ := r'
      exact call_range_2 (range_it I1 q1 q2 q3 q4 q)

/-! ### for -/
/-- W: the invariant by the turn and a measure; N: what the body is to reach -/
def tFor (wi : TI) (g : TG) (tb : TS) : TS := fun D σ H => wi σ H fun J H1 => ∃ W : Nat → Nat → St → Hp → Prop, (∃ m, W 0 m σ H1) ∧ ∀ i m σ H, W i m σ H →
  (J.stop i H ∧ D.nx σ H) ∨ (J.go i H ∧ ∃ N : St → Hp → Prop, (∀ σ' H', N σ' H' → ∃ m', m' < m ∧ W (i + 1) m' σ' H') ∧ ∀ x H', J.yld i H x H' → g x σ H' fun σ2 H2 => tb { D with nx := N, ct := N, bk := D.nx } σ2 H2)
/-- the records at fp as they stand -/
def pinsAt (fp : List Addr) (h : Heap) : List (Addr × Obj) := fp.filterMap fun b => (h.get? b).map fun o => (b, o)
theorem mem_pinsAt {fp : List Addr} {h : Heap} {b : Addr} {o : Obj} (hb : b ∈ fp) (e : h.get? b = some o) : (b, o) ∈ pinsAt fp h := List.mem_filterMap.mpr ⟨b, hb, by rw [e]; rfl⟩
theorem of_pinsAt {fp : List Addr} {h : Heap} {p : Addr × Obj} (hp : p ∈ pinsAt fp h) : p.1 ∈ fp ∧ h.get? p.1 = some p.2 := by
  obtain ⟨b, hb, e⟩ := List.mem_filterMap.mp hp
  cases q : h.get? b with
  | none => rw [q] at e; cases e
  | some o =>
    rw [q] at e
    have e' : (b, o) = p := Option.some.inj e
    subst e'
    exact ⟨hb, q⟩
theorem Inv.pinned {pins : List (Addr × Obj)} {σ : St} {H : Hp} {s : Shared} {fp : List Addr} (I : Inv X pins σ H s) (hf : ∀ b ∈ fp, FpOk X pins H b) (ho : ∀ b ∈ fp, ∃ o, s.heap.get? b = some o ∧ ∀ v, o.data ≠ .cell v) : Inv X (pins ++ pinsAt fp s.heap) σ H s :=
  I.pins_of fun p hp => (List.mem_append.mp hp).elim (fun z => I.pin p (List.mem_append_right _ z)) fun z => by
    obtain ⟨hb, e⟩ := of_pinsAt z
    obtain ⟨f0, f1, f2, _⟩ := hf p.1 hb
    obtain ⟨o, e', d⟩ := ho p.1 hb
    rw [e] at e'; cases e'
    exact ⟨e, f0, f1, f2, d⟩
theorem Inv.unpinned {pins pl : List (Addr × Obj)} {σ : St} {H : Hp} {s : Shared} (I : Inv X (pins ++ pl) σ H s) : Inv X pins σ H s := I.pins_of fun p hp => I.pin p (List.mem_append_right _ (List.mem_append_left _ hp))
theorem ps_for {iter : Expr} {body : List Stmt} {wi : TI} {g : TG} {tb : TS} {pos : Pos} (hp : PassesOwn (model X.prog X.w) X.A X.env X.xe) (hc : X.calm = true) (hi : PI X tg iter wi) (hg : PG X tg g) (hb : PSs X body tb)
    (hs : ∀ x, foldedSetIterable iter X.env x = pure x := by intro _; rfl) : PS X (.For tg iter body [] pos) (tFor wi g tb) := by
  intro pins s σ H D I h
  refine wpAny_For (thn (hi pins s σ H _ I h) fun v s1 h1 => thn h1 fun itv s2 h2 => ?_) hs
  obtain ⟨it, fp, tn, J, H2, e, I2, T, st2, f2, W, ⟨m0, w0⟩, turn⟩ := h2
  subst e
  -- what stays true of the iterator's objects through the loop
  have stat : ∀ {H' : Hp}, (∀ b ∈ fp, H' b = none) → ∀ b ∈ fp, FpOk X pins H' b := fun hn b hb => ⟨hn b hb, (f2 b hb).2⟩
  refine codeAny_forLoop_any (fun n s' => ∃ i σ' H', Inv X pins σ' H' s' ∧ tn i s'.heap ∧ (∀ b ∈ fp, H' b = none) ∧ W i n σ' H') ?_ m0 ⟨0, σ, H2, I2, st2, fun b hb => (f2 b hb).1, w0⟩
  rintro n s3 ⟨i, σ3, H3, I3, st3, fr3, w3⟩
  rcases turn i n σ3 H3 w3 with ⟨stop, qn⟩ | ⟨go, N, hN, step⟩
  · refine wpAny_passesOwn hp (thn (T.done X rfl rfl rfl hc i pins s3 σ3 H3 X.xe I3 (stat fr3) st3 stop) fun r s4 ⟨hr, I4⟩ => ?_)
    subst hr
    exact wpAny_execs_nil ⟨σ3, H3, I4, qn⟩
  · refine wpAny_passesOwn hp (thn (T.item X rfl rfl rfl hc i pins s3 σ3 H3 X.xe I3 (stat fr3) st3 go) fun r s4 ⟨u, hr, h4⟩ => ?_)
    subst hr
    refine wpAny_passesOwn hp (thn h4 fun _ s5 ⟨x, H5, I5, r5, y5, st5, fr5⟩ => ?_)
    have I5' := I5.pinned (stat fr5) (T.obj _ _ st5)
    refine wpAny_passesOwn hp (thn (hg _ s5 σ3 H5 x u _ I5' r5 (step x H5 y5)) fun _ s6 ⟨σ6, H6, I6, q6⟩ => ?_)
    refine wpAny_passesOwn hp (thn (hb _ s6 σ6 H6 _ I6 q6) fun f s7 q7 => ?_)
    have again : ∀ {σ7 : St} {H7 : Hp}, Inv X (pins ++ pinsAt fp s5.heap) σ7 H7 s7 → N σ7 H7 → ∃ m, m < n ∧ ∃ i σ' H', Inv X pins σ' H' s7 ∧ tn i s7.heap ∧ (∀ b ∈ fp, H' b = none) ∧ W i m σ' H' := fun {σ7 H7} I7 n7 => by
      obtain ⟨m', hm, w7⟩ := hN σ7 H7 n7
      refine ⟨m', hm, i + 1, σ7, H7, I7.unpinned, T.keep _ _ _ st5 fun b hb o e => (I7.pin (b, o) (List.mem_append_right _ (List.mem_append_right _ (mem_pinsAt hb e)))).1, fun b hb => ?_, w7⟩
      obtain ⟨o, e, d⟩ := T.obj _ _ st5 b hb
      exact (I7.pin (b, o) (List.mem_append_right _ (List.mem_append_right _ (mem_pinsAt hb e)))).2.1
    cases f with
    | next => obtain ⟨σ7, H7, I7, n7⟩ := q7; exact again I7 n7
    | cont => obtain ⟨σ7, H7, I7, n7⟩ := q7; exact again I7 n7
    | brk => obtain ⟨σ7, H7, I7, q7⟩ := q7; exact ⟨σ7, H7, I7.unpinned, q7⟩
    | ret v => obtain ⟨x7, σ7, H7, I7, r7, q7⟩ := q7; exact ⟨x7, σ7, H7, I7.unpinned, r7, q7⟩
end

/-! ### the forms one uses -/
/-- over a list that the body leaves as it is -/
theorem for_list {K : PySem.W.Frag} {a : Addr} {xs : List V} {g : TG} {tb : TS} {D : Ends} {σ : St} {H : Hp} (Pv : Nat → St → Hp → Prop) (h0 : Pv 0 σ H) (hl : ∀ i σ H, i ≤ xs.length → Pv i σ H → SqL K H a xs)
    (hs : ∀ i x σ H, xs[i]? = some x → Pv i σ H → g x σ H fun σ2 H2 => tb { D with nx := Pv (i + 1), ct := Pv (i + 1), bk := D.nx } σ2 H2) (hd : ∀ σ H, Pv xs.length σ H → D.nx σ H) :
    ∃ W : Nat → Nat → St → Hp → Prop, (∃ m, W 0 m σ H) ∧ ∀ i m σ H, W i m σ H →
      ((Itl K a).stop i H ∧ D.nx σ H) ∨ ((Itl K a).go i H ∧ ∃ N : St → Hp → Prop, (∀ σ' H', N σ' H' → ∃ m', m' < m ∧ W (i + 1) m' σ' H') ∧ ∀ x H', (Itl K a).yld i H x H' → g x σ H' fun σ2 H2 => tb { D with nx := N, ct := N, bk := D.nx } σ2 H2) := by
  refine ⟨fun i m σ H => m = xs.length - i ∧ i ≤ xs.length ∧ Pv i σ H, ⟨xs.length, by simp, Nat.zero_le _, h0⟩, ?_⟩
  rintro i m σ H ⟨rfl, hi, p⟩
  have q := hl i σ H hi p
  by_cases hlt : i < xs.length
  · refine .inr ⟨⟨xs, xs[i], q, by simp [hlt]⟩, Pv (i + 1), fun σ' H' p' => ⟨xs.length - (i + 1), by omega, rfl, hlt, p'⟩, fun x H' y => ?_⟩
    obtain ⟨e, y⟩ := y
    subst e
    exact hs i x σ _ (y xs q) p
  · have e : i = xs.length := by omega
    subst e
    exact .inl ⟨⟨xs, q, Nat.le_refl _⟩, hd σ H p⟩
theorem for_range {lo : Int} {n : Nat} {g : TG} {tb : TS} {D : Ends} {σ : St} {H : Hp} (Pv : Nat → St → Hp → Prop) (h0 : Pv 0 σ H)
    (hs : ∀ i σ H, i < n → Pv i σ H → g (.int (lo + i)) σ H fun σ2 H2 => tb { D with nx := Pv (i + 1), ct := Pv (i + 1), bk := D.nx } σ2 H2) (hd : ∀ σ H, Pv n σ H → D.nx σ H) :
    ∃ W : Nat → Nat → St → Hp → Prop, (∃ m, W 0 m σ H) ∧ ∀ i m σ H, W i m σ H →
      ((Itr lo n).stop i H ∧ D.nx σ H) ∨ ((Itr lo n).go i H ∧ ∃ N : St → Hp → Prop, (∀ σ' H', N σ' H' → ∃ m', m' < m ∧ W (i + 1) m' σ' H') ∧ ∀ x H', (Itr lo n).yld i H x H' → g x σ H' fun σ2 H2 => tb { D with nx := N, ct := N, bk := D.nx } σ2 H2) := by
  refine ⟨fun i m σ H => m = n - i ∧ i ≤ n ∧ Pv i σ H, ⟨n, by simp, Nat.zero_le _, h0⟩, ?_⟩
  rintro i m σ H ⟨rfl, hi, p⟩
  by_cases hlt : i < n
  · refine .inr ⟨hlt, Pv (i + 1), fun σ' H' p' => ⟨n - (i + 1), by omega, rfl, hlt, p'⟩, fun x H' y => ?_⟩
    obtain ⟨e, y⟩ := y
    subst e y
    exact hs i σ _ hlt p
  · have e : i = n := by omega
    subst e
    exact .inl ⟨Nat.le_refl _, hd σ H p⟩
end L2

namespace L2
open PySem PySem.Spec PyProof.Rows

abbrev R2 := V → V → Hp → VK → Prop
/-- a two-place operation on values: f is binaryOp op, inplaceOp op or compareOp op -/
def OpR (X : Cx) (f : Value → Value → Sem Value) (r : R2) : Prop :=
  ∀ (pins : List (Addr × Obj)) (s : Shared) (σ : St) (H : Hp) (x y : V) (v u : Value) (Q : VK), Inv X pins σ H s → RelV x v → RelV y u → r x y H Q →
    wpAny (model X.prog X.w) X.A (f v u) (EP X pins σ Q) X.xe s
/-- a one-place operation -/
def UnR (X : Cx) (f : Value → Sem Value) (r : V → Hp → VK → Prop) : Prop :=
  ∀ (pins : List (Addr × Obj)) (s : Shared) (σ : St) (H : Hp) (x : V) (v : Value) (Q : VK), Inv X pins σ H s → RelV x v → r x H Q →
    wpAny (model X.prog X.w) X.A (f v) (EP X pins σ Q) X.xe s
/-- a call of a value that is known (a builtin, a type) with values -/
def CallR (X : Cx) (f : Value) (r : List V → Hp → VK → Prop) : Prop :=
  ∀ (pins : List (Addr × Obj)) (s : Shared) (σ : St) (H : Hp) (xs : List V) (us : List Value) (Q : VK), Inv X pins σ H s → Vals xs us → r xs H Q →
    wpAny (model X.prog X.w) X.A (call f us) (EP X pins σ Q) X.xe s
/-- a value's truth -/
def TruR (X : Cx) (r : V → Hp → (Bool → Hp → Prop) → Prop) : Prop :=
  ∀ (pins : List (Addr × Obj)) (s : Shared) (σ : St) (H : Hp) (x : V) (v : Value) (Q : Bool → Hp → Prop), Inv X pins σ H s → RelV x v → r x H Q →
    wpAny (model X.prog X.w) X.A (truthy v) (TP X pins σ Q) X.xe s

def tOp (r : R2) (ta tb : TE) : TE := fun σ H Q => ta σ H fun x H1 => tb σ H1 fun y H2 => r x y H2 Q
def tUn (r : V → Hp → VK → Prop) (ta : TE) : TE := fun σ H Q => ta σ H fun x H1 => r x H1 Q
/-- ints in, under C, and a value out -/
def rI (C : Int → Int → Prop) (g : Int → Int → V) : R2 := fun x y H Q => ∃ i j, x = .int i ∧ y = .int j ∧ C i j ∧ Q (g i j) H
def rI0 (g : Int → Int → V) : R2 := fun x y H Q => ∃ i j, x = .int i ∧ y = .int j ∧ Q (g i j) H
def rU (g : Int → V) : V → Hp → VK → Prop := fun x H Q => ∃ i, x = .int i ∧ Q (g i) H

section
variable {X : Cx} {a b c : Expr} {ta tb tc : TE} {pos : Pos}

theorem binT (ha : PE X a ta) (hb : PE X b tb) {pins : List (Addr × Obj)} {s : Shared} {σ : St} {H : Hp} {R : V → V → Hp → Prop} (I : Inv X pins σ H s)
    (h : ta σ H fun x H1 => tb σ H1 fun y H2 => R x y H2) {Q : Value → Shared → Prop} {f : Value → Value → Sem Value}
    (hf : ∀ v u s2 x y H2, Inv X pins σ H2 s2 → RelV x v → RelV y u → R x y H2 → wpAny (model X.prog X.w) X.A (f v u) Q X.xe s2) :
    wpAny (model X.prog X.w) X.A (eval a X.env) (fun v s₁ => wpAny (model X.prog X.w) X.A (eval b X.env) (fun u s₂ => wpAny (model X.prog X.w) X.A (f v u) Q X.xe s₂) X.xe s₁) X.xe s := by
  refine thn (ha pins s σ H _ I h) fun v s1 ⟨x, H1, I1, r1, q1⟩ => ?_
  refine thn (hb pins s1 σ H1 _ I1 q1) fun u s2 ⟨y, H2, I2, r2, q2⟩ => ?_
  exact hf v u s2 x y H2 I2 r1 r2 q2

theorem pe_op {op : Operator} {r : R2} (ho : OpR X (binaryOp op) r) (ha : PE X a ta) (hb : PE X b tb) : PE X (.BinOp a op b pos) (tOp r ta tb) := by
  intro pins s σ H Q I h
  exact wpAny_BinOp (binT ha hb I h fun v u s2 x y H2 I2 rx ry q => ho pins s2 σ H2 x y v u Q I2 rx ry q)
theorem pe_un {op : UnaryOp} {r : V → Hp → VK → Prop} (ho : UnR X (unaryOp op) r) (ha : PE X a ta) : PE X (.UnaryOp op a pos) (tUn r ta) := by
  intro pins s σ H Q I h
  exact UnaryOp_ (thn (ha pins s σ H _ I h) fun v s1 ⟨x, H1, I1, r1, q1⟩ => ho pins s1 σ H1 x v Q I1 r1 q1)

/-! ### ints -/
theorem opI {f : Value → Value → Sem Value} {C : Int → Int → Prop} {g : Int → Int → Int}
    (rule : ∀ (i j : Int) (t u : Tok) (s : Shared) (Q : Value → Shared → Prop) (E : Value → Shared → Prop), C i j → Q (.int (g i j) s.toks) { s with toks := s.toks + 1 } → wpAny (model X.prog X.w) X.A (f (.int i t) (.int j u)) Q E s) :
    OpR X f (rI C fun i j => .int (g i j)) := by
  intro pins s σ H x y v u Q I rx ry h
  obtain ⟨i, j, rfl, rfl, hc, q⟩ := h
  obtain ⟨t, rfl⟩ := rx
  obtain ⟨t', rfl⟩ := ry
  exact rule i j t t' s _ _ hc ⟨.int (g i j), H, I.tok _, ⟨_, rfl⟩, q⟩
theorem opI0 {f : Value → Value → Sem Value} {g : Int → Int → Int}
    (rule : ∀ (i j : Int) (t u : Tok) (s : Shared) (Q : Value → Shared → Prop) (E : Value → Shared → Prop), Q (.int (g i j) s.toks) { s with toks := s.toks + 1 } → wpAny (model X.prog X.w) X.A (f (.int i t) (.int j u)) Q E s) :
    OpR X f (rI0 fun i j => .int (g i j)) := by
  intro pins s σ H x y v u Q I rx ry h
  obtain ⟨i, j, rfl, rfl, q⟩ := h
  obtain ⟨t, rfl⟩ := rx
  obtain ⟨t', rfl⟩ := ry
  exact rule i j t t' s _ _ ⟨.int (g i j), H, I.tok _, ⟨_, rfl⟩, q⟩
theorem opB0 {f : Value → Value → Sem Value} {g : Int → Int → Bool}
    (rule : ∀ (i j : Int) (t u : Tok) (s : Shared) (Q : Value → Shared → Prop) (E : Value → Shared → Prop), Q (.bool (g i j)) s → wpAny (model X.prog X.w) X.A (f (.int i t) (.int j u)) Q E s) :
    OpR X f (rI0 fun i j => .bl (g i j)) := by
  intro pins s σ H x y v u Q I rx ry h
  obtain ⟨i, j, rfl, rfl, q⟩ := h
  obtain ⟨t, rfl⟩ := rx
  obtain ⟨t', rfl⟩ := ry
  exact rule i j t t' s _ _ ⟨.bl (g i j), H, I, rfl, q⟩

def CDiv (i j : Int) : Prop := 0 < j ∧ j < 1073741824
def CDivN (i j : Int) : Prop := j ≠ 0 ∧ j.natAbs < 1073741824
def CPow (i j : Int) : Prop := 0 ≤ j ∧ j ≤ 1000000 ∧ i.natAbs < 2 ^ 64
def CMul (i j : Int) : Prop := (-(2 ^ 64) < i ∧ i < 2 ^ 64) ∨ (-(2 ^ 64) < j ∧ j < 2 ^ 64)
theorem CMul.ok {i j : Int} (h : CMul i j) : IntMulOk i j := by
  rcases h with ⟨h1, h2⟩ | ⟨h1, h2⟩
  · exact .of_left (intBits_le_64 h1 h2)
  · exact .of_right (intBits_le_64 h1 h2)

theorem op_add : OpR X (binaryOp .Add) (rI0 fun i j => .int (i + j)) := opI0 fun _ _ _ _ _ _ _ q => add_int q
theorem op_sub : OpR X (binaryOp .Sub) (rI0 fun i j => .int (i - j)) := opI0 fun _ _ _ _ _ _ _ q => sub_int q
theorem op_mul : OpR X (binaryOp .Mult) (rI CMul fun i j => .int (i * j)) := opI fun _ _ _ _ _ _ _ hc q => mul_int q hc.ok
/-- // by a positive divisor -/
theorem op_fdiv : OpR X (binaryOp .FloorDiv) (rI CDiv fun i j => .int (i / j)) := opI fun i j _ _ _ _ _ hc q => by
  have h1 : (0 : Int) < j := hc.1
  have h2 : j < 1073741824 := hc.2
  exact floordiv_int (by omega) (by rw [Int.fdiv_eq_ediv_of_nonneg i (by omega)]; exact q) (.inl (PyProof.noPylong_small (by omega)))
/-- % by a positive divisor of any size -/
theorem op_mod : OpR X (binaryOp .Mod) (rI (fun _ j => 0 < j) fun i j => .int (i % j)) := opI fun i j _ _ _ _ _ hc q => by
  have h1 : (0 : Int) < j := hc
  exact mod_int' (by omega) (by rw [Int.fmod_eq_emod_of_nonneg i (by omega)]; exact q)
theorem op_pow : OpR X (binaryOp .Pow) (rI CPow fun i j => .int (i ^ j.toNat)) := opI fun _ _ _ _ _ _ _ hc q => pow_int_small hc.1 hc.2.1 hc.2.2 q


theorem unI {f : Value → Sem Value} {g : Int → Int}
    (rule : ∀ (i : Int) (t : Tok) (s : Shared) (Q : Value → Shared → Prop) (E : Value → Shared → Prop), Q (.int (g i) s.toks) { s with toks := s.toks + 1 } → wpAny (model X.prog X.w) X.A (f (.int i t)) Q E s) :
    UnR X f (rU fun i => .int (g i)) := by
  intro pins s σ H x v Q I rx h
  obtain ⟨i, rfl, q⟩ := h
  obtain ⟨t, rfl⟩ := rx
  exact rule i t s _ _ ⟨.int (g i), H, I.tok _, ⟨_, rfl⟩, q⟩
theorem un_neg : UnR X (unaryOp .USub) (rU fun i => .int (-i)) := unI fun _ _ _ _ _ q => neg_int q

/-! ### bools among ints: n += (a < b) -/
end

/-! ### comparisons -/
/-- the scalars that == tells apart as data does -/
def scal : V → V → Bool
  | .non, .non => true | .non, .int _ => true | .int _, .non => true | .non, .bl _ => true | .bl _, .non => true | .non, .str _ => true | .str _, .non => true
  | .int _, .int _ => true | .bl _, .bl _ => true | .str _, .str _ => true | .byt _, .byt _ => true
  | .int _, .str _ => true | .str _, .int _ => true | .bl _, .str _ => true | .str _, .bl _ => true
  | _, _ => false
def rEq : R2 := fun x y H Q => scal x y = true ∧ Q (.bl (decide (x = y))) H
def rNe : R2 := fun x y H Q => scal x y = true ∧ Q (.bl (!decide (x = y))) H

theorem dec_int {i j : Int} : decide (V.int i = V.int j) = (i == j) := by
  rw [Bool.eq_iff_iff]
  simp
theorem dec_bl {i j : Bool} : decide (V.bl i = V.bl j) = (i == j) := by
  rw [Bool.eq_iff_iff]
  simp
theorem dec_str {i j : Str} : decide (V.str i = V.str j) = (i == j) := by
  rw [Bool.eq_iff_iff]
  simp
theorem dec_byt {i j : Array UInt8} : decide (V.byt i = V.byt j) = (i.toList == j.toList) := by
  rw [Bool.eq_iff_iff]
  cases i
  cases j
  simp

section
variable {X : Cx} {a b c : Expr} {ta tb tc : TE} {pos : Pos}
theorem fin_bl {pins : List (Addr × Obj)} {σ : St} {H : Hp} {s : Shared} {Q : VK} {k k' : Bool} (I : Inv X pins σ H s) (q : Q (.bl k) H) (e : k = k') : EP X pins σ Q (.bool k') s := by
  subst e
  exact ⟨.bl k, H, I, rfl, q⟩
theorem op_eq : OpR X (compareOp .Eq) rEq := by
  intro pins s σ H x y v u Q I rx ry h
  obtain ⟨hs, q⟩ := h
  cases x with
  | non =>
    cases rx
    cases y with
    | non => cases ry; exact PySem.EqNone.eq_none_none (fin_bl I q (by simp))
    | bl j => cases ry; exact PySem.EqNone.eq_none_bool (fin_bl I q (by simp))
    | int j => obtain ⟨t', rfl⟩ := ry; exact PySem.EqNone.eq_none_int (fin_bl I q (by simp))
    | str j => obtain ⟨t', rfl⟩ := ry; exact PySem.EqNone.eq_none_str (fin_bl I q (by simp))
    | _ => exact absurd (show false = true from hs) Bool.false_ne_true
  | bl i =>
    cases rx
    cases y with
    | non => cases ry; exact PySem.EqNone.eq_bool_none (fin_bl I q (by simp))
    | bl j => cases ry; exact eq_bool (fin_bl I q dec_bl)
    | str j => obtain ⟨t', rfl⟩ := ry; exact PySem.EqMixed.eq_bool_str (fin_bl I q (by simp))
    | _ => exact absurd (show false = true from hs) Bool.false_ne_true
  | int i =>
    obtain ⟨t, rfl⟩ := rx
    cases y with
    | non => cases ry; exact PySem.EqNone.eq_int_none (fin_bl I q (by simp))
    | int j => obtain ⟨t', rfl⟩ := ry; exact eq_int (fin_bl I q dec_int)
    | str j => obtain ⟨t', rfl⟩ := ry; exact PySem.EqMixed.eq_int_str (fin_bl I q (by simp))
    | _ => exact absurd (show false = true from hs) Bool.false_ne_true
  | str i =>
    obtain ⟨t, rfl⟩ := rx
    cases y with
    | non => cases ry; exact PySem.EqNone.eq_str_none (fin_bl I q (by simp))
    | bl j => cases ry; exact PySem.EqMixed.eq_str_bool (fin_bl I q (by simp))
    | int j => obtain ⟨t', rfl⟩ := ry; exact PySem.EqMixed.eq_str_int (fin_bl I q (by simp))
    | str j => obtain ⟨t', rfl⟩ := ry; exact eq_str (fin_bl I q dec_str)
    | _ => exact absurd (show false = true from hs) Bool.false_ne_true
  | byt i =>
    obtain ⟨t, rfl⟩ := rx
    cases y with
    | byt j => obtain ⟨t', rfl⟩ := ry; exact PySem.W.eq_bytes (fin_bl I q dec_byt)
    | _ => exact absurd (show false = true from hs) Bool.false_ne_true
  | _ => cases y <;> exact absurd (show false = true from hs) Bool.false_ne_true
theorem op_ne : OpR X (compareOp .NotEq) rNe := by
  intro pins s σ H x y v u Q I rx ry h
  obtain ⟨hs, q⟩ := h
  cases x with
  | non =>
    cases rx
    cases y with
    | non => cases ry; exact PySem.EqNone.ne_none_none (fin_bl I q (by simp))
    | bl j => cases ry; exact PySem.EqNone.ne_none_bool (fin_bl I q (by simp))
    | int j => obtain ⟨t', rfl⟩ := ry; exact PySem.EqNone.ne_none_int (fin_bl I q (by simp))
    | str j => obtain ⟨t', rfl⟩ := ry; exact PySem.EqNone.ne_none_str (fin_bl I q (by simp))
    | _ => exact absurd (show false = true from hs) Bool.false_ne_true
  | bl i =>
    cases rx
    cases y with
    | non => cases ry; exact PySem.EqNone.ne_bool_none (fin_bl I q (by simp))
    | bl j => cases ry; exact ne_bool (fin_bl I q (congrArg not dec_bl))
    | str j => obtain ⟨t', rfl⟩ := ry; exact PySem.EqMixed.ne_bool_str (fin_bl I q (by simp))
    | _ => exact absurd (show false = true from hs) Bool.false_ne_true
  | int i =>
    obtain ⟨t, rfl⟩ := rx
    cases y with
    | non => cases ry; exact PySem.EqNone.ne_int_none (fin_bl I q (by simp))
    | int j => obtain ⟨t', rfl⟩ := ry; exact ne_int (fin_bl I q (congrArg not dec_int))
    | str j => obtain ⟨t', rfl⟩ := ry; exact PySem.EqMixed.ne_int_str (fin_bl I q (by simp))
    | _ => exact absurd (show false = true from hs) Bool.false_ne_true
  | str i =>
    obtain ⟨t, rfl⟩ := rx
    cases y with
    | non => cases ry; exact PySem.EqNone.ne_str_none (fin_bl I q (by simp))
    | bl j => cases ry; exact PySem.EqMixed.ne_str_bool (fin_bl I q (by simp))
    | int j => obtain ⟨t', rfl⟩ := ry; exact PySem.EqMixed.ne_str_int (fin_bl I q (by simp))
    | str j => obtain ⟨t', rfl⟩ := ry; exact ne_str (fin_bl I q (congrArg not dec_str))
    | _ => exact absurd (show false = true from hs) Bool.false_ne_true
  | byt i =>
    obtain ⟨t, rfl⟩ := rx
    cases y with
    | byt j => obtain ⟨t', rfl⟩ := ry; exact PySem.W.ne_bytes (fin_bl I q (congrArg not dec_byt))
    | _ => exact absurd (show false = true from hs) Bool.false_ne_true
  | _ => cases y <;> exact absurd (show false = true from hs) Bool.false_ne_true

theorem op_lt : OpR X (compareOp .Lt) (rI0 fun i j => .bl (decide (i < j))) := opB0 fun _ _ _ _ _ _ _ q => lt_int q
theorem op_le : OpR X (compareOp .LtE) (rI0 fun i j => .bl (decide (i ≤ j))) := opB0 fun _ _ _ _ _ _ _ q => le_int q
theorem op_gt : OpR X (compareOp .Gt) (rI0 fun i j => .bl (decide (j < i))) := opB0 fun _ _ _ _ _ _ _ q => gt_int q


/-- is, is not of two objects that are tracked lists or instances -/
def isObj : HO → Bool
  | .lst _ => true
  | .ins _ _ _ => true
  | _ => false


theorem nomark (b : Expr) {op : CmpOp} (h : op ≠ .In := by decide) (h2 : op ≠ .NotIn := by decide) : behindInMarks op b = false := by
  have e1 : (op == CmpOp.In) = false := by cases op <;> first | rfl | exact absurd rfl h
  have e2 : (op == CmpOp.NotIn) = false := by cases op <;> first | rfl | exact absurd rfl h2
  cases b <;> simp [behindInMarks, e1, e2]
/-- a comparison as a value; hm: nomark b, or (for in, not in) by with_unfolding_all rfl -/
theorem pe_cmpR {op : CmpOp} {r : R2} (ho : OpR X (compareOp op) r) (ha : PE X a ta) (hb : PE X b tb) (hm : behindInMarks op b = false) : PE X (.Compare a [op] [b] pos) (tOp r ta tb) := by
  intro pins s σ H Q I h
  exact wpAny_Compare1 (binT ha hb I h fun v u s2 x y H2 I2 rx ry q => ho pins s2 σ H2 x y v u Q I2 rx ry q) hm
/-- a reading of a value as a test -/
def tTest (t : TE) : TT := fun σ H Q => t σ H fun x H' => ∃ k, x = .bl k ∧ Q k H'
theorem pt_cmpR {op : CmpOp} {r : R2} (ho : OpR X (compareOp op) r) (ha : PE X a ta) (hb : PE X b tb) (hm : behindInMarks op b = false) : PT X (.Compare a [op] [b] pos) (tTest (tOp r ta tb)) := by
  intro pins s σ H Q I h
  refine wpAny_isTrue_Compare1 (thn (ha pins s σ H _ I h) fun v s1 ⟨x, H1, I1, r1, q1⟩ => thn (hb pins s1 σ H1 _ I1 q1) fun u s2 ⟨y, H2, I2, r2, q2⟩ =>
    thn (ho pins s2 σ H2 x y v u _ I2 r1 r2 q2) fun c s3 ⟨z, H3, I3, r3, k, e, q3⟩ => ?_) hm
  subst e
  cases r3
  exact wpAny_truthy_bool ⟨H3, I3, q3⟩
/-- a op1 b op2 c -/
def tChain (r r' : R2) (ta tb tc : TE) : TE := fun σ H Q => ta σ H fun x H1 => tb σ H1 fun y H2 => r x y H2 fun z H3 => ∃ k, z = .bl k ∧
  (if k = true then tc σ H3 fun w' H4 => r' y w' H4 Q else Q (.bl false) H3)
theorem pe_chain {op op' : CmpOp} {r r' : R2} (ho : OpR X (compareOp op) r) (ho' : OpR X (compareOp op') r') (ha : PE X a ta) (hb : PE X b tb) (hc : PE X c tc)
    (hm : lastMarks [op, op'] [b, c] = false := by with_unfolding_all rfl) : PE X (.Compare a [op, op'] [b, c] pos) (tChain r r' ta tb tc) := by
  intro pins s σ H Q I h
  refine Compare_chain (thn (ha pins s σ H _ I h) fun v s1 ⟨x, H1, I1, r1, q1⟩ => chain_link (thn (hb pins s1 σ H1 _ I1 q1) fun u s2 ⟨y, H2, I2, r2, q2⟩ =>
    thn (ho pins s2 σ H2 x y v u _ I2 r1 r2 q2) fun d s3 ⟨z, H3, I3, r3, k, e, q3⟩ => ?_)) hm
  subst e
  cases r3
  refine wpAny_truthy_bool ?_
  cases k with
  | false => exact ite_ff ⟨.bl false, H3, I3, rfl, q3⟩
  | true => exact ite_tt (chain_last (thn (hc pins s3 σ H3 _ I3 q3) fun w' s4 ⟨z', H4, I4, r4, q4⟩ => ho' pins s4 σ H4 y z' u w' Q I4 r2 r4 q4))

/-! ### truth -/
/-- a value's truth by the abstract heap -/
def TruV (K : PySem.W.Frag) (x : V) (H : Hp) (k : Bool) : Prop :=
  match x with
  | .non => k = false
  | .bl b => k = b
  | .int i => k = (i != 0)
  | .str y => y.length ≤ sizeLine ∧ k = ((y.length : Int) != 0)
  | .byt y => y.size ≤ sizeLine ∧ k = ((y.size : Int) != 0)
  | .ref p => (∃ xs, SqL K H p xs ∧ k = !xs.isEmpty) ∨ (∃ xs, SqT K H p xs ∧ k = !xs.isEmpty) ∨ ∃ kvs, H p = some (.dK kvs) ∧ k = !kvs.isEmpty
  | _ => False
theorem line63 : (sizeLine : Nat) < 2 ^ 63 := by rw [sizeLine_eq]; decide

/-! ### strs and bytes -/

def PlainIxT (b : Expr) : Prop := ∀ o i, subscripted b false o i = operate [o, i] (getItem o i)

/-! ### scalar builtins, by CallR -/
theorem vals1 {x : V} {us : List Value} (r : Vals [x] us) : ∃ u, us = [u] ∧ RelV x u := by
  cases r with
  | cons r1 r2 => cases r2; exact ⟨_, rfl, r1⟩
theorem call_abs : CallR X (.builtin "abs") (fun xs H Q => ∃ i, xs = [.int i] ∧ Q (.int (if i < 0 then -i else i)) H) := by
  intro pins s σ H xs us Q I r h
  obtain ⟨i, rfl, q⟩ := h
  obtain ⟨u, rfl, t, rfl⟩ := vals1 r
  exact call_abs_int fun u tk => ⟨.int (if i < 0 then -i else i), H, I.tok _, ⟨_, rfl⟩, q⟩
theorem call_int1 : CallR X (.type "int") (fun xs H Q => (∃ i, xs = [.int i] ∧ Q (.int i) H) ∨ ∃ k, xs = [.bl k] ∧ Q (.int (if k then 1 else 0)) H) := by
  intro pins s σ H xs us Q I r h
  rcases h with ⟨i, rfl, q⟩ | ⟨k, rfl, q⟩
  · obtain ⟨u, rfl, t, rfl⟩ := vals1 r
    exact call_int_int ⟨.int i, H, I, ⟨_, rfl⟩, q⟩
  · obtain ⟨u, rfl, r1⟩ := vals1 r
    cases r1
    exact call_int_bool ⟨.int (if k then 1 else 0), H, I.tok _, ⟨_, rfl⟩, q⟩
/-- len of a str, a bytes, a list, a tuple -/
def LenV (K : PySem.W.Frag) (x : V) (H : Hp) (n : Nat) : Prop :=
  match x with
  | .str y => y.length ≤ sizeLine ∧ n = y.length
  | .byt y => y.size ≤ sizeLine ∧ n = y.size
  | .ref p => (∃ xs, SqL K H p xs ∧ n = xs.length) ∨ ∃ xs, SqT K H p xs ∧ n = xs.length
  | _ => False
end
end L2

namespace L2
open PySem PySem.Spec PyProof.Rows

/-! ### an instance, its attributes a map -/
structure ObjM (h : Heap) (x dx C : Addr) (mA : Str → Option Value) : Prop where
  obj : h.get? x = some (PySem.W.instObj C dx)
  ns : h.Ns1 dx mA
  ne : dx ≠ x

theorem lookIn_ns {h : Heap} {dx : Addr} {mA : Str → Option Value} (n : h.Ns1 dx mA) : ∃ od, h.get? dx = some od ∧ ∀ name, PySem.W.lookIn name od = some (mA name) := by
  obtain ⟨o, es, ep, ho, hd, hk, _, hm⟩ := n
  refine ⟨o, ho, fun name => ?_⟩
  have e := hm name
  unfold nsFind findBy at e
  rw [← Array.find?_toList] at e
  unfold PySem.W.lookIn
  rw [hd]
  dsimp only
  split
  · rename_i y q
    rw [q] at e
    exact congrArg some e
  · rename_i q
    rw [q] at e
    have a : es.toList.any (·.refKey) = false := by
      rw [List.any_eq_false]
      intro y hy
      obtain ⟨z, t, hkey⟩ := hk y (Array.mem_toList_iff.mp hy)
      simp [DictEntry.refKey, hkey]
    have a' : ¬ es.toList.any (·.refKey) = true := by rw [a]; exact Bool.false_ne_true
    rw [if_neg a']
    exact congrArg some e

theorem ObjM.look {h : Heap} {x dx C : Addr} {mA : Str → Option Value} (I : ObjM h x dx C mA) : ∃ od, PySem.W.InstAt h x (PySem.W.instObj C dx) C (some od) ∧ ∀ name, PySem.W.lookIn name od = some (mA name) :=
  let ⟨od, ho, hl⟩ := lookIn_ns I.ns
  ⟨od, ⟨I.obj, rfl, rfl, ho⟩, hl⟩

section
variable {prog : Program} {w : World} {A : Around} {E : Value → Shared → Prop} {s : Shared} {K : PySem.W.Frag} {x dx C f : Addr} {mA : Str → Option Value} {name : Str} {v : Value}





end

/-! ### the attributes as a list of pairs -/
def putF (f : Str) (v : V) : List (Str × V) → List (Str × V)
  | [] => [(f, v)]
  | (g, x) :: r => if g = f then (g, v) :: r else (g, x) :: putF f v r


section
variable {P : Program} {w : World} {H H' : Hp} {h h' : Heap} {a C dx : Addr} {fs fs' : List (Str × V)}
theorem ins_get (hok : HOk P w H h) (e : H a = some (.ins C dx fs)) : ∃ mA, ObjM h a dx C mA ∧ (∀ f, RelO (fs.lookup f) (mA f)) ∧ PySem.Within mA (fs.map (·.1)) ∧ fs.length ≤ 1000 ∧ H dx = some (.own a) := by
  obtain ⟨d, z, ne, ob, mA, n, r, q⟩ := (show ObjOk P w H h a (.ins C dx fs) from hok a _ e)
  exact ⟨mA, ⟨ob, n, ne⟩, r, q, z, d⟩
end

/-! ### what of the text a class must have -/
structure Cls (K : PySem.W.Frag) (C : Addr) : Prop where
  pg : PySem.W.plainGet K C Str.empty = true
  hd : PySem.W.hasDictIn K C = true
  po : PySem.W.plainOver K C = true
  sa : PySem.W.findIn K (.ref C) "__setattr__" = some (some (.builtin "object.__setattr__"))
theorem Cls.get {K : PySem.W.Frag} {C : Addr} (c : Cls K C) (f : Str) : PySem.W.plainGet K C f = true := c.pg
/-- no class of it has the name -/
def NoAttr (K : PySem.W.Frag) (C : Addr) (f : Str) : Prop := PySem.W.findIn K (.ref C) f = some none
/-- a constant of the class -/
structure Con (K : PySem.W.Frag) (C : Addr) (f : Str) (v : V) (u : Value) : Prop where
  at_ : PySem.W.findIn K (.ref C) f = some (some u)
  rel : RelV v u
  get : PySem.W.specialIn K u "__get__" = some none
  cp : PySem.W.copiedNames.contains f = false
/-- a method: a plain def of the class or of one above it -/
structure Meth (K : PySem.W.Frag) (C : Addr) (m : Str) (f : Addr) : Prop where
  at_ : PySem.W.findIn K (.ref C) m = some (some (.ref f))
  fn : PySem.W.isFn K (.ref f) = true
  kp : PySem.W.keepIn K (.ref f) = true

section
variable {X : Cx} {pins : List (Addr × Obj)} {σ : St} {H : Hp} {s : Shared} {a C dx : Addr} {fs : List (Str × V)} {f : Str} {v : V} {A : Around} {E : Value → Shared → Prop}






end

/-! ### readings and rules -/
/-- e.f, an attribute of the instance -/
def tFld (K : PySem.W.Frag) (ta : TE) (f : Str) : TE := fun σ H Q => ta σ H fun x H1 => ∃ a C dx fs v, x = .ref a ∧ H1 a = some (.ins C dx fs) ∧ Cls K C ∧ NoAttr K C f ∧ fs.lookup f = some v ∧ Q v H1
/-- e.f, a constant of the class -/
def tCon (K : PySem.W.Frag) (ta : TE) (f : Str) : TE := fun σ H Q => ta σ H fun x H1 => ∃ a C dx fs v u, x = .ref a ∧ H1 a = some (.ins C dx fs) ∧ Cls K C ∧ Con K C f v u ∧ fs.lookup f = none ∧ Q v H1
/-- e.f = value -/
def sFld (K : PySem.W.Frag) (ta tv : TE) (f : Str) : TS := fun D σ H => tv σ H fun y H1 => ta σ H1 fun x H2 => ∃ a C dx fs, x = .ref a ∧ H2 a = some (.ins C dx fs) ∧ Cls K C ∧ NoAttr K C f ∧ fs.length < 1000 ∧
  D.nx σ (upd H2 a (.ins C dx (putF f y fs)))
/-- an augmented operator on two values -/
def InOp (X : Cx) (op : Operator) (rd : V → V → Hp → VK → Prop) : Prop :=
  ∀ (pins : List (Addr × Obj)) (s : Shared) (σ : St) (H : Hp) (x y : V) (u v : Value) (Q : VK), Inv X pins σ H s → RelV x u → RelV y v → rd x y H Q → wpAny (model X.prog X.w) X.A (inplaceOp op u v) (EP X pins σ Q) X.xe s
/-- e.f op= value -/
def sFldAug (K : PySem.W.Frag) (ta tv : TE) (rd : V → V → Hp → VK → Prop) (f : Str) : TS := fun D σ H => ta σ H fun x H1 => ∃ a C dx fs v, x = .ref a ∧ H1 a = some (.ins C dx fs) ∧ Cls K C ∧ NoAttr K C f ∧ fs.lookup f = some v ∧
  tv σ H1 fun y H2 => rd v y H2 fun z H3 => ∃ dx' fs', H3 a = some (.ins C dx' fs') ∧ fs'.length < 1000 ∧ D.nx σ (upd H3 a (.ins C dx' (putF f z fs')))

section
variable {X : Cx} {o e value : Expr} {f : Str} {pos pos' tpos : Pos} {ta tv : TE}
def rAdd : V → V → Hp → VK → Prop := fun x y H Q => ∃ i j, x = .int i ∧ y = .int j ∧ Q (.int (i + j)) H
def rSub : V → V → Hp → VK → Prop := fun x y H Q => ∃ i j, x = .int i ∧ y = .int j ∧ Q (.int (i - j)) H

end

/-! ### isinstance -/
section
variable {X : Cx} {pins : List (Addr × Obj)} {σ : St} {H : Hp} {s : Shared} {A : Around} {E : Value → Shared → Prop} {Q : Value → Shared → Prop} {c : Value} {b : Bool}
/-- the type of a value, as the fragment's deciders take it; for an instance its class -/
inductive TyOf (K : PySem.W.Frag) (H : Hp) : V → Value → Prop where
  | non : TyOf K H .non (.type "NoneType")
  | bl (x : Bool) : TyOf K H (.bl x) (.type "bool")
  | int (i : Int) : TyOf K H (.int i) (.type "int")
  | str (x : Str) : TyOf K H (.str x) (.type "str")
  | flt (x : UInt64) : TyOf K H (.flt x) (.type "float")
  | lst {a : Addr} {xs : List V} (e : H a = some (.lst xs)) : TyOf K H (.ref a) (.type "list")
  | frz {a : Addr} {o : Obj} {xs : List V} (e : H a = some (.frz o (.lst xs))) : TyOf K H (.ref a) (.type "list")
  | tup {a : Addr} {xs : List V} (e : H a = some (.tup xs)) : TyOf K H (.ref a) (.type "tuple")
  | dK {a : Addr} {kvs : List (Key × V)} (e : H a = some (.dK kvs)) : TyOf K H (.ref a) (.type "dict")
  | dT {a : Addr} {kvs : List (List Key × V)} (e : H a = some (.dT kvs)) : TyOf K H (.ref a) (.type "dict")
  | ins {a C dx : Addr} {fs : List (Str × V)} (e : H a = some (.ins C dx fs)) (cl : Cls K C) (ha : PySem.W.findIn K (.ref C) "__class__" = some (some (.builtin "object.__class__")))
      (hn : PySem.W.specialIn K (.builtin "object.__class__") "__get__" = some (some (.builtin "getset_descriptor.__get__"))) (htk : PySem.W.takesIn K (.builtin "object.__class__") = some true)
      (hm : PySem.W.mroIn K C (.type "object") = some true) : TyOf K H (.ref a) (.ref C)
/-- isinstance(x, c) for one class c, a built-in or an own one: kitOne's answer -/
theorem isinst_ok {x : V} {u t : Value} (I : Inv X pins σ H s) (rx : RelV x u) (ty : TyOf X.K H x t) (e : PySem.W.kitOne X.K t c = some b) (h : ∀ tk, Q (.bool b) { s with toks := tk }) :
    wpAny (model X.prog X.w) A (call (.builtin "isinstance") [u, c]) Q E s := by
  cases ty with
  | non => cases (show u = Value.none from rx); exact PySem.W.kia_one PySem.W.kitx_none I.kIn True.intro e (fun z => nomatch z) h
  | bl y => cases (show u = Value.bool y from rx); exact PySem.W.kia_one PySem.W.kitx_bool I.kIn True.intro e (fun z => nomatch z) h
  | int i => obtain ⟨t, q⟩ := (show ∃ t, u = Value.int i t from rx); cases q; exact PySem.W.kia_one PySem.W.kitx_int I.kIn True.intro e (fun z => nomatch z) h
  | str y => obtain ⟨t, q⟩ := (show ∃ t, u = Value.str y t from rx); cases q; exact PySem.W.kia_one PySem.W.kitx_str I.kIn True.intro e (fun z => nomatch z) h
  | flt y => obtain ⟨t, q⟩ := (show ∃ t, u = Value.float y t from rx); cases q; exact PySem.W.kia_one PySem.W.kitx_float I.kIn True.intro e (fun z => nomatch z) h
  | @lst a xs ea =>
    cases (show u = Value.ref a from rx)
    obtain ⟨_, _, n, _, h1⟩ := (show ObjOk X.prog X.w H s.heap a (.lst xs) from I.hok a _ ea)
    exact PySem.W.kia_one PySem.W.kitx_list I.kIn ⟨_, h1, rfl⟩ e (fun z => nomatch z) h
  | @frz a ob xs ea =>
    cases (show u = Value.ref a from rx)
    obtain ⟨_, _, _, n, _, h1⟩ := (show ObjOk X.prog X.w H s.heap a (.frz ob (.lst xs)) from I.hok a _ ea)
    exact PySem.W.kia_one PySem.W.kitx_list I.kIn ⟨_, h1, rfl⟩ e (fun z => nomatch z) h
  | @tup a xs ea =>
    cases (show u = Value.ref a from rx)
    obtain ⟨_, _, _, p⟩ := (show ObjOk X.prog X.w H s.heap a (.tup xs) from I.hok a _ ea)
    obtain ⟨o, h1, h2, _⟩ := p
    exact PySem.W.kia_one PySem.W.kitx_tuple I.kIn ⟨o, h1, h2⟩ e (fun z => nomatch z) h
  | @dK a kvs ea =>
    cases (show u = Value.ref a from rx)
    obtain ⟨_, _, vs, _, p⟩ := (show ObjOk X.prog X.w H s.heap a (.dK kvs) from I.hok a _ ea)
    obtain ⟨o, es, ep, h1, h2, _⟩ := p
    exact PySem.W.kia_one PySem.W.kitx_dict I.kIn ⟨o, h1, h2.1⟩ e (fun z => nomatch z) h
  | @dT a kvs ea =>
    cases (show u = Value.ref a from rx)
    obtain ⟨_, _, xs, _, o, es, ep, h1, h2, _⟩ := (show ObjOk X.prog X.w H s.heap a (.dT kvs) from I.hok a _ ea)
    exact PySem.W.kia_one PySem.W.kitx_dict I.kIn ⟨o, h1, h2.1⟩ e (fun z => nomatch z) h
  | @ins a C dx fs ea cl ha hn htk hm =>
    cases (show u = Value.ref a from rx)
    obtain ⟨mA, O, _⟩ := ins_get I.hok ea
    obtain ⟨od, J, _⟩ := O.look
    exact PySem.W.kia_one (PySem.W.kitx_own (cl.get _) cl.hd ha hn htk hm) I.kIn J e (fun z => nomatch z) h
end
end L2

namespace L2
open PySem PySem.Spec PyProof.Rows

/-! ### room -/
structure Room (k : Nat) (A : Around) : Prop where
  hd : A.handled = none
  dp : A.depth + 3 * k + 5 < recursionLimit
  un : A.units + 16 * k + 200 < cLine
theorem Room.mono {j k : Nat} {A : Around} (r : Room k A) (h : j ≤ k) : Room j A := ⟨r.hd, by have := r.dp; omega, by have := r.un; omega⟩
theorem Room.deeper {k : Nat} {A : Around} (r : Room (k + 1) A) (env : Env) : Room k (A.deeper env) :=
  ⟨r.hd, by have := r.dp; show A.depth + 1 + 3 * k + 5 < _; omega, by have := r.un; show A.units + 3 + 16 * k + 200 < _; omega⟩
theorem Room.depth {k : Nat} {A : Around} (r : Room k A) : A.depth < recursionLimit := by have := r.dp; omega
theorem Room.units {k : Nat} {A : Around} (r : Room k A) : A.units + 64 < cLine := by have := r.un; omega

/-! ### argument lists and displays -/
def tNil : TA := fun _ H Q => Q [] H
def tCons (ta : TE) (tr : TA) : TA := fun σ H Q => ta σ H fun x H1 => tr σ H1 fun xs H2 => Q (x :: xs) H2
section
variable {X : Cx} {e : Expr} {es : List Expr} {te : TE} {t : TA} {pos : Pos}
theorem pa_nil : PA X [] tNil := fun _ _ _ _ H Q I h => Calls.spliced_nil ⟨[], H, I, .nil, h⟩
theorem pa_cons (ha : PE X e te) (hr : PA X es t) (hs : starEach (e :: es) X.env = (false, eval e X.env) :: starEach es X.env := by rfl) : PA X (e :: es) (tCons te t) := by
  intro pos pins s σ H Q I h
  rw [hs]
  show wpAny _ _ (spliced ((false, eval e X.env) :: backTo pos (starEach es X.env))) _ _ s
  refine Calls.spliced_cons (thn (ha pins s σ H _ I h) fun u s1 ⟨x, H1, I1, r1, q1⟩ => ?_)
  exact thn (hr pos pins s1 σ H1 _ I1 q1) fun us s2 ⟨xs, H2, I2, r2, q2⟩ => ⟨x :: xs, H2, I2, .cons r1 r2, q2⟩

/-- a tuple, a list of written items -/
def tTup (t : TA) : TE := fun σ H Q => t σ H fun xs H1 => xs.length ≤ sizeLine ∧ ∀ p, H1 p = none → Q (.ref p) (upd H1 p (.tup xs))
def tLst (t : TA) : TE := fun σ H Q => t σ H fun xs H1 => xs.length ≤ sizeLine ∧ ∀ p, H1 p = none → Q (.ref p) (upd H1 p (.lst xs))
theorem pe_tup {x1} (h : PA X es t) : PE X (.Tuple es x1 pos) (tTup t) := by
  intro pins s σ H Q I hq
  refine wpAny_Tuple_spliced (thn (h pos pins s σ H _ I hq) fun us s1 ⟨xs, H1, I1, r, z, q⟩ => ⟨by rw [← r.length]; exact z, ?_⟩)
  have hf : H1 s1.heap.objs.size = none := I1.hok.fresh (Nat.le_refl _)
  refine ⟨.ref s1.heap.objs.size, upd H1 s1.heap.objs.size (.tup xs), I1.laid (t' := s1.toks) (fun b u e => Heap.get?_push_of_some _ e) (Nat.le_refl _) ?_, rfl, q _ hf⟩
  exact ⟨z, us, r, ⟨_, Heap.get?_push_size _ rfl, rfl, _, rfl⟩⟩
theorem pe_lst (h : PA X es t) : PE X (.List es pos) (tLst t) := by
  intro pins s σ H Q I hq
  refine wpAny_List_spliced (thn (h pos pins s σ H _ I hq) fun us s1 ⟨xs, H1, I1, r, z, q⟩ => ⟨by rw [← r.length]; exact z, ?_⟩)
  have hf : H1 s1.heap.objs.size = none := I1.hok.fresh (Nat.le_refl _)
  refine ⟨.ref s1.heap.objs.size, upd H1 s1.heap.objs.size (.lst xs), I1.laid (t' := s1.toks) (fun b u e => Heap.get?_push_of_some _ e) (Nat.le_refl _) ?_, rfl, q _ hf⟩
  exact ⟨z, us, 0, r, Heap.get?_push_size _ rfl⟩
end

/-! ### what a def promises -/
/-- a def's promise: the bound arguments in the parameters' order, the heap, the wanted end, the wanted exception -/
abbrev Sp := List V → Hp → VK → XK → Prop
/-- how an exception lies behind a call (file 08 gives it): the callers' frames, abstract heap and state ahead of the call, the wish, the exception, the state -/
abbrev CXT := List Env → Hp → Shared → XK → Value → Shared → Prop

/-- the state at a call -/
structure Env0 (P : Program) (w : World) (K : PySem.W.Frag) (mg : Str → Option Value) (base : Heap) (A : Around) (outer : List Env) (s : Shared) (H : Hp) : Prop where
  frames : A.frames = some outer
  mod : Mod K mg base
  bs : ∀ b o, base.get? b = some o → s.heap.get? b = some o ∧ H b = none
  bsz : base.objs.size ≤ s.heap.objs.size
  funs : s.heap.FunFrames base outer
  frf : ∀ b ∈ frs outer, H b = none
  hok : HOk P w H s.heap
  bare : AllBare s.gens
/-- a call's end -/
def CE (outer : List Env) (P : Program) (w : World) (H : Hp) (s : Shared) (Q : VK) (u : Value) (s' : Shared) : Prop :=
  ∃ v H', s'.os = s.os ∧ AllBare s'.gens ∧ Un (frs outer) [] H H' s.heap s'.heap ∧ HOk P w H' s'.heap ∧ RelV v u ∧ Q v H'
def CR (CX : CXT) (outer : List Env) (P : Program) (w : World) (H : Hp) (s : Shared) (Q : VK) (E : XK) (r : Result) (s' : Shared) : Prop :=
  match r with
  | .ok (.ret u) => CE outer P w H s Q u s'
  | .ok _ => False
  | .error e => CX outer H s E e s'
structure FnOk (P : Program) (w : World) (K : PySem.W.Frag) (mg : Str → Option Value) (base : Heap) (CX : CXT) (k : Nat) (f : Addr) (fd : FuncData) (ps : List Str) (sp : Sp) : Prop where
  len : ∀ vs H Q E, sp vs H Q E → vs.length = ps.length
  run : ∀ (A : Around) (outer : List Env) (s : Shared) (H : Hp) (args : Args) (us : List Value) (vs : List V) (Q : VK) (E : XK), Room k A → Env0 P w K mg base A outer s H → BindsTo s fd args (ps.zip us) → Vals vs us → sp vs H Q E →
    codeAny (model P w) A (.call (.ref f) args) (CR CX outer P w H s Q E) s


section
variable {X : Cx} {pins : List (Addr × Obj)} {σ : St} {H : Hp} {s s' : Shared}
/-- from a body: what a callee wants -/
theorem Inv.env0 (I : Inv X pins σ H s) : Env0 X.prog X.w X.K X.mg X.base X.A X.stack s H :=
  ⟨I.ok.frames, I.ok.mod, I.bs, Nat.le_trans I.ok.bsz I.sz, I.stack, I.stkFree, I.hok, I.bare⟩
/-- behind a call -/
theorem Inv.after {Q : VK} {u : Value} (I : Inv X pins σ H s) (h : CE X.stack X.prog X.w H s Q u s') : EP X pins σ Q u s' := by
  obtain ⟨v, H', os, bare, un, hok, r, q⟩ := h
  obtain ⟨hh, g, d, t, os'⟩ := s'
  obtain rfl : os' = s.os := os
  exact ⟨v, H', I.call (h' := hh) (g' := g) (d' := d) (t' := t) (ch := []) un hok bare (fun b z => absurd z (by simp)), r, q⟩
end

/-! ### calls -/
/-- f(..): the written arguments, then the defaults dvs; E: what is wanted of an exception -/
def tCall (sp : Sp) (dvs : List V) (E : XK) (t : TA) : TE := fun σ H Q => t σ H fun vs H1 => sp (vs ++ dvs) H1 Q E
/-- o.m(..) of an instance of the class at C -/
def tMeth (C : Addr) (m : Str) (sp : Sp) (dvs : List V) (E : XK) (ta : TE) (t : TA) : TE := fun σ H Q => ta σ H fun x H1 => ∃ a dx fs, x = .ref a ∧ H1 a = some (.ins C dx fs) ∧ fs.lookup m = none ∧
  t σ H1 fun vs H2 => sp (x :: (vs ++ dvs)) H2 Q E
/-- C(..): a new instance and its dict, then __init__ -/
def tMake (C : Addr) (sp : Sp) (dvs : List V) (E : XK) (t : TA) : TE := fun σ H Q => t σ H fun vs H1 => ∀ x dx, H1 x = none → H1 dx = none → dx ≠ x →
  sp (.ref x :: (vs ++ dvs)) (upd (upd H1 dx (.own x)) x (.ins C dx [])) (fun v H2 => v = .non ∧ Q (.ref x) H2) E

/-- how the parameters are bound: us the positional arguments, kw the keywords' values by name, ds the defaults that fill up -/
def Binds (K : PySem.W.Frag) (fd : FuncData) (ps : List Str) (ds : List Value) : Prop :=
  ∀ (s : Shared) (us : List Value), K.In s.heap → (us ++ ds).length = ps.length → BindsTo s fd ⟨us, []⟩ (ps.zip (us ++ ds))
/-- every parameter is given -/
theorem Binds.all {K : PySem.W.Frag} {fd : FuncData} {ps : List Str} (h : ∀ us : List Value, us.length = ps.length → bindArgs fd ⟨us, []⟩ = pure (ps.zip us)) : Binds K fd ps [] := fun s us _ hl => by
  rw [List.append_nil] at hl ⊢
  exact .of_eq (h us hl)

/-- an exception of a callee reaches what this body wants of exceptions -/
def Passes (CX : CXT) (X : Cx) (E : XK) : Prop := ∀ (pins : List (Addr × Obj)) (σ : St) (H : Hp) (s : Shared) (e : Value) (s' : Shared), Inv X pins σ H s → CX X.stack H s E e s' → X.xe e s'

section
variable {X : Cx} {CX : CXT} {k : Nat} {f C : Addr} {fd : FuncData} {ps : List Str} {sp : Sp} {dvs : List V} {ds : List Value} {E : XK} {x m : Str} {p pos apos : Pos} {e o : Expr} {es : List Expr} {ta : TE} {t : TA}

/-- the callee runs -/
theorem run_fn {pins : List (Addr × Obj)} {σ : St} {H : Hp} {s : Shared} {Q : VK} {us : List Value} {vs : List V} (F : FnOk X.prog X.w X.K X.mg X.base CX k f fd ps sp) (hr : Room k X.A) (hb : Binds X.K fd ps ds) (hd : Vals dvs ds) (hx : Passes CX X E)
    (I : Inv X pins σ H s) (r : Vals vs us) (h : sp (vs ++ dvs) H Q E) : wpAny (model X.prog X.w) X.A (call (.ref f) us) (EP X pins σ Q) X.xe s := by
  have r2 : Vals (vs ++ dvs) (us ++ ds) := r.append hd
  have hl : (us ++ ds).length = ps.length := by rw [← r2.length]; exact F.len _ _ _ _ h
  refine wpAny_call (codeAny_mono (F.run X.A X.stack s H ⟨us, []⟩ (us ++ ds) (vs ++ dvs) Q E hr I.env0 (hb s us I.kIn hl) r2 h) fun r s' hq => ?_)
  cases r with
  | error e => exact hx pins σ H s e s' I hq
  | ok fl =>
    cases fl with
    | ret u => exact I.after hq
    | next => exact False.elim hq
    | brk => exact False.elim hq
    | cont => exact False.elim hq

theorem pe_call (F : FnOk X.prog X.w X.K X.mg X.base CX k f fd ps sp) (hr : Room k X.A) (hg : Gl X x) (hm : X.mg x = some (.ref f)) (hk : PySem.W.keepIn X.K (.ref f) = true) (hb : Binds X.K fd ps ds) (hd : Vals dvs ds) (hx : Passes CX X E)
    (ha : PA X (e :: es) t) (hdb : (x == ("__debug__" : Str)) = false := by decide) (he : starEach (e :: es) X.env = (false, eval e X.env) :: starEach es X.env := by rfl) (hpl : (backTo pos (starEach es X.env)).any (·.1) = false := by rfl) :
    PE X (.Call (.Name x p) (e :: es) [] pos) (tCall sp dvs E t) := by
  intro pins s σ H Q I h
  refine wpAny_Call_Name_kw (ld_glob I hg hm ?_ hdb)
  refine PySem.W.callWith_K (h₀ := X.base) I.ok.mod.kin hk (thn (ha pos pins s σ H _ I h) fun us s1 ⟨vs, H1, I1, r, q⟩ => ⟨I1.kIn, ?_⟩) he hpl
  exact run_fn F hr hb hd hx I1 r q


/-- what a class must have to be made -/
structure Mk (K : PySem.W.Frag) (C f : Addr) : Prop where
  makes : PySem.W.makesIn K C = true
  init : PySem.W.findIn K (.ref C) "__init__" = some (some (.ref f))
  fn : PySem.W.isFn K (.ref f) = true
  kp : PySem.W.keepIn K (.ref C) = true

end

/-! ### keywords -/
/-- the values of the keywords, from the left -/
def PK (X : Cx) (kws : List Keyword) (t : TA) : Prop :=
  ∀ (pos : Pos) (pins : List (Addr × Obj)) (s : Shared) (σ : St) (H : Hp) (Q : List V → Hp → Prop), Inv X pins σ H s → t σ H Q → wpAny (model X.prog X.w) X.A (evalAll ((backToKw pos (keywordEach kws X.env)).map (·.2))) (AP X pins σ Q) X.xe s
section
variable {X : Cx} {CX : CXT} {k : Nat} {f C : Addr} {fd : FuncData} {ps ks : List Str} {sp : Sp} {E : XK} {x m : Str} {p pos apos kpos : Pos} {e o : Expr} {es : List Expr} {kws : List Keyword} {te ta : TE} {t tk : TA} {nm : Option Str}

/-- how a call with keywords binds: g puts the positional values us and the keywords' values ws (names ks) in the parameters' order, defaults among them -/
structure KBinds (K : PySem.W.Frag) (fd : FuncData) (ps ks : List Str) (g : List Value → List Value → List Value) (gV : List V → List V → List V) : Prop where
  to : ∀ (s : Shared) (us ws : List Value), K.In s.heap → (g us ws).length = ps.length → BindsTo s fd ⟨us, ks.zip ws⟩ (ps.zip (g us ws))
  rel : ∀ {vs : List V} {us : List Value} {zs : List V} {ws : List Value}, Vals vs us → Vals zs ws → Vals (gV vs zs) (g us ws)
def tCallK (sp : Sp) (gV : List V → List V → List V) (E : XK) (t tk : TA) : TE := fun σ H Q => t σ H fun vs H1 => tk σ H1 fun zs H2 => sp (gV vs zs) H2 Q E
variable {g : List Value → List Value → List Value} {gV : List V → List V → List V}
end

/-! ### a def's body keeps its promise -/
/-- names: the parameters first -/
structure FnScope (N P : List Str) (sc : Scope) : Prop where
  kind : sc.kind = .function
  co : sc.isCoroutine = false
  gen : sc.isGenerator = false
  nd : N.Nodup
  pre : N.take P.length = P
  par : ∀ x ∈ P, sc.names.lookup x = some .local ∨ sc.names.lookup x = some .cell
  nofree : ∀ y ∈ sc.names, y.2 ≠ .free

theorem bindL_out {kindOf : Str → Option NameKind} {x : Str} : ∀ {binds : List (Str × Value)} {m : Str → Option Value}, (∀ v, (x, v) ∉ binds) → bindL kindOf binds m x = m x
  | [], _, _ => rfl
  | (n, v) :: r, m, h => by
    unfold bindL
    rw [bindL_out fun w hw => h w (List.mem_cons_of_mem _ hw)]
    split
    · have : x ≠ n := by rintro rfl; exact h v List.mem_cons_self
      simp [this]
    · rfl
theorem bindC_out {kindOf : Str → Option NameKind} {x : Str} : ∀ {binds : List (Str × Value)} {m : Str → Option Value}, (∀ v, (x, v) ∉ binds) → bindC kindOf binds m x = m x
  | [], _, _ => rfl
  | (n, v) :: r, m, h => by
    unfold bindC
    rw [bindC_out fun w hw => h w (List.mem_cons_of_mem _ hw)]
    split
    · rfl
    · have : x ≠ n := by rintro rfl; exact h v List.mem_cons_self
      simp [this]
theorem bindL_get {kindOf : Str → Option NameKind} {x : Str} {v : Value} : ∀ {P : List Str} {vs : List Value} {i : Nat} {m : Str → Option Value}, P.Nodup → P[i]? = some x → vs[i]? = some v → kindOf x = some .local →
    bindL kindOf (P.zip vs) m x = some v
  | [], _, _, _, _, h, _, _ => by simp at h
  | _ :: _, [], _, _, _, _, h, _ => by simp at h
  | p :: P, w :: vs, 0, m, nd, h1, h2, hk => by
    simp at h1 h2; subst h1; subst h2
    show bindL kindOf ((p, w) :: P.zip vs) m p = _
    unfold bindL
    rw [bindL_out fun v hv => (List.nodup_cons.mp nd).1 (List.of_mem_zip hv).1, if_pos hk]
    simp
  | p :: P, w :: vs, i + 1, m, nd, h1, h2, hk => by
    show bindL kindOf ((p, w) :: P.zip vs) m x = _
    unfold bindL
    exact bindL_get (i := i) (List.nodup_cons.mp nd).2 (by simpa using h1) (by simpa using h2) hk
theorem bindC_get {kindOf : Str → Option NameKind} {x : Str} {v : Value} : ∀ {P : List Str} {vs : List Value} {i : Nat} {m : Str → Option Value}, P.Nodup → P[i]? = some x → vs[i]? = some v → kindOf x ≠ some .local →
    bindC kindOf (P.zip vs) m x = some v
  | [], _, _, _, _, h, _, _ => by simp at h
  | _ :: _, [], _, _, _, _, h, _ => by simp at h
  | p :: P, w :: vs, 0, m, nd, h1, h2, hk => by
    simp at h1 h2; subst h1; subst h2
    show bindC kindOf ((p, w) :: P.zip vs) m p = _
    unfold bindC
    rw [bindC_out fun v hv => (List.nodup_cons.mp nd).1 (List.of_mem_zip hv).1, if_neg hk]
    simp
  | p :: P, w :: vs, i + 1, m, nd, h1, h2, hk => by
    show bindC kindOf ((p, w) :: P.zip vs) m x = _
    unfold bindC
    exact bindC_get (i := i) (List.nodup_cons.mp nd).2 (by simpa using h1) (by simpa using h2) hk

/-- the names' values at the entry -/
def start (N : List Str) (vs : List V) : St := vs.map some ++ List.replicate (N.length - vs.length) none

/-- the context of a def's body, at its entry; an exception leaves the frame, then lies as CX says -/
def cxOf (CX : CXT) (P : Program) (w : World) (K : PySem.W.Frag) (mg : Str → Option Value) (base : Heap) (N : List Str) (qual : Str) (scope : Scope) (f : Addr) (cd : Value) (A : Around) (outer : List Env) (s : Shared) (H : Hp) (E : XK) : Cx where
  prog := P
  w := w
  K := K
  mg := mg
  base := base
  A := A.deeper (envOfC qual scope s.heap.objs.size f cd)
  N := N
  s₀ := s
  H₀ := H
  env := envOfC qual scope s.heap.objs.size f cd
  outer := outer
  stack := envOfC qual scope s.heap.objs.size f cd :: outer
  ex := []
  calm := true
  fn := fun _ => true
  pn := []
  xe := fun e s' => wpAny (model P w) (A.deeper (envOfC qual scope s.heap.objs.size f cd)) (leaving (envOfC qual scope s.heap.objs.size f cd) e) (fun _ s'' => CX outer H s E e s'') (fun e' s'' => CX outer H s E e' s'') s'

theorem cell_has {sc : Scope} {n : Nat} {x : Str} (h : sc.names.lookup x = some .cell) : ∃ c, (cellsFrom n sc.names []).lookup x = some c := by
  have q := PySem.W.cellsFrom_some sc.names n [] (.inl h)
  exact Option.isSome_iff_exists.mp q

theorem inv_start {CX : CXT} {P : Program} {w : World} {K : PySem.W.Frag} {mg : Str → Option Value} {base : Heap} {N ps : List Str} {qual : Str} {scope : Scope} {f : Addr} {cd : Value} {A : Around} {outer : List Env} {s s1 : Shared} {H : Hp} {E : XK} {us : List Value} {vs : List V}
    (S : FnScope N ps scope) (hd : A.handled = none) (e0 : Env0 P w K mg base A outer s H) (hl : vs.length = ps.length) (r : Vals vs us)
    (x : InCallC s s.heap.objs.size (bindL (envOfC qual scope s.heap.objs.size f cd).kindOf (ps.zip us) fun _ => none) (cellsFrom (s.heap.objs.size + 1) scope.names []) (bindC (envOfC qual scope s.heap.objs.size f cd).kindOf (ps.zip us) fun _ => none) s1) :
    Inv (cxOf CX P w K mg base N qual scope f cd A outer s H E) [] (start N vs) H s1 := by
  have hpl : ps.length ≤ N.length := by have := congrArg List.length S.pre; rw [List.length_take] at this; omega
  obtain ⟨h1, tk, rfl, hk⟩ := x.done
  have noA : ∀ b : Addr, b ∉ (cxOf CX P w K mg base N qual scope f cd A outer s H E).ex := fun b z => absurd (show b ∈ ([] : List Addr) from z) (by simp)
  refine ⟨⟨e0.mod, S.kind, rfl, rfl, Nat.le_refl _, fun y z c h1 h2 => ?_, fun y hy => ?_, fun y c _ h => ?_, fun _ => hd, Around.frames_deeper e0.frames, .inr ⟨rfl, rfl⟩, fun b z => absurd z (noA b), e0.bs, e0.bsz, fun b _ _ => noA b, fun b z => absurd z (noA b), e0.funs, e0.frf⟩,
    rfl, e0.bare, Un.kept hk, ⟨_, x.toInCall.ns, fun i y v h1 h2 h3 => ?_⟩, fun y c h => ⟨_, x.cell y c h⟩, e0.hok.fresh (Nat.le_refl _), fun y c h => ?_, fun p hp => absurd (show p ∈ ([] : List (Addr × Obj)) from hp) (by simp), e0.hok.kept hk, ?_⟩
  · exact name_of_addr x.apart (PySem.mem_of_lookup h1) (PySem.mem_of_lookup h2)
  · have hy : scope.names.lookup y = some .cell ∨ scope.names.lookup y = some .free := hy
    rcases hy with hy | hy
    · exact cell_has hy
    · exact absurd rfl (S.nofree _ (PySem.mem_of_lookup hy))
  · exact Nat.le_of_lt (x.above y c (PySem.mem_of_lookup h))
  · have hi : i < vs.length := by
      unfold start at h2
      by_cases hi : i < vs.length
      · exact hi
      · rw [List.getElem?_append_right (by simpa using hi)] at h2
        rw [List.getElem?_replicate] at h2
        split at h2 <;> cases h2
    have ha : vs[i]? = some v := by
      unfold start at h2
      rw [List.getElem?_append_left (by simpa using hi), List.getElem?_map] at h2
      cases e : vs[i]? with
      | none => rw [e] at h2; cases h2
      | some a => rw [e] at h2; cases h2; rfl
    obtain ⟨u, hu, rv⟩ := r.get ha
    have hp : ps[i]? = some y := by
      rw [← S.pre, List.getElem?_take_of_lt (by omega)]; exact h1
    have ndP : ps.Nodup := by rw [← S.pre]; exact S.nd.sublist (List.take_sublist _ _)
    refine ⟨u, rv, ?_⟩
    rcases S.par y (List.mem_of_getElem? hp) with k | k
    · exact .inl ⟨k, bindL_get ndP hp hu k⟩
    · obtain ⟨c, e⟩ := cell_has (n := s.heap.objs.size + 1) k
      refine .inr ⟨.inl k, c, e, ?_⟩
      have q := x.cell y c e
      rw [bindC_get ndP hp hu (by show scope.names.lookup y ≠ _; rw [k]; decide)] at q
      exact q
  · exact e0.hok.fresh (Nat.le_of_lt (x.above y c (PySem.mem_of_lookup h)))
  · unfold start
    show _ = N.length
    rw [List.length_append, List.length_map, List.length_replicate]
    omega

/-- THE RULE: a def (or a method) of the text, by its body. The body's reading t is chosen for each entry; it is run at the parameters' values -/
theorem fn_of {CX : CXT} {P : Program} {w : World} {K : PySem.W.Frag} {mg : Str → Option Value} {base : Heap} {k : Nat} {f : Addr} {name qual : Str} {params : Arguments} {body : List Stmt} {scope : Scope} {dV kV doc pm cdv ct oc : Value} {an od : Option Addr}
    {osl : Array (Option Value)} {N ps : List Str} {sp : Sp} (lk : K.lookup f = some ⟨oc, od, .func (PySem.W.fnOf name qual params body scope dV kV doc pm an cdv ct), osl⟩) (hcd : PySem.W.codeIn K cdv qual = true) (S : FnScope N ps scope)
    (len : ∀ vs H Q E, sp vs H Q E → vs.length = ps.length)
    (hbody : ∀ (A : Around) (outer : List Env) (s : Shared) (H : Hp) (vs : List V) (Q : VK) (E : XK), Room k (A.deeper (envOfC qual scope s.heap.objs.size f cdv)) → sp vs H Q E →
      ∃ t, PSs (cxOf CX P w K mg base N qual scope f cdv A outer s H E) body t ∧ t { nx := fun _ H' => Q .non H', rt := Q } (start N vs) H) :
    FnOk P w K mg base CX (k + 1) f (PySem.W.fnOf name qual params body scope dV kV doc pm an cdv ct) ps sp := by
  refine ⟨len, fun A outer s H args us vs Q E hr e0 hb r hsp => ?_⟩
  have hl := len _ _ _ _ hsp
  have KX : K.In s.heap := e0.mod.kin.keeps fun b o e => (e0.bs b o e).1
  have lim : s.heap.NoLimit := e0.mod.nolimit.keeps fun b o e => (e0.bs b o e).1
  have hkind : ∀ y ∈ ps.zip us, scope.names.lookup y.1 = some .local ∨ (scope.names.lookup y.1 = some .cell ∧ ((cellsFrom (s.heap.objs.size + 1) scope.names []).lookup y.1).isSome = true) := fun ⟨n, v⟩ hy => by
    rcases S.par n (List.of_mem_zip hy).1 with q | q
    · exact .inl q
    · exact .inr ⟨q, PySem.W.cellsFrom_some _ _ _ (.inl q)⟩
  refine codeAny_call_function hr.depth (KX _ _ lk) rfl S.co S.gen rfl (PySem.W.codeRec_of KX hcd) (hb _ _ _ _ ?_)
  refine wpAny_newFunctionEnv_cells S.kind hkind fun env he s1 x => ?_
  subst he
  refine ⟨lim.keeps x.toInCall.keep, codeAny_func ?_⟩
  obtain ⟨t, ht, hq⟩ := hbody A outer s H vs Q E (hr.deeper _) hsp
  have I : Inv (cxOf CX P w K mg base N qual scope f cdv A outer s H E) [] (start N vs) H s1 := inv_start S hr.hd e0 hl r x
  refine wpAny_mono (ht [] s1 (start N vs) H _ I hq) (fun fl s' hs => ?_) fun e s' hs => hs
  have fin : ∀ {σ' : St} {H' : Hp} {v : V} {u : Value}, Inv (cxOf CX P w K mg base N qual scope f cdv A outer s H E) [] σ' H' s' → RelV v u → Q v H' → CE outer P w H s Q u s' :=
    fun {σ' H' v u} J rv q => ⟨v, H', J.os, J.bare, J.base, J.hok, rv, q⟩
  cases fl with
  | ret u =>
    obtain ⟨v, σ', H', J, rv, q⟩ := hs
    exact fin J rv q
  | next =>
    obtain ⟨σ', H', J, q⟩ := hs
    exact fin (v := V.non) (u := Value.none) J rfl q
  | brk =>
    obtain ⟨_, _, _, q⟩ := hs
    exact False.elim q
  | cont =>
    obtain ⟨_, _, _, q⟩ := hs
    exact False.elim q
end L2

namespace L2
open PySem PySem.Spec PyProof.Rows
section
variable {X : Cx} {x : Str} {p pos : Pos} {e : Expr} {es : List Expr} {t : TA} {id T : String} {r : List V → Hp → VK → Prop}

def tCB (r : List V → Hp → VK → Prop) (t : TA) : TE := fun σ H Q => t σ H fun vs H1 => r vs H1 Q
/-- f(e, ..), f a built-in function -/
theorem pe_callB (hc : CallR X (.builtin id) r) (hg : Gl X x) (hm : X.mg x = none) (hv : bootBuiltins x = some (.builtin id)) (ha : PA X (e :: es) t) (hn : x ≠ "__name__" := by decide) (hdb : (x == ("__debug__" : Str)) = false := by decide)
    (he : starEach (e :: es) X.env = (false, eval e X.env) :: starEach es X.env := by rfl) (hpl : (backTo pos (starEach es X.env)).any (·.1) = false := by rfl) : PE X (.Call (.Name x p) (e :: es) [] pos) (tCB r t) := by
  intro pins s σ H Q I h
  refine wpAny_Call_Name_kw (ld_blt I hg hm hv ?_ hn hdb)
  exact PyProof.Rows.callWith_builtin1 (thn (ha pos pins s σ H _ I h) fun us s1 ⟨vs, H1, I1, r1, q1⟩ => hc pins s1 σ H1 vs us Q I1 r1 q1) he hpl
/-- T(e, ..), T a built-in type -/
theorem pe_callTy (hc : CallR X (.type T) r) (hg : Gl X x) (hm : X.mg x = none) (hv : bootBuiltins x = some (.type T)) (ha : PA X (e :: es) t) (hn : x ≠ "__name__" := by decide) (hdb : (x == ("__debug__" : Str)) = false := by decide)
    (he : starEach (e :: es) X.env = (false, eval e X.env) :: starEach es X.env := by rfl) (hpl : (backTo pos (starEach es X.env)).any (·.1) = false := by rfl) : PE X (.Call (.Name x p) (e :: es) [] pos) (tCB r t) := by
  intro pins s σ H Q I h
  refine wpAny_Call_Name_kw (ld_blt I hg hm hv ?_ hn hdb)
  exact PyProof.Rows.callWith_type1 (thn (ha pos pins s σ H _ I h) fun us s1 ⟨vs, H1, I1, r1, q1⟩ => hc pins s1 σ H1 vs us Q I1 r1 q1) he hpl
end
end L2

namespace HT
open PySem PyProof.Rows

/-- t < u of tuples of ints -/
def lexLt : List Int → List Int → Bool
  | [], [] => false
  | [], _ :: _ => true
  | _ :: _, [] => false
  | x :: xs, y :: ys => if x = y then lexLt xs ys else decide (x < y)


section
open PySem.SeqAt
open PySem.AutoSeq1 (wpAny_loadPart')
open PySem.MeetsSeq PySem.MeetsSeq2 PySem.MeetsSeq3

end

section
variable {prog : Program} {w : World} {A : Around} {E : Value → Shared → Prop} {s : Shared}



/-! ### t[a:b], not the whole -/
/-- a slice's bound as a place among n (d where it is left out) -/
def sIx (n d : Nat) : Option Int → Nat
  | none => d
  | some v => if v < 0 then (v + (n : Int)).toNat else min v.toNat n
theorem sIx_none (n d : Nat) : sIx n d none = d := rfl
theorem sIx_nat (n d k : Nat) : sIx n d (some (k : Int)) = min k n := by
  show (if (k : Int) < 0 then ((k : Int) + (n : Int)).toNat else min (k : Int).toNat n) = min k n
  rw [if_neg (by omega), Int.toNat_natCast]

end
end HT

namespace L2
open PySem PySem.Spec PyProof.Rows

/-! ### the parts of a slice -/
abbrev TO := St → Hp → (Option Int → Hp → Prop) → Prop
/-- a slice's part (left out, or an int) -/
def PO (X : Cx) (e : Option Expr) (t : TO) : Prop :=
  ∀ (pins : List (Addr × Obj)) (s : Shared) (σ : St) (H : Hp) (Q : Option Int → Hp → Prop), Inv X pins σ H s → t σ H Q →
    wpAny (model X.prog X.w) X.A (evalPart e X.env) (fun u s' => ∃ o H', Inv X pins σ H' s' ∧ IsPart u o ∧ Q o H') X.xe s
def tNoPart : TO := fun _ H Q => Q none H
def tPart (t : TE) : TO := fun σ H Q => t σ H fun x H1 => ∃ i, x = .int i ∧ Q (some i) H1

theorem intsAre_of {ns : List Int} : ∀ {us : List Value}, Vals (ns.map V.int) us → IntsAre us ns := by
  induction ns with
  | nil => intro us r; rw [List.map_nil] at r; cases r; exact .nil
  | cons n ns ih =>
    intro us r
    rw [List.map_cons] at r
    cases r with
    | cons r1 r2 =>
      obtain ⟨t, e⟩ := r1
      subst e
      exact .cons n t (ih r2)

section
variable {X : Cx} {e : Expr} {te : TE} {lo hi : Option Expr} {tl th : TO} {pos p2 : Pos}

theorem po_none : PO X none tNoPart := by
  intro pins s σ H Q I h
  rw [evalPart_none]
  exact wpAny_pure ⟨none, H, I, .none, h⟩
theorem po_some (h : PE X e te) : PO X (some e) (tPart te) := by
  intro pins s σ H Q I hw
  rw [evalPart_some]
  refine thn (h pins s σ H _ I hw) fun u s1 ⟨x, H1, I1, r1, q1⟩ => ?_
  obtain ⟨i, rfl, q⟩ := q1
  obtain ⟨t, rfl⟩ := r1
  exact ⟨some i, H1, I1, .int i t, q⟩

/-- what a slice of a value is, by values: the slice object stands at sl -/
def SlR (X : Cx) (r : V → Option Int → Option Int → Hp → VK → Prop) : Prop :=
  ∀ (pins : List (Addr × Obj)) (s : Shared) (σ : St) (H : Hp) (x : V) (v vl vu : Value) (lo hi : Option Int) (sl : Addr) (Q : VK), Inv X pins σ H s → RelV x v → s.heap.IsSliceOf sl vl vu .none → IsPart vl lo → IsPart vu hi → r x lo hi H Q →
    ∃ T id, typeLookup (.type T) "__getitem__" = pure (some (.builtin id)) ∧ s.TypeIs v T ∧ wpAny (model X.prog X.w) X.A (getItem v (.ref sl)) (EP X pins σ Q) X.xe s
def tSl (r : V → Option Int → Option Int → Hp → VK → Prop) (te : TE) (tl th : TO) : TE := fun σ H Q => te σ H fun x H1 => tl σ H1 fun l H2 => th σ H2 fun u H3 => r x l u H3 Q
/-- a[lo:hi], any a -/
theorem pe_slice {r : V → Option Int → Option Int → Hp → VK → Prop} (hr : SlR X r) (he : PE X e te) (hl : PO X lo tl) (hu : PO X hi th) : PE X (.Subscript e (.Slice lo hi none p2) pos) (tSl r te tl th) := by
  intro pins s σ H Q I h
  refine Subscript_ (thn (he pins s σ H _ I h) fun v s1 ⟨x, H1, I1, r1, q1⟩ => ?_)
  refine wpAny_Slice (thn (hl pins s1 σ H1 _ I1 q1) fun vl s2 ⟨l, H2, I2, pl, q2⟩ => thn (hu pins s2 σ H2 _ I2 q2) fun vu s3 ⟨u, H3, I3, pu, q3⟩ => ?_)
  rw [evalPart_none]
  refine wpAny_pure ?_
  have I4 : Inv X pins σ H3 { s3 with heap := s3.heap.push { cls := .type "slice", data := .fields #[vl, vu, .none] } } := I3.kept (t' := s3.toks) fun b ob q => Heap.get?_push_of_some _ q
  obtain ⟨T, id, hT, ht, hg⟩ := hr pins { s3 with heap := s3.heap.push { cls := .type "slice", data := .fields #[vl, vu, .none] } } σ H3 x v vl vu l u s3.heap.objs.size Q I4 r1 (Heap.IsSliceOf.new ..) pl pu q3
  show wpAny (model X.prog X.w) X.A (subscriptTail e (.Slice lo hi none p2) v (.ref s3.heap.objs.size)) (EP X pins σ Q) X.xe { s3 with heap := s3.heap.push { cls := .type "slice", data := .fields #[vl, vu, .none] } }
  exact tail_any (ops := [.ref s3.heap.objs.size, v]) ht hT hg (by with_unfolding_all rfl)

/-- the items of xs[lo:hi] -/
def cutV (xs : List V) (lo hi : Option Int) : List V := (xs.drop (HT.sIx xs.length 0 lo)).take (HT.sIx xs.length xs.length hi - HT.sIx xs.length 0 lo)
theorem cutV_length (xs : List V) (lo hi : Option Int) : (cutV xs lo hi).length ≤ xs.length := by
  unfold cutV
  rw [List.length_take, List.length_drop]
  omega
/-- t[lo:hi], not the whole of it (the whole would be t itself) -/
def rSlT (K : PySem.W.Frag) : V → Option Int → Option Int → Hp → VK → Prop := fun x lo hi H Q => ∃ a xs, x = .ref a ∧ SqT K H a xs ∧
  ¬ (HT.sIx xs.length 0 lo = 0 ∧ HT.sIx xs.length xs.length hi = xs.length) ∧ ∀ p, H p = none → Q (.ref p) (upd H p (.tup (cutV xs lo hi)))

/-! ### t < u, t + u -/
def rLtT (K : PySem.W.Frag) : R2 := fun x y H Q => ∃ a b ns ms, x = .ref a ∧ y = .ref b ∧ SqT K H a (ns.map V.int) ∧ SqT K H b (ms.map V.int) ∧ Q (.bl (HT.lexLt ns ms)) H
/-- t + u, t not empty: u empty gives t itself -/
def rCatT (K : PySem.W.Frag) : R2 := fun x y H Q => ∃ a b xs ys, x = .ref a ∧ y = .ref b ∧ SqT K H a xs ∧ SqT K H b ys ∧ xs ≠ [] ∧ xs.length + ys.length ≤ sizeLine ∧
  (ys = [] → Q (.ref a) H) ∧ (ys ≠ [] → ∀ p, H p = none → Q (.ref p) (upd H p (.tup (xs ++ ys))))
end
end L2

namespace L2
open PySem PySem.Spec PyProof.Rows

/-! ### places -/
/-- the place that an index of any sign means -/
def ixN (n : Nat) (i : Int) : Option Nat := if 0 ≤ i then (if i < n then some i.toNat else none) else if -(n : Int) ≤ i then some (i + n).toNat else none
def atI {α : Type} (xs : List α) (i : Int) : Option α := (ixN xs.length i).bind fun j => xs[j]?
theorem ixN_seq {n : Nat} {i : Int} {j : Nat} (h : ixN n i = some j) : seqIndex? i n = some j ∧ j < n ∧ -(n : Int) ≤ i ∧ i < n := by
  unfold ixN at h
  by_cases h0 : 0 ≤ i
  · rw [if_pos h0] at h
    by_cases h1 : i < n
    · rw [if_pos h1] at h
      have e : i.toNat = j := Option.some.inj h
      exact ⟨by rw [seqIndex_of h0 h1, e], by omega, by omega, h1⟩
    · rw [if_neg h1] at h; cases h
  · rw [if_neg h0] at h
    by_cases h1 : -(n : Int) ≤ i
    · rw [if_pos h1] at h
      have e : (i + n).toNat = j := Option.some.inj h
      exact ⟨by rw [seqIndex_neg (by omega) h1, e], by omega, h1, by omega⟩
    · rw [if_neg h1] at h; cases h
theorem atI_get {α : Type} {xs : List α} {i : Int} {v : α} (h : atI xs i = some v) : ∃ j, seqIndex? i xs.length = some j ∧ xs[j]? = some v ∧ j < xs.length ∧ -(xs.length : Int) ≤ i ∧ i < xs.length := by
  unfold atI at h
  cases e : ixN xs.length i with
  | none => rw [e] at h; cases h
  | some j =>
    rw [e] at h
    obtain ⟨h1, h2, h3, h4⟩ := ixN_seq e
    exact ⟨j, h1, h, h2, h3, h4⟩
theorem atI_nat {α : Type} {xs : List α} {j : Nat} {v : α} (h : xs[j]? = some v) : atI xs (j : Int) = some v := by
  have hj : j < xs.length := (List.getElem?_eq_some_iff.mp h).1
  have e : ixN xs.length (j : Int) = some j := by
    unfold ixN
    rw [if_pos (by omega), if_pos (by omega)]; simp
  unfold atI; rw [e]; exact h
theorem atI_last {α : Type} (xs : List α) (v : α) : atI (xs ++ [v]) (-1) = some v := by
  have hl : (xs ++ [v]).length = xs.length + 1 := by simp
  have e : ixN (xs ++ [v]).length (-1) = some xs.length := by
    unfold ixN
    rw [hl, if_neg (by decide), if_pos (by omega)]
    congr 1
    omega
  unfold atI
  rw [e]
  show (xs ++ [v])[xs.length]? = some v
  simp

/-! ### what may be subscripted -/
/-- what stands as an index of a plain subscript -/
def PlainIx (b : Expr) : Prop := ∀ o i, subscripted b false o i = operate [o, i] (getItem o i)
/-- a subscript by values -/
def IxR (X : Cx) (r : R2) : Prop :=
  ∀ (value slice : Expr) (pins : List (Addr × Obj)) (s : Shared) (σ : St) (H : Hp) (x y : V) (v u : Value) (Q : VK), Inv X pins σ H s → RelV x v → RelV y u → r x y H Q →
    subscripted slice false v u = operate [v, u] (getItem v u) → wpAny (model X.prog X.w) X.A (subscriptTail value slice v u) (EP X pins σ Q) X.xe s
/-- a call of a builtin's method by values: the receiver, the arguments -/
def MtR (X : Cx) (id : String) (r : V → List V → Hp → VK → Prop) : Prop :=
  ∀ (pins : List (Addr × Obj)) (s : Shared) (σ : St) (H : Hp) (x : V) (xs : List V) (v : Value) (us : List Value) (Q : VK), Inv X pins σ H s → RelV x v → Vals xs us → r x xs H Q →
    wpAny (model X.prog X.w) X.A (call (.builtin id) (v :: us)) (EP X pins σ Q) X.xe s
section
variable {X : Cx} {a b : Expr} {ta tb : TE} {pos : Pos}
/-- a[b] -/
theorem pe_ix {r : R2} (hr : IxR X r) (ha : PE X a ta) (hb : PE X b tb) (hs : PlainIx b) : PE X (.Subscript a b pos) (tOp r ta tb) := by
  intro pins s σ H Q I h
  exact Subscript_ (binT ha hb I h fun v u s2 x y H2 I2 rx ry q => hr a b pins s2 σ H2 x y v u Q I2 rx ry q (hs _ _))

def rIxL (K : PySem.W.Frag) : R2 := fun x y H Q => ∃ p xs i v, x = .ref p ∧ y = .int i ∧ SqL K H p xs ∧ atI xs i = some v ∧ Q v H
def rIxT (K : PySem.W.Frag) : R2 := fun x y H Q => ∃ p xs i v, x = .ref p ∧ y = .int i ∧ SqT K H p xs ∧ atI xs i = some v ∧ Q v H
def rIxS : R2 := fun x y H Q => ∃ z i c, x = .str z ∧ y = .int i ∧ z.length ≤ sizeLine ∧ atI z.cps.toList i = some c ∧ Q (.str ⟨#[c]⟩) H
theorem ix_list : IxR X (rIxL X.K) := by
  intro value slice pins s σ H x y v u Q I rx ry h hs
  obtain ⟨p, xs, i, z, rfl, rfl, hq, he, q⟩ := h
  cases rx
  obtain ⟨t, rfl⟩ := ry
  obtain ⟨its, r, pl, hz⟩ := I.list hq
  obtain ⟨j, h1, h2, h3, h4, h5⟩ := atI_get he
  obtain ⟨w, ew, rw'⟩ := r.get h2
  have hl := r.length
  have hn := line63
  have fin : EP X pins σ Q w s := ⟨z, H, I, rw', q⟩
  by_cases h0 : 0 ≤ i
  · have hj : i.toNat = j := by
      rw [seqIndex_of h0 h5] at h1
      exact Option.some.inj h1
    exact item_listR pl.isList h0 (by omega) (by rw [hj]; simpa using ew) fin hs
  · have hj : (i + (its.toArray.size : Int)).toNat = j := by
      rw [seqIndex_neg (by omega) h4] at h1
      rw [List.size_toArray, ← hl]
      exact Option.some.inj h1
    exact subscriptTail_builtinR (x := w) pl.isList.typeIs slot_list_getitem.lookup
      (wpAny_getItem_list_neg (Q := fun r s' => r = w ∧ EP X pins σ Q r s') pl.isList (by omega) (by rw [List.size_toArray] <;> omega) (by omega) (by rw [hj]; simpa using ew) ⟨rfl, fin⟩) hs
theorem ix_tup : IxR X (rIxT X.K) := by
  intro value slice pins s σ H x y v u Q I rx ry h hs
  obtain ⟨p, xs, i, z, rfl, rfl, hq, he, q⟩ := h
  cases rx
  obtain ⟨t, rfl⟩ := ry
  obtain ⟨its, r, pl, hz⟩ := I.tuple hq
  obtain ⟨j, h1, h2, h3, h4, h5⟩ := atI_get he
  obtain ⟨w, ew, rw'⟩ := r.get h2
  have hl := r.length
  have hn := line63
  have fin : EP X pins σ Q w s := ⟨z, H, I, rw', q⟩
  exact subscriptTail_builtinR (x := w) pl.typeIs slot_tuple_getitem.lookup
    (getItem_tuple (j := j) (Q := fun r s' => r = w ∧ EP X pins σ Q r s') pl (by omega) (by omega) (by rw [List.size_toArray, ← hl]; exact h1) (by simpa using ew) ⟨rfl, fin⟩) hs
/-- list, tuple or str -/
def rIx (K : PySem.W.Frag) : R2 := fun x y H Q => rIxL K x y H Q ∨ rIxT K x y H Q ∨ rIxS x y H Q

/-! ### xs[i] = v, any sign -/
/-- the list's object behind a store -/
theorem mapSeq_set (its : List Value) (n j : Nat) (u : Value) : Obj.mapSeq (·.setIfInBounds j u) { cls := .type "list", data := .seq its.toArray n } = { cls := .type "list", data := .seq (its.set j u).toArray n } := by
  simp [Obj.mapSeq]
theorem Inv.lst {pins : List (Addr × Obj)} {σ : St} {H : Hp} {s : Shared} {p : Addr} {xs : List V} (I : Inv X pins σ H s) (h : H p = some (.lst xs)) :
    ∃ (its : List Value) (n : Nat), Vals xs its ∧ s.heap.get? p = some { cls := .type "list", data := .seq its.toArray n } ∧ xs.length ≤ sizeLine := by
  obtain ⟨z, its, n, r, e⟩ := I.hok p _ h
  exact ⟨its, n, r, e, z⟩
/-- the list at p is written by an update of its object -/
theorem Inv.lstUpd {pins : List (Addr × Obj)} {σ : St} {H : Hp} {s : Shared} {p : Addr} {xs ys : List V} {its its' : List Value} {n n' : Nat} {f : Obj → Obj} (I : Inv X pins σ H s) (h : H p = some (.lst xs))
    (ho : s.heap.get? p = some { cls := .type "list", data := .seq its.toArray n }) (hf : f { cls := .type "list", data := .seq its.toArray n } = { cls := .type "list", data := .seq its'.toArray n' }) (r : Vals ys its') (hz : ys.length ≤ sizeLine) (t : Nat) :
    Inv X pins σ (upd H p (.lst ys)) { s with heap := s.heap.update p f, toks := t } := by
  have e : (s.heap.update p f).get? p = some { cls := .type "list", data := .seq its'.toArray n' } := by
    rw [Heap.get?_update_self f ho (by rw [hf] <;> rfl), hf]
  refine I.write (x := p) (e := p) (by rw [h]; trivial) (.inl rfl) (fun b u hb q => (Heap.get?_update_other _ _ (Ne.symm hb)).trans q) ⟨_, e⟩ ?_
  exact ⟨hz, its', n', r, e⟩
def rSetL : V → V → V → Hp → (Hp → Prop) → Prop := fun o i v H Q => ∃ p xs k j, o = .ref p ∧ i = .int k ∧ H p = some (.lst xs) ∧ ixN xs.length k = some j ∧ Q (upd H p (.lst (xs.set j v)))
theorem set_list : PSet X rSetL := by
  intro pins s σ H o i v ov iv u Q I ro ri rv h
  obtain ⟨p, xs, k, j, rfl, rfl, hp, hj, q⟩ := h
  cases ro
  obtain ⟨t, rfl⟩ := ri
  obtain ⟨its, n, r, ho, hz⟩ := I.lst hp
  obtain ⟨h1, h2, h3, h4⟩ := ixN_seq hj
  have hl := r.length
  have hn := line63
  have I' : Inv X pins σ (upd H p (.lst (xs.set j v))) { s with heap := s.heap.update p (Obj.mapSeq (·.setIfInBounds j u)) } :=
    I.lstUpd hp ho (mapSeq_set its n j u) (r.set rv j) (by rw [List.length_set]; exact hz) s.toks
  by_cases h0 : 0 ≤ k
  · have hk : k.toNat = j := by
      rw [seqIndex_of h0 h4] at h1
      exact Option.some.inj h1
    exact PySem.W.ki_setAt ho h0 (by omega) (by rw [List.size_toArray, ← hl]; exact h4) (by rw [hk]; exact ⟨_, I', q⟩)
  · have hk : (k + (its.toArray.size : Int)).toNat = j := by
      rw [seqIndex_neg (by omega) h3] at h1
      rw [List.size_toArray, ← hl]
      exact Option.some.inj h1
    exact PySem.W.ki_setBack ho (by omega) (by rw [List.size_toArray, ← hl]; exact h3) (by omega) (by rw [hk]; exact ⟨_, I', q⟩)

/-! ### slices -/
theorem slice_bounds (lo hi : Option Int) (n : Nat) : (sliceBounds lo hi none n).1 = ((HT.sIx n 0 lo : Nat) : Int) ∧ (sliceBounds lo hi none n).2.1 = ((HT.sIx n n hi : Nat) : Int) ∧ (sliceBounds lo hi none n).2.2 = 1 := by
  refine ⟨?_, ?_, rfl⟩
  · cases lo with
    | none => simp [sliceBounds, HT.sIx]
    | some i =>
      simp only [sliceBounds, HT.sIx, Option.getD_none, show (1 : Int) > 0 by decide, if_true]
      by_cases h : i < 0
      · simp only [h, if_true] <;> omega
      · simp only [h, if_false] <;> omega
  · cases hi with
    | none => simp [sliceBounds, HT.sIx]
    | some i =>
      simp only [sliceBounds, HT.sIx, Option.getD_none, show (1 : Int) > 0 by decide, if_true]
      by_cases h : i < 0
      · simp only [h, if_true] <;> omega
      · simp only [h, if_false] <;> omega
theorem slicePick_cut (its : List Value) (lo hi : Option Int) : slicePick its.toArray lo hi none = ((its.drop (HT.sIx its.length 0 lo)).take (HT.sIx its.length its.length hi - HT.sIx its.length 0 lo)).toArray := by
  obtain ⟨h1, h2, h3⟩ := slice_bounds lo hi its.toArray.size
  unfold slicePick
  rw [h1, h2, h3]
  simp only [sliceRange_one, pick_run, List.size_toArray] <;> rfl
/-- xs[lo:hi] of a list: a new list -/
def rSlL (K : PySem.W.Frag) : V → Option Int → Option Int → Hp → VK → Prop := fun x lo hi H Q => ∃ a xs, x = .ref a ∧ SqL K H a xs ∧ ∀ p, H p = none → Q (.ref p) (upd H p (.lst (cutV xs lo hi)))
theorem sl_list : SlR X (rSlL X.K) := by
  intro pins s σ H x v vl vu lo hi sl Q I rx hs pl pu h
  obtain ⟨a, xs, rfl, hx, q⟩ := h
  cases rx
  obtain ⟨its, r, ht, hz⟩ := I.list hx
  have hlen := r.length
  refine ⟨"list", _, slot_list_getitem.lookup, ht.isList.typeIs, ?_⟩
  refine wpAny_getItem_list_slice ht.isList hs pl pu .none (by simp) ?_ (by rw [List.size_toArray] <;> omega)
  rw [slicePick_cut, ← hlen]
  refine ⟨.ref s.heap.objs.size, _, I.laid (t' := s.toks) (o := .lst (cutV xs lo hi)) (fun b ob q => Heap.get?_push_of_some _ q) (Nat.le_refl _) ?_, rfl, q _ (I.hok.fresh (Nat.le_refl _))⟩
  exact ⟨Nat.le_trans (cutV_length xs lo hi) hz, _, 0, (r.drop (HT.sIx xs.length 0 lo)).take (HT.sIx xs.length xs.length hi - HT.sIx xs.length 0 lo), Heap.get?_push_size _ rfl⟩

/-! ### in, not in: flat items -/
def flatV : V → Bool
  | .non => true
  | .bl _ => true
  | .int _ => true
  | .str _ => true
  | _ => false
/-- == of flat values -/
def eqV : V → V → Bool
  | .non, .non => true
  | .bl a, .bl b => a == b
  | .bl a, .int b => (if a then 1 else 0) == b
  | .int a, .bl b => a == (if b then 1 else 0)
  | .int a, .int b => a == b
  | .str a, .str b => a == b
  | _, _ => false
theorem eqAt_V {A : Around} {s : Shared} {y x : V} {u v : Value} (ry : RelV y u) (rx : RelV x v) (fy : flatV y = true) (fx : flatV x = true) : SeqAt.EqAt A s u v (eqV y x) := by
  cases y with
  | non =>
    cases ry
    cases x with
    | non => cases rx; exact SeqAt.EqAt.same _
    | bl b => cases rx; exact SeqAt.EqAt.none_bool b
    | int b => obtain ⟨t, rfl⟩ := rx; exact SeqAt.EqAt.none_int b t
    | str b => obtain ⟨t, rfl⟩ := rx; exact SeqAt.EqAt.none_str b t
    | _ => exact absurd (show false = true from fx) Bool.false_ne_true
  | bl a =>
    cases ry
    cases x with
    | non => cases rx; exact SeqAt.EqAt.bool_none a
    | bl b => cases rx; exact SeqAt.EqAt.bool_bool a b
    | int b => obtain ⟨t, rfl⟩ := rx; exact SeqAt.EqAt.bool_int a b t
    | str b => obtain ⟨t, rfl⟩ := rx; exact SeqAt.EqAt.bool_str a b t
    | _ => exact absurd (show false = true from fx) Bool.false_ne_true
  | int a =>
    obtain ⟨t', rfl⟩ := ry
    cases x with
    | non => cases rx; exact SeqAt.EqAt.int_none a t'
    | bl b => cases rx; exact SeqAt.EqAt.int_bool a t' b
    | int b => obtain ⟨t, rfl⟩ := rx; exact SeqAt.EqAt.int_int a t' b t
    | str b => obtain ⟨t, rfl⟩ := rx; exact SeqAt.EqAt.int_str a t' b t
    | _ => exact absurd (show false = true from fx) Bool.false_ne_true
  | str a =>
    obtain ⟨t', rfl⟩ := ry
    cases x with
    | non => cases rx; exact SeqAt.EqAt.str_none a t'
    | bl b => cases rx; exact SeqAt.EqAt.str_bool a t' b
    | int b => obtain ⟨t, rfl⟩ := rx; exact SeqAt.EqAt.str_int a t' b t
    | str b => obtain ⟨t, rfl⟩ := rx; exact SeqAt.EqAt.str_str a t' b t
    | _ => exact absurd (show false = true from fx) Bool.false_ne_true
  | _ => exact absurd (show false = true from fy) Bool.false_ne_true
/-- the items' answers, read off the values (a value's own answer does not lean on its token) -/
def eqU (x : V) (u : Value) : Bool := match u with
  | .none => eqV .non x
  | .bool b => eqV (.bl b) x
  | .int i _ => eqV (.int i) x
  | .str z _ => eqV (.str z) x
  | _ => false
theorem eqU_of {x y : V} {u : Value} (r : RelV y u) (f : flatV y = true) : eqU x u = eqV y x := by
  cases y with
  | non => cases r; rfl
  | bl b => cases r; rfl
  | int i => obtain ⟨t, rfl⟩ := r; rfl
  | str z => obtain ⟨t, rfl⟩ := r; rfl
  | _ => exact absurd (show false = true from f) Bool.false_ne_true
theorem any_eqU {x : V} : ∀ {xs : List V} {us : List Value}, Vals xs us → xs.all flatV = true → us.any (eqU x) = xs.any fun y => eqV y x
  | _, _, .nil, _ => rfl
  | y :: xs, u :: us, .cons r t, f => by
    rw [List.all_cons, Bool.and_eq_true] at f
    rw [List.any_cons, List.any_cons, eqU_of r f.1, any_eqU t f.2]
theorem mem_eqAt {A : Around} {s : Shared} {x : V} {v : Value} (rx : RelV x v) (fx : flatV x = true) : ∀ {xs : List V} {us : List Value}, Vals xs us → xs.all flatV = true → ∀ u ∈ us, SeqAt.EqAt A s u v (eqU x u)
  | _, _, .nil, _ => fun u hu => by cases hu
  | y :: xs, u :: us, .cons r t, f => fun u' hu => by
    rw [List.all_cons, Bool.and_eq_true] at f
    rcases List.mem_cons.mp hu with rfl | hu
    · rw [eqU_of r f.1]; exact eqAt_V r rx f.1 fx
    · exact mem_eqAt rx fx t f.2 u' hu
def inV (x : V) (xs : List V) : Bool := xs.any fun y => eqV y x
/-- x in a list or tuple of flat items -/
def rIn (K : PySem.W.Frag) (neg : Bool) : R2 := fun x y H Q => ∃ p xs, y = .ref p ∧ (SqL K H p xs ∨ SqT K H p xs) ∧ flatV x = true ∧ xs.all flatV = true ∧ Q (.bl (if neg then !inV x xs else inV x xs)) H
theorem op_in_seq : OpR X (compareOp .In) (rIn X.K false) := by
  intro pins s σ H x y v u Q I rx ry h
  obtain ⟨p, xs, rfl, hq, fx, fs, q⟩ := h
  cases ry
  rcases hq with hq | hq
  · obtain ⟨its, r, pl, hz⟩ := I.list hq
    refine SeqAt.in_listAt (eqU x) pl.isList (fun w hw => mem_eqAt rx fx r fs w (by simpa using hw)) ⟨.bl _, H, I, rfl, ?_⟩
    rw [show its.toArray.any (eqU x) = its.any (eqU x) by simp, any_eqU r fs]
    exact q
  · obtain ⟨its, r, pl, hz⟩ := I.tuple hq
    refine SeqAt.in_tupleAt (eqU x) pl (fun w hw => mem_eqAt rx fx r fs w (by simpa using hw)) ⟨.bl _, H, I, rfl, ?_⟩
    rw [show its.toArray.any (eqU x) = its.any (eqU x) by simp, any_eqU r fs]
    exact q

/-! ### len, list(x), tuple(x) of any list or tuple that is read -/
theorem call_len_seq : CallR X (.builtin "len") (fun xs H Q => ∃ p ys, xs = [.ref p] ∧ (SqL X.K H p ys ∨ SqT X.K H p ys) ∧ Q (.int ys.length) H) := by
  intro pins s σ H xs us Q I r h
  obtain ⟨p, ys, rfl, hq, q⟩ := h
  obtain ⟨u, rfl, rx⟩ := vals1 r
  cases rx
  have hn := line63
  rcases hq with hq | hq
  · obtain ⟨its, r', pl, hz⟩ := I.list hq
    have hlen := r'.length
    exact Calls.call_len_list pl.isList (by simp only [List.size_toArray] <;> omega) ⟨.int ys.length, H, I.tok _, ⟨s.toks + 1, by rw [List.size_toArray, hlen]⟩, q⟩
  · obtain ⟨its, r', pl, hz⟩ := I.tuple hq
    have hlen := r'.length
    exact len_tuple pl (by simp only [List.size_toArray] <;> omega) ⟨.int ys.length, H, I.tok _, ⟨s.toks + 1, by rw [List.size_toArray, hlen]⟩, q⟩
theorem call_list_of : CallR X (.type "list") (fun xs H Q => ∃ p ys, xs = [.ref p] ∧ (SqL X.K H p ys ∨ SqT X.K H p ys) ∧ ∀ l, H l = none → Q (.ref l) (upd H l (.lst ys))) := by
  intro pins s σ H xs us Q I r h
  obtain ⟨p, ys, rfl, hq, q⟩ := h
  obtain ⟨u, rfl, rx⟩ := vals1 r
  cases rx
  have fin : ∀ (its : List Value), Vals ys its → ys.length ≤ sizeLine → ∀ (h' : Heap) (c' : Nat), (∀ b o', s.heap.get? b = some o' → h'.get? b = some o') →
      h'.get? s.heap.objs.size = some { cls := .type "list", dict := none, data := .seq its.toArray c', slots := #[] } → EP X pins σ Q (.ref s.heap.objs.size) { s with heap := h' } := fun its r' hz h' c' kp e =>
    ⟨.ref s.heap.objs.size, _, I.laid (t' := s.toks) kp (Nat.le_refl _) (show ObjOk X.prog X.w _ h' _ (.lst ys) from ⟨hz, its, c', r', e⟩), rfl, q _ (I.hok.fresh (Nat.le_refl _))⟩
  rcases hq with hq | hq
  · obtain ⟨its, r', pl, hz⟩ := I.list hq
    have hlen := r'.length
    obtain ⟨o, ho, hc, n, hd⟩ := pl.isList
    exact call_list_seq p (.inl rfl) ho hc hd (fun h' c' kp e => fin its r' hz h' c' kp e) (by simp only [List.size_toArray] <;> omega)
  · obtain ⟨its, r', pl, hz⟩ := I.tuple hq
    have hlen := r'.length
    obtain ⟨o, ho, hc, n, hd⟩ := pl
    exact call_list_seq p (.inr rfl) ho hc hd (fun h' c' kp e => fin its r' hz h' c' kp e) (by simp only [List.size_toArray] <;> omega)

/-! ### the call of a builtin's method: o.m(..) -/
/-- the value is of that builtin type -/
def tyV (K : PySem.W.Frag) (T : String) (x : V) (H : Hp) : Prop := match x with
  | .str _ => T = "str"
  | .int _ => T = "int"
  | .ref p => (T = "list" ∧ ∃ xs, SqL K H p xs) ∨ (T = "tuple" ∧ ∃ o, K.lookup p = some o ∧ o.cls = .type "tuple" ∧ o.dict = none) ∨
      (T = "dict" ∧ ((∃ kvs, H p = some (.dK kvs)) ∨ ∃ kvs, H p = some (.dT kvs))) ∨ (T = "set" ∧ ∃ S n, H p = some (.set S n))
  | _ => False
theorem tyV_is {pins : List (Addr × Obj)} {σ : St} {H : Hp} {s : Shared} {T : String} {x : V} {v : Value} (I : Inv X pins σ H s) (r : RelV x v) (ty : tyV X.K T x H) :
    s.TypeIs v T ∧ ∀ a, v = .ref a → ∃ ob, s.heap.get? a = some ob ∧ ob.dict = none := by
  cases x with
  | str z =>
    obtain ⟨t, rfl⟩ := r
    cases (show T = "str" from ty)
    exact ⟨typeIs_str s z t, fun _ e => nomatch e⟩
  | int i =>
    obtain ⟨t, rfl⟩ := r
    cases (show T = "int" from ty)
    exact ⟨typeIs_int s i t, fun _ e => nomatch e⟩
  | ref p =>
    cases r
    rcases ty with ⟨rfl, xs, hq⟩ | ⟨rfl, o, hk, hc, hd⟩ | ⟨rfl, hk⟩ | ⟨rfl, S, n, hk⟩
    · obtain ⟨its, _, pl, _⟩ := I.list hq
      refine ⟨pl.isList.typeIs, fun a e => ?_⟩
      cases e
      obtain ⟨o, n, e, c, hd, _⟩ := pl
      exact ⟨o, e, hd⟩
    · refine ⟨⟨o, I.kIn p o hk, hc⟩, fun a e => ?_⟩
      cases e
      exact ⟨o, I.kIn _ o hk, hd⟩
    · have z : ∃ o, s.heap.get? p = some o ∧ o.ExactDict := by
        rcases hk with ⟨kvs, hk⟩ | ⟨kvs, hk⟩
        · obtain ⟨_, _, _, _, o, _, _, e, ex, _⟩ := I.hok p _ hk
          exact ⟨o, e, ex⟩
        · obtain ⟨_, _, _, _, o, _, _, e, ex, _⟩ := I.hok p _ hk
          exact ⟨o, e, ex⟩
      obtain ⟨o, e, ex⟩ := z
      refine ⟨⟨o, e, ex.1⟩, fun a e2 => ?_⟩
      cases e2
      exact ⟨o, e, ex.2.1⟩
    · obtain ⟨o, _, _, _, e, ex, _⟩ := I.hok p _ hk
      refine ⟨⟨o, e, ex.1⟩, fun a e2 => ?_⟩
      cases e2
      exact ⟨o, e, ex.2.1⟩
  | _ => exact False.elim ty
def tBM0 (K : PySem.W.Frag) (T : String) (r : V → List V → Hp → VK → Prop) (to : TE) : TE := fun σ H Q => to σ H fun x H1 => tyV K T x H1 ∧ r x [] H1 Q
def tBM (K : PySem.W.Frag) (T : String) (r : V → List V → Hp → VK → Prop) (to : TE) (t : TA) : TE := fun σ H Q => to σ H fun x H1 => tyV K T x H1 ∧ t σ H1 fun xs H2 => r x xs H2 Q
variable {o e : Expr} {es : List Expr} {to : TE} {t : TA} {name : Str} {apos cpos : Pos} {T id : String} {r : V → List V → Hp → VK → Prop}
theorem pe_bm (pa : PlainAttrs T) (slot : Slot T name id) (hty : typeOf (.builtin id) = pure (.type "method_descriptor")) (hm : MtR X id r) (ho : PE X o to) (ha : PA X (e :: es) t)
    (hbase : attributeBase o name X.env (eval o X.env) = eval o X.env := by rfl)
    (hfew : ((backTo cpos (starEach (e :: es) X.env)).all (fun x => !x.1) && (backToKw cpos (keywordEach [] X.env)).all (fun x => x.1.isSome)
      && decide ((e :: es).length + ([] : List Keyword).length + (if ([] : List Keyword).isEmpty then 0 else 1) < 30)) = true := by rfl)
    (hline : (apos.endLine == cpos.line) = true := by rfl) (hs : starEach (e :: es) X.env = (false, eval e X.env) :: starEach es X.env := by rfl) (hplain : (backTo cpos (starEach es X.env)).any (·.1) = false := by rfl) :
    PE X (.Call (.Attribute o name apos) (e :: es) [] cpos) (tBM X.K T r to t) := by
  intro pins s σ H Q I h
  refine wpAny_Call_method_late hbase hfew hline rfl (thn (ho pins s σ H _ I h) fun v s1 ⟨x, H1, I1, r1, ty, q1⟩ => ?_)
  obtain ⟨h1, h2⟩ := tyV_is I1 r1 ty
  refine ⟨T, id, pa, slot, hty, h1, h2, ?_⟩
  have hA := ha cpos pins s1 σ H1 _ I1 q1
  rw [hs] at hA ⊢
  refine Calls.callWith_builtin (by show (false || (backTo cpos (starEach es X.env)).any (·.1)) = false; rw [hplain] <;> rfl) (Calls.evalArgs_plain ?_)
  exact thn hA fun us s2 ⟨vs, H2, I2, r2, q2⟩ => hm pins s2 σ H2 x vs v us Q I2 r1 r2 q2
/- xs.append(e), list.index on a module's tuple .. are MtR facts of 06m -/
end
end L2

namespace L2
open PySem PySem.Spec PyProof.Rows

def MtM (X : Cx) (id : String) (r : V → List V → Hp → VK → Prop) : Prop :=
  ∀ (pins : List (Addr × Obj)) (s : Shared) (σ : St) (H : Hp) (x : V) (xs : List V) (v : Value) (us : List Value) (Q : VK), Inv X pins σ H s → RelV x v → Vals xs us → r x xs H Q →
    wpAny (model X.prog X.w) X.A (call (.builtin id) (v :: us)) (EP X pins σ Q) X.xe s

/-! ### lists of values -/
theorem Vals.one : ∀ {x : V} {us : List Value}, Vals [x] us → ∃ u, us = [u] ∧ RelV x u
  | _, _, .cons r .nil => ⟨_, rfl, r⟩
theorem Vals.two : ∀ {x y : V} {us : List Value}, Vals [x, y] us → ∃ u v, us = [u, v] ∧ RelV x u ∧ RelV y v
  | _, _, _, .cons r (.cons q .nil) => ⟨_, _, rfl, r, q⟩
theorem Vals.rep {xs : List V} {us : List Value} (h : Vals xs us) : ∀ k : Nat, Vals (List.replicate k xs).flatten (List.replicate k us).flatten
  | 0 => .nil
  | k + 1 => by
    rw [List.replicate_succ, List.replicate_succ, List.flatten_cons, List.flatten_cons]
    exact Vals.append h (Vals.rep h k)
theorem foldl_rep (its : List Value) : ∀ (k : Nat) (acc : List Value),
    List.foldl (fun x1 x2 => x1 ++ x2) acc.toArray (List.replicate k its.toArray) = (acc ++ (List.replicate k its).flatten).toArray
  | 0, acc => by simp
  | k + 1, acc => by
    have e : acc.toArray ++ its.toArray = (acc ++ its).toArray := by simp
    have e2 : (acc ++ its) ++ (List.replicate k its).flatten = acc ++ (List.replicate (k + 1) its).flatten := by
      rw [List.replicate_succ, List.flatten_cons, List.append_assoc]
    rw [← e2, ← foldl_rep its k (acc ++ its), ← e, List.replicate_succ, List.foldl_cons]

section
variable {X : Cx} {pins : List (Addr × Obj)} {σ : St} {H : Hp} {s : Shared} {l b : Addr} {xs ys zs : List V}

/-! ### the two steps: a tracked list is rewritten, a new list is laid -/
theorem Inv.lset {its its' : List Value} {n : Nat} {f : Array Value → Array Value} {t' : Nat} (I : Inv X pins σ H s) (hH : H l = some (.lst xs))
    (e : s.heap.get? l = some { cls := .type "list", data := .seq its.toArray n }) (hf : f its.toArray = its'.toArray) (hv : Vals ys its') (hz : ys.length ≤ sizeLine) :
    Inv X pins σ (upd H l (.lst ys)) { s with heap := s.heap.update l (Obj.mapSeq f), toks := t' } := by
  have q := PySem.IsL.update e f
  rw [hf] at q
  refine I.write (x := l) (e := l) (by rw [hH]; exact trivial) (.inl rfl) (fun b' u hb hu => (Heap.get?_update_other s.heap (Obj.mapSeq f) (Ne.symm hb)).trans hu) ⟨_, q⟩ ?_
  exact ⟨hz, its', _, hv, q⟩
theorem Inv.lnew {its : List Value} {t' : Nat} (I : Inv X pins σ H s) (hv : Vals ys its) (hz : ys.length ≤ sizeLine) :
    Inv X pins σ (upd H s.heap.objs.size (.lst ys)) { s with heap := s.heap.push { cls := .type "list", data := .seq its.toArray }, toks := t' } :=
  I.laid (fun _ _ q => Heap.get?_push_of_some _ q) (Nat.le_refl _) ⟨hz, its, 0, hv, Heap.get?_push_size _ rfl⟩
theorem Inv.fresh (I : Inv X pins σ H s) : H s.heap.objs.size = none := I.hok.fresh (Nat.le_refl _)
theorem Inv.lstM (I : Inv X pins σ H s) (hH : H l = some (.lst xs)) : xs.length ≤ sizeLine ∧ ∃ (its : List Value) (n : Nat), Vals xs its ∧ xs.length = its.length ∧ s.heap.get? l = some { cls := .type "list", data := .seq its.toArray n } := by
  obtain ⟨z, its, n, r, e⟩ := I.hok l _ hH
  exact ⟨z, its, n, r, r.length, e⟩

theorem notLongL {n : Nat} (h : n ≤ sizeLine) : Builtin.List.listTooLong n = false := by
  unfold Builtin.List.listTooLong
  exact decide_eq_false (by omega)
end

section
variable {X : Cx}

/-! ### methods -/
def rAppend : V → List V → Hp → VK → Prop := fun x vs H Q => ∃ l xs y, x = .ref l ∧ vs = [y] ∧ H l = some (.lst xs) ∧ xs.length < sizeLine ∧ Q .non (upd H l (.lst (xs ++ [y])))
theorem mt_append : MtM X "list.append" rAppend := by
  intro pins s σ H x vs v us Q I rx rv h
  obtain ⟨l, xs, y, rfl, rfl, hH, hz, q⟩ := h
  cases rx
  obtain ⟨u, rfl, ru⟩ := rv.one
  obtain ⟨z, its, n, r, hl, e⟩ := I.lstM hH
  refine call_meets F.slot_list_append ⟨_, e, rfl⟩ F.entry_list_append (F.args_list_append_2 _ _) (PySem.list_append l its.toArray n u (by rw [List.size_toArray]; omega)) ⟨e, ?_⟩
  refine ⟨.non, _, I.lset (its' := its ++ [u]) hH e (by simp) (r.append (.cons ru .nil)) ?_, rfl, q⟩
  rw [List.length_append, List.length_singleton]
  omega

def rExtend : V → List V → Hp → VK → Prop := fun x vs H Q => ∃ l b xs zs, x = .ref l ∧ vs = [.ref b] ∧ H l = some (.lst xs) ∧ H b = some (.lst zs) ∧ xs.length + zs.length ≤ sizeLine ∧ Q .non (upd H l (.lst (xs ++ zs)))
theorem mt_extend : MtM X "list.extend" rExtend := by
  intro pins s σ H x vs v us Q I rx rv h
  obtain ⟨l, b, xs, zs, rfl, rfl, hH, hB, hz, q⟩ := h
  cases rx
  obtain ⟨u, rfl, ru⟩ := rv.one
  cases ru
  obtain ⟨z, its, n, r, hl, e⟩ := I.lstM hH
  obtain ⟨z2, its2, n2, r2, hl2, e2⟩ := I.lstM hB
  have hsz : its.toArray.size + its2.toArray.size ≤ sizeLine := by rw [List.size_toArray, List.size_toArray]; omega
  have hlong : ¬ (!its.toArray.isEmpty && Builtin.List.listTooLong (its.toArray.size + its2.toArray.size)) = true := by
    rw [notLongL hsz, Bool.and_false]
    exact Bool.false_ne_true
  refine call_meets F.slot_list_extend ⟨_, e, rfl⟩ F.entry_list_extend (F.args_list_extend_2 _ _)
    (AutoSeq1.list_extend_list_list_0 l its.toArray n b its2.toArray n2 hlong (by rw [List.size_toArray]; omega) (by omega)) ⟨e, e2, ?_⟩
  refine ⟨.non, _, I.lset (its' := its ++ its2) hH e (by simp) (r.append r2) ?_, rfl, q⟩
  rw [List.length_append]
  omega

def rPop : V → List V → Hp → VK → Prop := fun x vs H Q => ∃ l xs y, x = .ref l ∧ vs = [] ∧ H l = some (.lst xs) ∧ xs[xs.length - 1]? = some y ∧ Q y (upd H l (.lst xs.dropLast))

def rPopAt : V → List V → Hp → VK → Prop := fun x vs H Q => ∃ l xs i k y, x = .ref l ∧ vs = [.int i] ∧ H l = some (.lst xs) ∧ -(2 ^ 63) ≤ i ∧ i < 2 ^ 63 ∧ seqIndex? i xs.length = some k ∧ xs[k]? = some y ∧ Q y (upd H l (.lst (xs.eraseIdx k)))

def rReverse : V → List V → Hp → VK → Prop := fun x vs H Q => ∃ l xs, x = .ref l ∧ vs = [] ∧ H l = some (.lst xs) ∧ Q .non (upd H l (.lst xs.reverse))

def rClear : V → List V → Hp → VK → Prop := fun x vs H Q => ∃ l xs, x = .ref l ∧ vs = [] ∧ H l = some (.lst xs) ∧ Q .non (upd H l (.lst []))

/-! ### list + list, list += list, list * int -/
def rCat : R2 := fun x y H Q => ∃ l b xs zs, x = .ref l ∧ y = .ref b ∧ H l = some (.lst xs) ∧ H b = some (.lst zs) ∧ xs.length + zs.length ≤ sizeLine ∧ ∀ p, H p = none → Q (.ref p) (upd H p (.lst (xs ++ zs)))
theorem op_cat : OpR X (binaryOp .Add) rCat := by
  intro pins s σ H x y v u Q I rx ry h
  obtain ⟨l, b, xs, zs, rfl, rfl, hH, hB, hz, q⟩ := h
  cases rx
  cases ry
  obtain ⟨z, its, n, r, hl, e⟩ := I.lstM hH
  obtain ⟨z2, its2, n2, r2, hl2, e2⟩ := I.lstM hB
  refine PySem.P.add_list e e2 ?_ (by rw [List.size_toArray, List.size_toArray]; omega)
  have ea : its.toArray ++ its2.toArray = (its ++ its2).toArray := by simp
  rw [ea]
  exact ⟨.ref _, _, I.lnew (t' := s.toks) (r.append r2) (by rw [List.length_append]; omega), rfl, q _ I.fresh⟩
/-- a list times an int (a negative one is nothing) -/
def rRep : R2 := fun x y H Q => ∃ l k xs, x = .ref l ∧ y = .int k ∧ H l = some (.lst xs) ∧ -(2 ^ 63) ≤ k ∧ k < 2 ^ 63 ∧ xs.length * k.toNat ≤ sizeLine ∧
  ∀ p, H p = none → Q (.ref p) (upd H p (.lst (List.replicate k.toNat xs).flatten))
theorem len_rep {α : Type} (xs : List α) (k : Nat) : (List.replicate k xs).flatten.length = k * xs.length := by
  induction k with
  | zero => simp
  | succ k ih => rw [List.replicate_succ, List.flatten_cons, List.length_append, ih, Nat.succ_mul, Nat.add_comm]
theorem op_rep : OpR X (binaryOp .Mult) rRep := by
  intro pins s σ H x y v u Q I rx ry h
  obtain ⟨l, k, xs, rfl, rfl, hH, h1, h2, hz, q⟩ := h
  cases rx
  obtain ⟨t, rfl⟩ := ry
  obtain ⟨z, its, n, r, hl, e⟩ := I.lstM hH
  have hlen : its.toArray.size * k.toNat ≤ sizeLine := by rw [List.size_toArray, ← hl]; exact hz
  have hcap : ¬ its.toArray.size * k.toNat > (2 ^ 63 - 1) / 8 := by
    have : (sizeLine : Nat) ≤ (2 ^ 63 - 1) / 8 := by decide
    omega
  have hfit : ¬ (!Builtin.List.listFitsIndex k) = true := by
    rw [fitsIndex_both h1 h2]
    exact Bool.false_ne_true
  have hlong : ¬ Builtin.List.listTooLong (its.toArray.size * k.toNat) = true := by
    rw [notLongL hlen]
    exact Bool.false_ne_true
  have hnew : List.foldl (fun x1 x2 => x1 ++ x2) #[] (List.replicate (if its.toArray.isEmpty = true then 0 else k.toNat) its.toArray) = (List.replicate k.toNat its).flatten.toArray := by
    have f0 : ∀ m : Nat, List.foldl (fun x1 x2 => x1 ++ x2) #[] (List.replicate m its.toArray) = (List.replicate m its).flatten.toArray := fun m => by
      have := foldl_rep its m []
      rw [List.nil_append] at this
      exact this
    rw [f0]
    cases its with
    | nil => simp
    | cons a r' => rw [if_neg (by simp)]
  refine wpAny_binaryOp_repeat_ref (T := "list") (U := "int") (by decide) ⟨_, e, rfl⟩ (fun s' => typeIs_int s' k t) noFill_list_mul F.fills_int_mul F.slot_int_rmul repeat_list F.slot_int_index.lookup
    (call_meets F.slot_int_rmul (typeIs_int s k t) F.entry_int_rmul (F.args_int_rmul_2 _ _) (int___rmul___int_list k t l its.toArray n)
      ⟨e, rfl, ⟨_, e, rfl⟩, call_meets F.slot_list_mul ⟨_, e, rfl⟩ F.entry_list_mul (F.args_list_mul_2 _ _) (AutoListH.list___mul___list_int_3 l its.toArray n k t hfit hcap hlong) ⟨e, ?_⟩⟩)
  rw [hnew]
  exact ⟨.ref _, _, I.lnew (t' := s.toks) (r.rep k.toNat) (by rw [len_rep, Nat.mul_comm]; exact hz), rfl, q _ I.fresh⟩

/-! ### del xs[i] -/
end

/-! ### xs[a:b] = ys -/
section
variable {prog : Program} {w : World} {A : Around} {E : Value → Shared → Prop} {s : Shared}
set_option maxRecDepth 100000 in
end

section
variable {X : Cx}
end
end L2

namespace Att
open PySem PySem.W PySem.Calls PyProof.Rows

/-! ### the script -/
theorem ints_of_wellAll {P : Params} {h : Heap} : ∀ (ns : List Int) (vs : List Value), WellAll P h vs (ns.map WData.int) → IntsAre vs ns := by
  intro ns
  induction ns with
  | nil =>
    intro vs w
    rw [List.map_nil] at w
    cases w
    exact .nil
  | cons n ns ih =>
    intro vs w
    rw [List.map_cons] at w
    cases w with
    | cons a b =>
      cases a
      exact .cons _ _ (ih _ b)

theorem script_of {l : OpenLaw} {n : Nat} (hn : l.most = some n) {P : Params} {h : Heap} {args : List WData} {vals : List Value}
    (hpre : l.row.toRowW.claim.pre args = true) (hwl : WellAll P h vals args) :
    ∃ a vs ns, vals = [Value.ref a] ∧ args = [WData.list (ns.map WData.int)] ∧ h.get? a = some { cls := .type "list", data := .seq vs.toArray } ∧ IntsAre vs ns ∧ ns.length ≤ n := by
  have hsh : WShape.hasAll [] args [.list .int] = true := (pre_splitW hpre).1
  have hc : l.pre.holds [] { args := args } = true := (pre_splitW hpre).2
  obtain ⟨d, r, rfl, h1, h2⟩ := hasAllW_cons hsh
  obtain rfl := hasAllW_nil h2
  obtain ⟨xs, rfl, h3⟩ := hasW_list h1
  obtain ⟨ns, rfl⟩ := items_int h3
  have hlen : ns.length ≤ n := by
    unfold OpenLaw.pre at hc
    have h4 : (WTm.not (.lt (.lit (.int (n : Int))) (.len (.arg 0)))).holds [] { args := [.list (ns.map .int)] } = true := by
      have h4 := (holds_andW hc).1
      rw [hn] at h4
      exact h4
    have h5 := condW_of h4 (w_not (w_lt w_lit (w_len_list (w_arg rfl))))
    rw [List.length_map] at h5
    refine Nat.le_of_not_lt fun q => ?_
    have q' : (n : Int) < ((ns.length : Nat) : Int) := by omega
    first
      | (rw [decide_eq_true q'] at h5; exact absurd h5 (by decide))
      | (simp at h5; omega)
  cases hwl with
  | cons w1 w2 =>
    cases w2
    cases w1 with
    | list ho hall => exact ⟨_, _, ns, rfl, rfl, ho, ints_of_wellAll ns _ hall, hlen⟩

theorem post_true (l : OpenLaw) (args : List WData) : l.row.toRowW.claim.post args (.bool true) args = true :=
  postW_of (r := l.row.toRowW) (X := (true == true))
    (show WShape.has [] (.bool true) .bool = true by first | rfl | decide | simp [WShape.has, WShape.arms, WShape.armsAll])
    (show (WTm.eq .res (.lit (.bool true))).value [] { args := args, res := some (.bool true), after := args } = some (.bool (true == true)) from w_eq_bool (w_res rfl) w_lit) rfl

/-! ### the attachment: holds_open's last premise (the goal 'hc' behind k_head) from a wpAny of the law's body -/

/-- the same from a codeAny of the CALL (for a layer whose function contracts speak of calls) -/
theorem attach_call {l : OpenLaw} {n : Nat} {q : Program} {loose : List Str} {XP : (Str → Option Value) → Heap → Prop} {YP : World → Heap → Prop} {d : DefRec}
    (hn : l.most = some n) (hdf : d.params.defaults = [])
    (call : ∀ (w : World) (s₀ s₁ : Shared) (mg mb : Str → Option Value) (fa : Addr) (o : Obj) (pm cd doc : Value) (a : Addr) (vs : List Value) (ns : List Int),
      Ground q loose [] XP w s₀ mg mb s₁.heap → YP w s₁.heap →
      s₁.heap.get? fa = some o → o.data = .func (docDef d.name d.params d.body d.scope pm cd doc) → s₁.heap.CodeRec cd d.name → mg d.name = some (.ref fa) →
      s₁.heap.get? a = some { cls := .type "list", data := .seq vs.toArray } → IntsAre vs ns → ns.length ≤ n → s₁.gens = #[] →
      codeAny (model l.prog w) callerA (.call (.ref fa) ⟨[.ref a], []⟩) (fun r s' => r = .ok (.ret (.bool true)) ∧ OldK s₁.heap s'.heap ∧ s'.os = s₁.os ∧ AllBare s'.gens) s₁) :
    WalkO q loose XP YP l.row.toRowW d [] (fun f vs => PySem.call f vs) := by
  intro w s₀ s₁ mg mb G Y fa o pm cd doc dV kV ho hd hcd hD hmg hg args vals as hpre hlay hrd hwl hlo
  obtain rfl : dV = .none := Dflts.none hD hdf
  obtain rfl : kV = .none := Dflts.noKw hD
  obtain ⟨a, vs, ns, rfl, rfl, hobj, hints, hlen⟩ := script_of hn hpre hwl
  refine enter_call (codeAny_mono (call w s₀ s₁ mg mb fa o pm cd doc a vs ns G Y ho (fd_plain hd) hcd hmg hobj hints hlen hg) fun r s' hq => ?_)
  obtain ⟨rfl, h2, h3, h4⟩ := hq
  exact ⟨.inl ⟨.bool true, .bool true, [], rfl, fun _ => rfl, .bool true, post_true l _, fun _ => ⟨List.Pairwise.nil, fun _ hm => (nomatch hm)⟩⟩, h2, h3, h4⟩


/-! ### rules over ANY heap (no ledger) from facts about the written part K: the library's own take a ledger (News) for what they write -/
section
variable {prog : Program} {w : World} {A : Around} {E : Value → Shared → Prop} {s : Shared} {K : Frag}





/-! the whole heap as the ledger: makes every rule that writes through a ledger a rule over any heap -/
def noObjs (h : Heap) : Heap := { h with objs := #[] }
def ledger (h : Heap) (L d : Addr) : List (Addr × Obj) := (List.range h.objs.size).filterMap fun a => if a = L ∨ a = d then none else (h.get? a).map fun o => (a, o)

end
end Att

namespace L2
open PySem PySem.Spec PyProof.Rows

theorem vals_ints : ∀ {vs : List Value} {ns : List Int}, IntsAre vs ns → Vals (ns.map V.int) vs
  | _, _, .nil => .nil
  | _, _, .cons n t h => .cons ⟨t, rfl⟩ (vals_ints h)

/-- nothing is tracked but the script, known to the object (or it is an object of the module) -/
def Only (H : Hp) : Prop := ∀ b, H b = none ∨ ∃ o xs, H b = some (.frz o (.lst xs))

/-- THE HEAD: the law's promise, at the heap behind the top. F, the promise of the law's def, may use that base is part of the heap (so K.In base, base.Ns mainGlobals mg stand in Mod) -/
theorem law_call {P : Program} {w : World} {K : PySem.W.Frag} {mg mb : Str → Option Value} {CX : CXT} {k : Nat} {fa a : Addr} {fd : FuncData} {x : Str} {sp : Sp} {s₁ : Shared} {vs : List Value} {ns : List Int}
    (KX : K.In s₁.heap) (hns : s₁.heap.Ns mainGlobals mg) (hb : s₁.heap.Ns builtinsNs mb) (hbb : ∀ x : Str, x ≠ "__name__" → mb x = bootBuiltins x) (hlim : s₁.heap.NoLimit) (hg : s₁.gens = #[])
    (ha : s₁.heap.get? a = some { cls := .type "list", data := .seq vs.toArray }) (hi : IntsAre vs ns) (hl : ns.length ≤ sizeLine) (hr : Room k callerA)
    (F : ∀ base : Heap, K.In base → base.Ns mainGlobals mg → FnOk P w K mg base CX k fa fd [x] sp) (hbind : ∀ (s : Shared) (u : Value), BindsTo s fd ⟨[u], []⟩ [(x, u)])
    (hsp : ∀ H : Hp, Only H → SqL K H a (ns.map V.int) → sp [.ref a] H (fun v _ => v = .bl true) fun _ _ _ => False)
    (hCX : ∀ H e s', CX [] H s₁ (fun _ _ _ => False) e s' → False) :
    codeAny (model P w) callerA (.call (.ref fa) ⟨[.ref a], []⟩) (fun r s' => r = .ok (.ret (.bool true)) ∧ OldK s₁.heap s'.heap ∧ s'.os = s₁.os ∧ AllBare s'.gens) s₁ := by
  have rv := vals_ints hi
  have lenV := hi.length
  -- from an abstract heap in which nothing but the script may be tracked
  have core : ∀ H : Hp, Only H → SqL K H a (ns.map V.int) → HOk P w H s₁.heap → (∀ b, H b ≠ none → b = a) → (H a ≠ none → K.lookup a = none) →
      codeAny (model P w) callerA (.call (.ref fa) ⟨[.ref a], []⟩) (fun r s' => r = .ok (.ret (.bool true)) ∧ OldK s₁.heap s'.heap ∧ s'.os = s₁.os ∧ AllBare s'.gens) s₁ := by
    intro H hO hS hok hA hK
    have base_of : ∀ {b : Addr} {o : Obj}, s₁.heap.get? b = some o → H b = none → (hidT s₁.heap H).get? b = some o := fun e n => hidT_get e n
    have noA : ∀ {b : Addr} {o : Obj} {es : Array DictEntry} {ep : Nat}, s₁.heap.get? b = some o → o.data = .dict es ep → H b = none := fun {b o es ep} e d => by
      cases q : H b with
      | none => rfl
      | some u =>
        have e' : b = a := hA b (by rw [q]; simp)
        subst e'
        rw [ha] at e; cases e
        have d' : Data.seq vs.toArray _ = Data.dict es ep := d
        cases d'
    have nsK : ∀ {b : Addr} {m : Str → Option Value}, s₁.heap.Ns b m → (hidT s₁.heap H).Ns b m := fun {b m} ⟨o, es, ep, e, d, r⟩ => ⟨o, es, ep, base_of e (noA e d), d, r⟩
    have hKb : K.In (hidT s₁.heap H) := fun b o e => base_of (KX b o e) (by
      cases q : H b with
      | none => rfl
      | some u =>
        have e' : b = a := hA b (by rw [q]; simp)
        subst e'
        rw [hK (by rw [q]; simp)] at e; cases e)
    have hM : Mod K mg (hidT s₁.heap H) := ⟨hKb, nsK hns, ⟨mb, nsK hb, hbb⟩, let ⟨mc, h1, h2⟩ := hlim; ⟨mc, nsK h1, h2⟩⟩
    have e0 : Env0 P w K mg (hidT s₁.heap H) callerA [] s₁ H := ⟨rfl, hM, fun b o e => of_hidT e, Nat.le_of_eq (hidT_size _ _), trivial, fun b hb => absurd (show b ∈ ([] : List Addr) from hb) (by simp), hok, .of_eq hg⟩
    refine codeAny_mono ((F _ hKb (nsK hns)).run callerA [] s₁ H ⟨[.ref a], []⟩ [.ref a] [.ref a] _ _ hr e0 (hbind s₁ (.ref a)) (.cons rfl .nil) (hsp H hO hS)) fun r s' h => ?_
    cases r with
    | error e => exact (hCX H e s' h).elim
    | ok fl =>
      cases fl with
      | next => exact False.elim h
      | brk => exact False.elim h
      | cont => exact False.elim h
      | ret u =>
        obtain ⟨v, H', os, bare, un, hok', r', q⟩ := h
        have q' : v = .bl true := q
        subst q'
        obtain rfl : u = Value.bool true := r'
        refine ⟨rfl, OldK.of_keep fun b o e => ?_, os, bare⟩
        cases q : H b with
        | none => exact un.keep b o e q (by intro z; exact absurd (show b ∈ ([] : List Addr) from z) (by simp)) (by simp)
        | some u =>
          rcases hO b with z | ⟨ob, xs, z⟩
          · rw [q] at z; cases z
          · have z2 := un.frzs b ob _ z
            obtain ⟨e1, _⟩ := hok b _ z
            obtain ⟨e2, _⟩ := hok' b _ z2
            rw [e] at e1; cases e1
            exact e2
  cases hk : K.lookup a with
  | some o =>
    -- the script is one of the module's own objects
    have e := KX a o hk
    rw [ha] at e
    cases e
    refine core (fun _ => none) (fun _ => .inl rfl) (.inr ⟨_, vs.toArray, _, hk, rfl, rfl, rfl, by rw [List.size_toArray, lenV]; exact hl, by simpa using rv⟩) (fun b u z => by have z' : (none : Option HO) = some u := z; cases z') (fun b z => absurd rfl z) fun z => absurd rfl z
  | none =>
    refine core (fun b => if b = a then some (.frz { cls := .type "list", data := .seq vs.toArray } (.lst (ns.map V.int))) else none) (fun b => ?_) (.inl (.inr ⟨{ cls := .type "list", data := .seq vs.toArray }, if_pos rfl⟩)) (fun b u z => ?_) (fun b z => ?_) fun _ => hk
    · by_cases hb : b = a
      · exact .inr ⟨_, _, if_pos hb⟩
      · exact .inl (if_neg hb)
    · by_cases hb : b = a
      · have z' := (if_pos hb).symm.trans z
        cases z'
        subst hb
        exact ⟨ha, by rw [List.length_map]; exact hl, vs, _, rv, ha⟩
      · have z' := (if_neg hb).symm.trans z
        cases z'
    · by_cases hb : b = a
      · exact hb
      · exact absurd (if_neg hb) z
end L2

namespace L2
open PySem PySem.Spec PyProof.Rows

abbrev KOf {K : PySem.W.Frag} {h : Heap} (_ : K.In h) : PySem.W.Frag := K

/-- the goal that k_head leaves (case hc), from the law's promise. F gives the function object fd (K's own) once, then the promise over every base -/
theorem walk_of {l : PySem.W.OpenLaw} {n k : Nat} {q : Program} {loose : List Str} {XP : (Str → Option Value) → Heap → Prop} {YP : World → Heap → Prop} {d : DefRec} {K : Params → PySem.W.Frag} {CX : World → CXT} {sp : World → Sp} {x : Str}
    (hn : l.most = some n) (hn2 : n ≤ sizeLine) (hdf : d.params.defaults = []) (hr : Room k callerA)
    (hY : ∀ (w : World) (h : Heap), YP w h → (K w.params).In h)
    (F : ∀ (w : World) (mg : Str → Option Value) (fa : Addr) (h : Heap), (K w.params).In h → h.Ns mainGlobals mg → mg d.name = some (.ref fa) →
      ∃ fd : FuncData, (∀ (s : Shared) (u : Value), BindsTo s fd ⟨[u], []⟩ [(x, u)]) ∧
        ∀ base : Heap, (K w.params).In base → base.Ns mainGlobals mg → FnOk l.prog w (K w.params) mg base (CX w) k fa fd [x] (sp w))
    (hsp : ∀ (w : World) (H : Hp) (a : Addr) (ns : List Int), ns.length ≤ n → Only H → SqL (K w.params) H a (ns.map V.int) → sp w [.ref a] H (fun v _ => v = .bl true) fun _ _ _ => False)
    (hCX : ∀ (w : World) (H : Hp) (s : Shared) (e : Value) (s' : Shared), CX w [] H s (fun _ _ _ => False) e s' → False) :
    PySem.W.WalkO q loose XP YP l.row.toRowW d [] (fun f vs => PySem.call f vs) := by
  refine Att.attach_call hn hdf fun w s₀ s₁ mg mb fa o pm cd doc a vs ns G Y ho hd hcd hmg hobj hints hlen hg => ?_
  have KX := hY w _ Y
  obtain ⟨fd, hb, hF⟩ := F w mg fa _ KX G.T.g hmg
  exact law_call KX G.T.g G.T.b G.T.builtins G.T.nolimit hg hobj hints (Nat.le_trans hlen hn2) hr hF hb (fun H hO hS => hsp w H a ns hlen hO hS) fun H e s' => hCX w H s₁ e s'
/-- the same where the promise hangs on the written part alone: (sp := My.sp_law), no hole under a binder -/
theorem walk_ofK {l : PySem.W.OpenLaw} {n k : Nat} {q : Program} {loose : List Str} {XP : (Str → Option Value) → Heap → Prop} {YP : World → Heap → Prop} {d : DefRec} {K : Params → PySem.W.Frag} {CX : CXT} {sp : PySem.W.Frag → Sp} {x : Str}
    (hn : l.most = some n) (hn2 : n ≤ sizeLine) (hdf : d.params.defaults = []) (hr : Room k callerA)
    (hY : ∀ (w : World) (h : Heap), YP w h → (K w.params).In h)
    (F : ∀ (w : World) (mg : Str → Option Value) (fa : Addr) (h : Heap), (K w.params).In h → h.Ns mainGlobals mg → mg d.name = some (.ref fa) →
      ∃ fd : FuncData, (∀ (s : Shared) (u : Value), BindsTo s fd ⟨[u], []⟩ [(x, u)]) ∧
        ∀ base : Heap, (K w.params).In base → base.Ns mainGlobals mg → FnOk l.prog w (K w.params) mg base CX k fa fd [x] (sp (K w.params)))
    (hsp : ∀ (K : PySem.W.Frag) (H : Hp) (a : Addr) (ns : List Int), ns.length ≤ n → Only H → SqL K H a (ns.map V.int) → sp K [.ref a] H (fun v _ => v = .bl true) fun _ _ _ => False)
    (hCX : ∀ (H : Hp) (s : Shared) (e : Value) (s' : Shared), CX [] H s (fun _ _ _ => False) e s' → False) :
    PySem.W.WalkO q loose XP YP l.row.toRowW d [] (fun f vs => PySem.call f vs) :=
  walk_of (K := K) (CX := fun _ => CX) (sp := fun w => sp (K w.params)) hn hn2 hdf hr hY F (fun w H a ns h1 h2 h3 => hsp (K w.params) H a ns h1 h2 h3) fun _ H s e s' => hCX H s e s'
end L2

/- THE LAST THEOREM (shape; LID, My.* are yours):
   My.Adr: a structure of the addresses that your layer names (classes, functions); My.Txt K t: a structure (Prop) of the equations over K;
   My.txt_mk : {K} {implicit addresses ..} (e1 : nsIn K mainGlobals "law" = some (some (.ref f))) (e2 : K.lookup f = some ⟨oc, od, .func (fnOf "law" "law" params body scope dV kV doc pm an cdv ct), sl⟩) (e3 : codeIn K cdv "law" = true) .. : ∃ t, My.Txt K t

set_option maxRecDepth 100000 in
set_option maxHeartbeats 0 in
theorem PySem.Challenge.cw_LID_holds : PySem.Challenge.rw_LID.Holds := by
  w_on; o_law; k_head; (case hw => w_witness2)
  k_fill
  refine L2.walk_of (l := PySem.Challenge.rw_LID) (n := 63) (k := 40) (x := "script") (CX := fun w => ..) (sp := fun _ => My.sp_law) rfl (by decide) rfl ⟨rfl, by decide, by decide⟩ (fun w h Y => PySem.W.kIn_of Y) ?F ?S ?C
  case F =>
    intro w mg fa h KX G hmg
    have T : ∃ t, My.Txt (L2.KOf KX) t := by
      dsimp only [L2.KOf]                          -- K must stand as «<heap const> w.params» for k_is
      refine' My.txt_mk ?e1 ?e2 ?e3 ..
      (case e1 => PySem.W.k_is)                    -- in the order: a name -> its address -> its object -> its parts
      (case e2 => PySem.W.k_is)
      ..
    obtain ⟨t, T⟩ := T
    have e0 := hmg.symm.trans (PySem.W.mg_of KX G T.law)
    cases e0                                       -- fa is the law's own address
    exact ⟨_, fun s u => .of_eq rfl, fun base kb nb => My.law_fn T kb nb⟩     -- if «.of_eq rfl» comes too early: refine' ⟨_, ?b, fun base kb nb => My.law_fn T kb nb⟩; exact fun s u => .of_eq rfl
  case S => exact fun w H a ns hl hO hS => ..
  case C => exact ..
(the tactic k_is has no namespace: write k_is) -/

/-! SHORT WORDS over the layer: a def of the text, its body, what a loop and a test want. -/
namespace L2
open PySem PySem.Spec PyProof.Rows

/-! ### the text by places -/
/-- the j-th statement of a class's body -/
def inClass (s : Stmt) (j : Nat) : Stmt := match s with
  | .ClassDef _ _ _ body _ _ _ _ _ _ _ => body.getD j (.Pass ⟨0, 0, 0, 0⟩)
  | _ => .Pass ⟨0, 0, 0, 0⟩
def defArgs (s : Stmt) : Arguments := match s with
  | .FunctionDef _ a _ _ _ _ _ _ _ _ => a
  | _ => { posonlyargs := [], args := [], vararg := none, kwonlyargs := [], kw_defaults := [], kwarg := none, defaults := [] }
def defBody (s : Stmt) : List Stmt := match s with
  | .FunctionDef _ _ b _ _ _ _ _ _ _ => b
  | _ => []
def defScope (s : Stmt) : Scope := match s with
  | .FunctionDef _ _ _ _ _ _ sc _ _ _ => sc
  | _ => { kind := .function, names := [], isGenerator := false, isCoroutine := false }

/-! ### no exception leaves a def -/
abbrev CX0 : CXT := fun _ _ _ _ _ _ => False
abbrev E0 : XK := fun _ _ _ => False
theorem pass0 {X : Cx} : Passes CX0 X E0 := fun _ _ _ _ _ _ _ h => h.elim

/-! ### a def (or method) of the text as it stands behind the top -/
structure Fun (K : PySem.W.Frag) (x qual : Str) (st : Stmt) (f : Addr) (fd : FuncData) : Prop where
  ex : ∃ (oc : Value) (od : Option Addr) (kV doc pm : Value) (an : Option Addr) (cdv ct : Value) (osl : Array (Option Value)),
    fd = PySem.W.fnOf x qual (defArgs st) (defBody st) (defScope st) .none kV doc pm an cdv ct ∧ K.lookup f = some ⟨oc, od, .func fd, osl⟩ ∧ PySem.W.codeIn K cdv qual = true
  kp : PySem.W.keepIn K (.ref f) = true
section
variable {P : Program} {w : World} {K : PySem.W.Frag} {mg : Str → Option Value} {base : Heap}
/-- THE RULE for a def: its body as a term of rules, and the reading of that term -/
theorem Fun.ok {x qual : Str} {st : Stmt} {f : Addr} {fd : FuncData} {N ps : List Str} {k : Nat} {sp : Sp} (F : Fun K x qual st f fd) (S : FnScope N ps (defScope st)) (len : ∀ vs H Q E, sp vs H Q E → vs.length = ps.length)
    (hbody : ∀ (cdv : Value) (A : Around) (outer : List Env) (s : Shared) (H : Hp) (vs : List V) (Q : VK) (E : XK), Room k (A.deeper (envOfC qual (defScope st) s.heap.objs.size f cdv)) → sp vs H Q E →
      ∃ t, PSs (cxOf CX0 P w K mg base N qual (defScope st) f cdv A outer s H E).nox (defBody st) t ∧ t { nx := fun _ H' => Q .non H', rt := Q } (start N vs) H) : FnOk P w K mg base CX0 (k + 1) f fd ps sp := by
  obtain ⟨oc, od, kV, doc, pm, an, cdv, ct, osl, rfl, lk, hcd⟩ := F.ex
  refine fn_of lk hcd S len fun A outer s H vs Q E hr hsp => ?_
  obtain ⟨t, h, q⟩ := hbody cdv A outer s H vs Q E hr hsp
  exact ⟨t, h.nox, q⟩
/-- how its arguments bind (no defaults): h is «fun _ _ _ _ _ _ us hl => match us, hl with | [_, _], _ => rfl», one _ a parameter -/
theorem Fun.binds {x qual : Str} {st : Stmt} {f : Addr} {fd : FuncData} {ps : List Str} (F : Fun K x qual st f fd)
    (h : ∀ (kV doc pm : Value) (an : Option Addr) (cdv ct : Value) (us : List Value), us.length = ps.length → bindArgs (PySem.W.fnOf x qual (defArgs st) (defBody st) (defScope st) .none kV doc pm an cdv ct) ⟨us, []⟩ = pure (ps.zip us)) : Binds K fd ps [] := by
  obtain ⟨oc, od, kV, doc, pm, an, cdv, ct, osl, rfl, lk, hcd⟩ := F.ex
  exact .all (h kV doc pm an cdv ct)
theorem fun_mk {x qual : Str} {st : Stmt} {f : Addr} {oc : Value} {od an : Option Addr} {osl : Array (Option Value)} {kV doc pm cdv ct : Value} (l : K.lookup f = some ⟨oc, od, .func (PySem.W.fnOf x qual (defArgs st) (defBody st) (defScope st) .none kV doc pm an cdv ct), osl⟩)
    (c : PySem.W.codeIn K cdv qual = true) (k : PySem.W.keepIn K (.ref f) = true) : Fun K x qual st f (PySem.W.fnOf x qual (defArgs st) (defBody st) (defScope st) .none kV doc pm an cdv ct) := ⟨⟨oc, od, kV, doc, pm, an, cdv, ct, osl, rfl, l, c⟩, k⟩
end
theorem small1000 {n : Nat} (h : n ≤ 1000) : n < sizeLine := Nat.lt_of_le_of_lt h (by decide)

/-! ### expressions in short: the name that stands in the i-th slot -/
section
variable {X : Cx}
theorem pv (i : Nat) {x : Str} {pos : Pos} (hN : X.N[i]? = some x := by rfl) (hv : Vis X.env.scope x := by first | exact Or.inl rfl | exact Or.inr (Or.inl rfl) | exact Or.inr (Or.inr rfl)) (hd : (x == ("__debug__" : Str)) = false := by decide)
    (hcd : (x == ("__classdict__" : Str)) = false := by decide) : PE X (.Name x pos) (tVar i) := pe_var hN hv hd hcd
end

/-! ### tests -/
theorem iteF {A B : Prop} (h : B) : if false = true then A else B := by
  rw [if_neg Bool.false_ne_true]
  exact h
theorem iteT {A B : Prop} (h : A) : if true = true then A else B := by
  rw [if_pos rfl]
  exact h
theorem ite2 {c A B : Prop} [Decidable c] (h1 : c → A) (h2 : ¬ c → B) : if c then A else B := by
  by_cases h : c
  · rw [if_pos h]
    exact h1 h
  · rw [if_neg h]
    exact h2 h

/-! ### heaps -/
/-- all that was tracked is as it was -/
def Same (H H' : Hp) : Prop := ∀ b o, H b = some o → H' b = some o
theorem Same.refl (H : Hp) : Same H H := fun _ _ h => h
theorem Same.trans {H H1 H2 : Hp} (a : Same H H1) (b : Same H1 H2) : Same H H2 := fun c o h => b c o (a c o h)
theorem Same.free {H H' : Hp} (e : Same H H') {l : Addr} (h : H' l = Option.none) : H l = Option.none := by
  cases q : H l with
  | none => rfl
  | some o =>
    rw [e l o q] at h
    cases h
theorem Same.seq {K : PySem.W.Frag} {H H' : Hp} {a : Addr} {xs : List V} (e : Same H H') (h : SqL K H a xs) : SqL K H' a xs := by
  rcases h with (h | ⟨o, h⟩) | h
  · exact .inl (.inl (e _ _ h))
  · exact .inl (.inr ⟨o, e _ _ h⟩)
  · exact .inr h

end L2

set_option Elab.async false
set_option maxRecDepth 100000
namespace L2
open PySem PySem.Spec PyProof.Rows
def closOf (cells : List (Str × Addr)) : List (Str × NameKind) → List (Str × Addr) → List (Str × Addr)
  | [], acc => acc
  | (n, k) :: r, acc => closOf cells r (if k == .free then (n, (cells.lookup n).getD 0) :: acc else acc)
theorem closureFor_of {scope : Scope} {env : Env} (h : ∀ x ∈ scope.names, x.2 = .free → ∃ c, env.cells.lookup x.1 = some c) : closureFor scope env = pure (closOf env.cells scope.names []) := by
  unfold closureFor
  generalize hn : scope.names = names at h ⊢
  clear hn
  generalize ([] : List (Str × Addr)) = acc
  induction names generalizing acc with
  | nil => simp [closOf]
  | cons x r ih =>
    obtain ⟨n, k⟩ := x
    have ih' := fun a => ih (fun x hx => h x (List.mem_cons_of_mem _ hx)) a
    simp only [List.forIn_cons, bind_pure] at ih' ⊢
    by_cases hk : k = .free
    · obtain ⟨c, hc⟩ := h (n, k) List.mem_cons_self hk
      subst hk
      have hcl : cellOf env n = pure c := by simp only [cellOf, hc]
      simp only [beq_self_eq_true, if_true, hcl, hc, pure_bind, closOf, Option.getD_some]
      simpa using ih' _
    · have hb : (k == NameKind.free) = false := by simpa using hk
      simp only [hb, Bool.false_eq_true, if_false, pure_bind, closOf]
      simpa using ih' _
theorem closOf_look {cells : List (Str × Addr)} {y : Str} {c : Addr} : ∀ {names : List (Str × NameKind)} {acc : List (Str × Addr)}, (∀ x ∈ names, x.2 = .free → ∃ c, cells.lookup x.1 = some c) → (acc.lookup y = some c → cells.lookup y = some c) →
    (closOf cells names acc).lookup y = some c → cells.lookup y = some c
  | [], _, _, ha, e => ha e
  | (n, k) :: r, acc, h, ha, e => by
    unfold closOf at e
    refine closOf_look (names := r) (fun x hx => h x (List.mem_cons_of_mem _ hx)) (fun e' => ?_) e
    by_cases hk : k = .free
    · obtain ⟨d, hd⟩ := h (n, k) List.mem_cons_self hk
      subst hk
      simp only [beq_self_eq_true, if_true, hd, Option.getD_some, List.lookup_cons] at e'
      cases q : y == n with
      | true =>
        rw [q] at e'
        have : y = n := by simpa using q
        subst this
        exact hd.trans e'
      | false => rw [q] at e'; exact ha e'
    · have hb : (k == NameKind.free) = false := by simpa using hk
      simp only [hb, Bool.false_eq_true, if_false] at e'
      exact ha e'
theorem closOf_has {cells : List (Str × Addr)} {y : Str} : ∀ {names : List (Str × NameKind)} {acc : List (Str × Addr)}, ((y, NameKind.free) ∈ names ∨ ∃ c, acc.lookup y = some c) → ∃ c, (closOf cells names acc).lookup y = some c
  | [], _, h => by simpa [closOf] using h
  | (n, k) :: r, acc, h => by
    unfold closOf
    refine closOf_has (names := r) ?_
    rcases h with h | ⟨c, h⟩
    · rcases List.mem_cons.mp h with e | e
      · cases e
        right
        simp
      · exact .inl e
    · right
      by_cases hk : (k == NameKind.free) = true
      · rw [if_pos hk, List.lookup_cons]
        cases y == n
        · exact ⟨c, h⟩
        · exact ⟨_, rfl⟩
      · rw [if_neg hk]
        exact ⟨c, h⟩
end L2

set_option Elab.async false
set_option maxRecDepth 100000
namespace L2
open PySem PySem.Spec PyProof.Rows
/-! ### list comprehensions (one clause, at most one test) -/
def PTs (X : Cx) (ifs : List Expr) (t : TT) : Prop :=
  ∀ (pins : List (Addr × Obj)) (s : Shared) (σ : St) (H : Hp) (Q : Bool → Hp → Prop), Inv X pins σ H s → t σ H Q →
    wpAny (model X.prog X.w) X.A (forIn ifs true fun c r => if r = true then do let ok ← isTrue c X.env (eval c X.env); pure (ForInStep.yield ok) else pure (ForInStep.yield r)) (TP X pins σ Q) X.xe s
def tTrue : TT := fun _ H Q => Q true H
theorem pts_nil {X : Cx} : PTs X [] tTrue := fun _ _ _ H _ I h => wpAny_tests_nil ⟨H, I, h⟩
theorem pts_one {X : Cx} {c : Expr} {t : TT} (h : PT X c t) : PTs X [c] t := fun pins s σ H Q I hw => wpAny_tests_one (h pins s σ H Q I hw)

/-- the context of a comprehension's block -/
def Cx.block (X : Cx) (scope : Scope) (N : List Str) (s : Shared) (H : Hp) (fp : List Addr) : Cx where
  prog := X.prog
  w := X.w
  K := X.K
  mg := X.mg
  base := X.base
  A := X.A
  N := N
  s₀ := s
  H₀ := H
  env := compEnvC scope (closOf X.env.cells scope.names []) s.heap.objs.size X.env
  outer := X.stack
  stack := X.stack
  ex := fp
  fn := fun _ => false
  calm := X.calm
  pn := []
  xe := fun _ _ => False

def isCl : Option NameKind → Bool
  | some .cell => true
  | some .free => true
  | _ => false
theorem isCl_iff {k : Option NameKind} (h : isCl k = true) : k = some .cell ∨ k = some .free := by
  unfold isCl at h
  split at h
  · exact .inl rfl
  · exact .inr rfl
  · cases h
/-- what a comprehension's scope must be, over the context -/
structure CompOk (X : Cx) (scope : Scope) (N : List Str) (cap : List (Option Nat)) : Prop where
  kind : scope.kind = .function
  nocell : (scope.names.all fun y => !(y.2 == .cell)) = true
  loc : (scope.names.all fun y => !(y.2 == .local) || (scope.names.lookup y.1 == some .local)) = true
  fre : (scope.names.all fun y => !(y.2 == .free) || isCl (X.env.kindOf y.1)) = true
  len : cap.length = N.length
  cap : ((cap.zip N).all fun p => match p.1 with | none => true | some j => (X.N[j]? == some p.2) && isCl (X.env.kindOf p.2) && isCl ((relabel scope X.env).names.lookup p.2)) = true
/-- the names' values at the block's entry -/
def capS (cap : List (Option Nat)) (σ : St) : St := cap.map fun o => match o with | none => none | some j => (σ[j]?).join

section
variable {X : Cx} {pins : List (Addr × Obj)} {σ : St} {H : Hp} {s : Shared} {fp : List Addr} {scope : Scope} {N : List Str} {cap : List (Option Nat)}
theorem CompOk.freeH (c : CompOk X scope N cap) (ok : X.Ok) : ∀ x ∈ scope.names, x.2 = .free → ∃ a, X.env.cells.lookup x.1 = some a := fun x hx hf => by
  have := List.all_eq_true.mp c.fre x hx
  rw [hf] at this
  simp only [beq_self_eq_true, Bool.not_true, Bool.false_or] at this
  exact ok.has x.1 (isCl_iff this)
theorem relabel_look {scope : Scope} {env : Env} {y : Str} (h : (relabel scope env).names.lookup y = some .cell ∨ (relabel scope env).names.lookup y = some .free) (nc : ∀ z ∈ scope.names, z.2 ≠ .cell) : (y, NameKind.free) ∈ scope.names := by
  unfold relabel at h
  dsimp only at h
  generalize scope.names = names at h nc
  induction names with
  | nil => simp at h
  | cons z r ih =>
    obtain ⟨n, k⟩ := z
    have nc' : ∀ z ∈ r, z.2 ≠ .cell := fun z hz => nc z (List.mem_cons_of_mem _ hz)
    rw [List.map_cons, List.lookup_cons] at h
    have nck := nc (n, k) List.mem_cons_self
    dsimp only at h nck
    by_cases hc : (k == NameKind.free && env.scope.kind == .function && env.kindOf n == some .cell) = true
    · rw [if_pos hc] at h
      dsimp only at h
      have hk : k = .free := by
        simp only [Bool.and_eq_true, beq_iff_eq] at hc
        exact hc.1.1
      cases q : y == n with
      | true => rw [show y = n from by simpa using q, hk]; exact List.mem_cons_self
      | false => rw [q] at h; exact List.mem_cons_of_mem _ (ih h nc')
    · rw [if_neg hc] at h
      dsimp only at h
      cases q : y == n with
      | true =>
        rw [q] at h
        rcases h with h | h
        · cases h; exact absurd rfl nck
        · cases h; rw [show y = n from by simpa using q]; exact List.mem_cons_self
      | false => rw [q] at h; exact List.mem_cons_of_mem _ (ih h nc')
theorem CompOk.nc (c : CompOk X scope N cap) : ∀ z ∈ scope.names, z.2 ≠ .cell := fun z hz e => by
  have := List.all_eq_true.mp c.nocell z hz
  rw [e] at this
  exact absurd this (by decide)
theorem CompOk.lc (c : CompOk X scope N cap) : ∀ x ∈ scope.names, x.2 = .local → scope.names.lookup x.1 = some .local := fun x hx e => by
  have := List.all_eq_true.mp c.loc x hx
  rw [e] at this
  simpa using this
theorem block_ok (c : CompOk X scope N cap) (I : Inv X pins σ H s) (hf : ∀ b ∈ fp, FpOk X pins H b) (hlt : ∀ b ∈ fp, b < s.heap.objs.size) : (X.block scope N s H fp).Ok := by
  have lk : ∀ {y : Str} {a : Addr}, (closOf X.env.cells scope.names []).lookup y = some a → X.env.cells.lookup y = some a := fun e => closOf_look (c.freeH I.ok) (fun z => by simp at z) e
  refine ⟨I.ok.mod, c.kind, I.ok.glob, I.ok.blt, Nat.le_refl _, fun x y a h1 h2 => I.ok.inj x y a (lk h1) (lk h2), fun x hx => closOf_has (.inl (relabel_look hx c.nc)), fun x a h => absurd h (by simp [Cx.block]), I.ok.hd, I.ok.frames, .inl rfl, fun b hb => ⟨?_, fun x a h => (hf b hb).2.2.2.2.1 x a (lk h)⟩, I.bs, Nat.le_trans I.ok.bsz I.sz, fun b o e hb => ?_, fun b hb z => ?_, I.stack, I.stkFree⟩
  · exact Nat.ne_of_lt (hlt b hb)
  · rcases (hf b hb).2.2.2.1 with z | z
    · exact I.ok.noex b o e z
    · exact absurd (Nat.lt_of_lt_of_le (Heap.lt_size (I.ok.bs b o e).1) z) (Nat.lt_irrefl _)
  · rcases List.mem_cons.mp (I.stkSub b z) with e | e
    · exact (hf b hb).2.1 e
    · exact (hf b hb).2.2.1 e
theorem capS_get {i : Nat} {v : V} (h : (capS cap σ)[i]? = some (some v)) : ∃ j, cap[i]? = some (some j) ∧ σ[j]? = some (some v) := by
  unfold capS at h
  rw [List.getElem?_map] at h
  cases q : cap[i]? with
  | none => rw [q] at h; cases h
  | some o =>
    rw [q] at h
    cases o with
    | none => cases h
    | some j =>
      refine ⟨j, rfl, ?_⟩
      have h' : (σ[j]?).join = some v := Option.some.inj h
      cases q2 : σ[j]? with
      | none => rw [q2] at h'; cases h'
      | some o =>
        rw [q2] at h'
        have : o = some v := h'
        rw [this]
theorem block_inv (c : CompOk X scope N cap) (I : Inv X pins σ H s) (hf : ∀ b ∈ fp, FpOk X pins H b) (hlt : ∀ b ∈ fp, b < s.heap.objs.size) {h1 : Heap} {t1 : Nat} (hns : h1.Ns s.heap.objs.size (fun x => ([] : List (Str × Value)).reverse.lookup x))
    (hsb : Heap.SameBut s.heap.objs.size (s.heap.push { cls := .type (if (some X.env : Option Env).isSome then "dict" else "frame"), data := .dict #[] }) h1) : Inv (X.block scope N s H fp) [] (capS cap σ) H { s with heap := h1, toks := t1 } := by
  have lk : ∀ {y : Str} {a : Addr}, (closOf X.env.cells scope.names []).lookup y = some a → X.env.cells.lookup y = some a := fun e => closOf_look (c.freeH I.ok) (fun z => by simp at z) e
  have keep : ∀ b o, s.heap.get? b = some o → h1.get? b = some o := fun b o e => (hsb.2 b (Nat.ne_of_lt (Heap.lt_size e))).trans (Heap.get?_push_of_some _ e)
  have cellK : ∀ {a : Addr} {v : Option Value}, s.heap.IsCell a v → h1.IsCell a v := fun ⟨o, e, d⟩ => ⟨o, keep _ _ e, d⟩
  refine ⟨block_ok c I hf hlt, rfl, I.bare, Un.kept keep, ⟨_, hns, fun i x v h1 h2 h3 => ?_⟩, fun x a e => ?_, I.hok.fresh (Nat.le_refl _), fun x a e => I.freeC x a (lk e), fun p hp => absurd (show p ∈ ([] : List (Addr × Obj)) from hp) (by simp), I.hok.kept keep, ?_⟩
  · obtain ⟨j, hc, hs⟩ := capS_get h2
    have hN : N[i]? = some x := h1
    have hz : (cap.zip N)[i]? = some (some j, x) := by rw [List.getElem?_zip_eq_some]; exact ⟨hc, hN⟩
    have := List.all_eq_true.mp c.cap _ (List.mem_of_getElem? hz)
    simp only [Bool.and_eq_true, beq_iff_eq] at this
    obtain ⟨⟨e1, e2⟩, e3⟩ := this
    obtain ⟨m, hn, hl⟩ := I.loc
    have hk := isCl_iff e2
    obtain ⟨u, r, l⟩ := hl j x v e1 hs (by rcases hk with z | z; exact .inr (.inl z); exact .inr (.inr z))
    refine ⟨u, r, ?_⟩
    rcases l with ⟨l, _⟩ | ⟨_, a, ea, ca⟩
    · rw [l] at hk; rcases hk with z | z <;> cases z
    · have hk' := isCl_iff e3
      obtain ⟨a', ha'⟩ := closOf_has (cells := X.env.cells) (acc := []) (.inl (relabel_look hk' c.nc))
      have : a' = a := Option.some.inj ((lk ha').symm.trans ea)
      subst this
      exact .inr ⟨hk', a', ha', cellK ca⟩
  · obtain ⟨v, hv⟩ := I.cell x a (lk e)
    exact ⟨v, cellK hv⟩
  · unfold capS
    rw [List.length_map]
    exact c.len
end
end L2

set_option Elab.async false
set_option maxRecDepth 100000
namespace L2
open PySem PySem.Spec PyProof.Rows
theorem compLoop_go {prog : Program} {w : World} {A : Around} {R : Result → Shared → Prop} {s : Shared} {elt target iter : Expr} {ifs : List Expr} {scope : Scope} {pos : Pos} {it acc : Value} {env : Env} (J : Nat → Shared → Prop)
    (turn : ∀ n s, J n s → wpAny (model prog w) A (pyNext it) (fun r s₁ => match r with
      | none => R (.ok .next) s₁
      | some v => wpAny (model prog w) A (letOwnedTupleGo target it v) (fun _ s₀ => wpAny (model prog w) A (assign target env v) (fun _ s₂ =>
          wpAny (model prog w) A (forIn ifs true fun c r => if r = true then do let ok ← isTrue c env (eval c env); pure (ForInStep.yield ok) else pure (ForInStep.yield r)) (fun ok s₃ =>
            if ok = true then wpAny (model prog w) A (eval elt env) (fun x s₄ =>
              wpAny (model prog w) A (call (.builtin "list.append") [acc, x]) (fun _ s₅ => ∃ m, m < n ∧ J m s₅) (fun _ _ => False) s₄) (fun _ _ => False) s₃
            else ∃ m, m < n ∧ J m s₃) (fun _ _ => False) s₂) (fun _ _ => False) s₀) (fun _ _ => False) s₁) (fun _ _ => False) s)
    (n : Nat) (h : J n s) :
    codeAny (model prog w) A (.compLoop (.ListComp elt [⟨target, iter, ifs, 0⟩] scope pos) 0 it acc env) R s := by
  refine codeAny_loop rfl J (fun n s hI => ?_) n h
  show wpAny _ A ((compTurn (.ListComp elt [⟨target, iter, ifs, 0⟩] scope pos) 0 it acc env).onRaise (fun x => do noteFrame x env; theTreesLotGoes x)) _ _ s
  refine wpAny_noted ?_
  rw [compTurn_list]
  refine wpAny_bind (wpAny_standAt (wpAny_bind (wpAny_mono (turn n s hI) (fun r s₁ h₁ => ?_) fun _ _ h' => h'.elim)))
  cases r with
  | none => exact wpAny_pure h₁
  | some v =>
    refine wpAny_bind (wpAny_mono h₁ (fun _ s₀ h₀ => ?_) fun _ _ h' => h'.elim)
    refine wpAny_bind (wpAny_mono h₀ (fun _ s₂ h₂ => wpAny_bind (wpAny_mono h₂ (fun ok s₃ h₃ => ?_) fun _ _ h' => h'.elim)) fun _ _ h' => h'.elim)
    cases ok with
    | false => exact wpAny_pure ⟨rfl, h₃⟩
    | true =>
      exact wpAny_bind (wpAny_bind (wpAny_mono h₃ (fun x s₄ h₄ => wpAny_bind (wpAny_mono h₄ (fun _ s₅ h₅ => wpAny_pure (wpAny_pure ⟨rfl, h₅⟩)) fun _ _ h' => h'.elim)) fun _ _ h' => h'.elim))

/-- the reading of a comprehension: over each fresh place l for the list, a number of turns n and a word Pv (turn, items so far, the block's names, heap) -/
def tComp (wi : TI) (g : TG) (tt : TT) (te : TE) (cap : List (Option Nat)) : TE := fun σ H Q => wi σ H fun J H1 => ∀ l, H1 l = none →
  ∃ (n : Nat) (Pv : Nat → List V → St → Hp → Prop), Pv 0 [] (capS cap σ) (upd H1 l (.lst [])) ∧
    (∀ i ys σ' H', i < n → Pv i ys σ' H' → J.go i H' ∧ ∀ x H2, J.yld i H' x H2 → g x σ' H2 fun σ3 H3 => tt σ3 H3 fun b H4 =>
      if b = true then te σ3 H4 fun y H5 => H5 l = some (.lst ys) ∧ ys.length < sizeLine ∧ Pv (i + 1) (ys ++ [y]) σ3 (upd H5 l (.lst (ys ++ [y]))) else Pv (i + 1) ys σ3 H4) ∧
    ∀ ys σ' H', Pv n ys σ' H' → J.stop n H' ∧ Q (.ref l) H'

section
variable {X : Cx} {elt tg iter : Expr} {ifs : List Expr} {scope : Scope} {pos : Pos} {N : List Str} {cap : List (Option Nat)} {wi : TI} {g : TG} {tt : TT} {te : TE}
/-- the whole of it, up to what is done with the list: U is what is wanted where the block has ended, ahead of its variables' going -/
theorem comp_run {U : Value → Addr → Shared → Prop} (hc : X.calm = true) (c : CompOk X scope N cap) (hi : PI X tg iter wi) (hg : ∀ s H fp, PG (X.block scope N s H fp) tg g) (ht : ∀ s H fp, PTs (X.block scope N s H fp) ifs tt)
    (he : ∀ s H fp, PE (X.block scope N s H fp) elt te)
    {pins : List (Addr × Obj)} {s : Shared} {σ : St} {H : Hp} {Q : VK} (I : Inv X pins σ H s) (h : tComp wi g tt te cap σ H Q)
    (hU : ∀ (l C : Addr) (H' : Hp) (s' : Shared), Inv X pins σ H' s' → (∃ m, s'.heap.Ns C m) → FpOk X pins H' C → Q (.ref l) H' → U (.ref l) C s')
    {RR : Value → Addr → Result → Shared → Prop} (hRR : ∀ a C s', U a C s' → RR a C (.ok .next) s') :
    wpAny (model X.prog X.w) X.A (eval iter X.env) (fun x s₁ => wpAny (model X.prog X.w) X.A (pyIter x) (fun it s₂ => wpAny (model X.prog X.w) X.A (newList []) (fun acc s₃ =>
      wpAny (model X.prog X.w) X.A (newFunctionEnv scope X.env.globals (closOf X.env.cells scope.names []) [] X.env.qual none .none (some X.env)) (fun cenv s₄ =>
        codeAny (model X.prog X.w) X.A (.compStart (.ListComp elt [⟨tg, iter, ifs, 0⟩] scope pos) 0 it acc { cenv with scope := relabel scope X.env }) (RR acc cenv.locals) s₄) X.xe s₃) X.xe s₂) X.xe s₁) X.xe s := by
  refine thn (hi pins s σ H _ I h) fun v s1 h1 => thn h1 fun itv s2 h2 => ?_
  obtain ⟨it, fp, tn, J, H2, e, I2, T, st2, f2, hq⟩ := h2
  subst e
  have hl : H2 s2.heap.objs.size = none := I2.hok.fresh (Nat.le_refl _)
  obtain ⟨n, Pv, p0, step, fin⟩ := hq _ hl
  refine wpAny_newObj_type ?_ (by show 0 ≤ sizeLine; exact Nat.zero_le _)
  have I3 : Inv X pins σ (upd H2 s2.heap.objs.size (.lst [])) { s2 with heap := s2.heap.push { cls := .type "list", data := .seq ([] : List Value).toArray } } :=
    I2.laid (t' := s2.toks) (fun b u e => Heap.get?_push_of_some _ e) (Nat.le_refl _) ⟨Nat.zero_le _, [], _, .nil, Heap.get?_push_size _ rfl⟩
  generalize hs3 : ({ s2 with heap := s2.heap.push { cls := .type "list", data := .seq ([] : List Value).toArray } } : Shared) = s3 at I3 ⊢
  have k23 : ∀ b o, s2.heap.get? b = some o → s3.heap.get? b = some o := fun b o e => by rw [← hs3]; exact Heap.get?_push_of_some _ e
  have fplt2 : ∀ b ∈ fp, b < s2.heap.objs.size := fun b hb => let ⟨o, e, _⟩ := T.obj _ _ st2 b hb; Heap.lt_size e
  have sz23 : s2.heap.objs.size ≤ s3.heap.objs.size := by rw [← hs3]; show _ ≤ (s2.heap.push _).objs.size; rw [Heap.size_push]; exact Nat.le_succ _
  have fplt : ∀ b ∈ fp, b < s3.heap.objs.size := fun b hb => Nat.lt_of_lt_of_le (fplt2 b hb) sz23
  have f3 : ∀ b ∈ fp, FpOk X pins (upd H2 s2.heap.objs.size (.lst [])) b := fun b hb => ⟨by rw [upd_ne (Nat.ne_of_lt (fplt2 b hb))]; exact (f2 b hb).1, (f2 b hb).2⟩
  have st3 : tn 0 s3.heap := T.keep _ _ _ st2 fun b hb o e => k23 b o e
  refine wpAny_newFunctionEnv c.nc (by intro y hy; simp at hy) (fun h4 hns hsb => ?_) c.kind
  have I4 := block_inv (t1 := s3.toks + ([] : List (Str × Value)).length) c I3 f3 fplt hns hsb
  have st4 : tn 0 h4 := T.keep _ _ _ st3 fun b hb o e => (hsb.2 b (Nat.ne_of_lt (fplt b hb))).trans (Heap.get?_push_of_some _ e)
  generalize hY : X.block scope N s3 (upd H2 s2.heap.objs.size (.lst [])) fp = Y at I4
  have yP : Y.prog = X.prog := by rw [← hY]; rfl
  have yw : Y.w = X.w := by rw [← hY]; rfl
  have yK : Y.K = X.K := by rw [← hY]; rfl
  have yA : Y.A = X.A := by rw [← hY]; rfl
  have yx : Y.xe = fun _ _ => False := by rw [← hY]; rfl
  have yc : Y.calm = true := by rw [← hY]; exact hc
  have yex : Y.ex = fp := by rw [← hY]; rfl
  have yfs : Y.fs = frs X.stack := by rw [← hY]; rfl
  have yH : Y.H₀ = upd H2 s2.heap.objs.size (.lst []) := by rw [← hY]; rfl
  have ys : Y.s₀ = s3 := by rw [← hY]; rfl
  have yC : Y.env.locals = s3.heap.objs.size := by rw [← hY]; rfl
  have yenv : compEnvC scope (closOf X.env.cells scope.names []) s3.heap.objs.size X.env = Y.env := by rw [← hY]; rfl
  have yg := hg s3 (upd H2 s2.heap.objs.size (.lst [])) fp
  have yt := ht s3 (upd H2 s2.heap.objs.size (.lst [])) fp
  have ye := he s3 (upd H2 s2.heap.objs.size (.lst [])) fp
  have ypn : Y.pn = [] := by rw [← hY]; rfl
  have ycl : Y.env.cells = closOf X.env.cells scope.names [] := by rw [← hY]; rfl
  rw [hY] at yg yt ye
  have lk : ∀ {y : Str} {a : Addr}, Y.env.cells.lookup y = some a → X.env.cells.lookup y = some a := fun e => by rw [ycl] at e; exact closOf_look (c.freeH I.ok) (fun z => by simp at z) e
  have stat : ∀ {H' : Hp}, (∀ b ∈ fp, H' b = none) → ∀ b ∈ fp, FpOk Y [] H' b := fun hn b hb => by
    refine ⟨hn b hb, by rw [yC]; exact Nat.ne_of_lt (fplt b hb), ?_, .inl (by rw [yex]; exact hb), fun x a e => (f2 b hb).2.2.2.2.1 x a (lk e), fun p hp => ?_⟩
    · rw [yfs]
      intro z
      rcases List.mem_cons.mp (I2.stkSub b z) with e | e
      · exact (f2 b hb).2.1 e
      · exact (f2 b hb).2.2.1 e
    · rw [ypn] at hp
      exact absurd hp (by simp)
  -- the end
  have done : ∀ {σ' : St} {H' : Hp} {s' : Shared}, Inv Y [] σ' H' s' → Q (.ref s2.heap.objs.size) H' → U (.ref s2.heap.objs.size) s3.heap.objs.size s' := fun {σ' H' s'} J' q => by
    have un := J'.base
    rw [yfs, yex, yH, ys] at un
    have J3 := I3.call' (s' := s') (ch := fp) (by rw [J'.os, ys]) un (by have := J'.hok; rw [yP, yw] at this; exact this) J'.bare fun b hb => ⟨(f3 b hb).2.2.2.1, (f3 b hb).2.1, (f3 b hb).2.2.2.2.1, (f3 b hb).2.2.2.2.2⟩
    have hCn : H' s3.heap.objs.size = none := by have := J'.free; rw [yC] at this; exact this
    have hne : s3.heap.objs.size ≠ X.env.locals := Nat.ne_of_gt I3.lt
    have hcl : ∀ x a, X.env.cells.lookup x = some a → a ≠ s3.heap.objs.size := fun x a e => let ⟨_, o, ho, _⟩ := I3.cell x a e; Nat.ne_of_lt (Heap.lt_size ho)
    have hpn : ∀ p ∈ X.pn ++ pins, p.1 ≠ s3.heap.objs.size := fun p hp => Nat.ne_of_lt (Heap.lt_size (I3.pin p hp).1)
    obtain ⟨m, hn, _⟩ := J'.loc
    rw [yC] at hn
    exact hU _ _ H' s' J3 ⟨m, hn⟩ ⟨hCn, hne, I3.nofs (Nat.le_refl _), .inr I3.sz, hcl, hpn⟩ q
  have loop : ∀ s5 : Shared, s5 = { s3 with heap := h4, toks := s3.toks + ([] : List (Str × Value)).length } →
      codeAny (model X.prog X.w) X.A (.compLoop (.ListComp elt [⟨tg, iter, ifs, 0⟩] scope pos) 0 (.ref it) (.ref s2.heap.objs.size) Y.env) (RR (.ref s2.heap.objs.size) s3.heap.objs.size) s5 := by
    rintro s5 rfl
    refine compLoop_go (fun k s' => ∃ i ys σ' H', Inv Y [] σ' H' s' ∧ tn i s'.heap ∧ (∀ b ∈ fp, H' b = none) ∧ i ≤ n ∧ k = n - i ∧ Pv i ys σ' H') ?_ n ⟨0, [], _, _, I4, st4, fun b hb => (f3 b hb).1, Nat.zero_le _, rfl, p0⟩
    rintro k s6 ⟨i, zs, σ6, H6, I6, st6, fr6, hin, rfl, pv6⟩
    by_cases hlt : i < n
    · obtain ⟨go, stp⟩ := step i zs σ6 H6 hlt pv6
      have q := T.item Y yP yw yK yc i [] s6 σ6 H6 (fun _ _ => False) I6 (stat fr6) st6 go
      rw [yA] at q
      refine thn q fun r s7 ⟨u, hr, h7⟩ => ?_
      subst hr
      refine thn h7 fun _ s8 ⟨x, H8, I8, r8, y8, st8, fr8⟩ => ?_
      have I8' := I8.pinned (stat fr8) (T.obj _ _ st8)
      have q := yg _ s8 σ6 H8 x u _ I8' r8 (stp x H8 y8)
      rw [yP, yw, yA, yx] at q
      refine thn q fun _ s9 ⟨σ9, H9, I9, q9⟩ => ?_
      have q := yt _ s9 σ9 H9 _ I9 q9
      rw [yP, yw, yA, yx] at q
      refine thn q fun b s10 ⟨H10, I10, q10⟩ => ?_
      have again : ∀ {ws : List V} {σ' : St} {H' : Hp} {s' : Shared}, Inv Y ([] ++ pinsAt fp s8.heap) σ' H' s' → Pv (i + 1) ws σ' H' → ∃ m, m < n - i ∧ ∃ i ys σ' H', Inv Y [] σ' H' s' ∧ tn i s'.heap ∧ (∀ b ∈ fp, H' b = none) ∧ i ≤ n ∧ m = n - i ∧ Pv i ys σ' H' := fun {ws σ' H' s'} J' p' => by
        refine ⟨n - (i + 1), by omega, i + 1, ws, σ', H', J'.unpinned, T.keep _ _ _ st8 fun b hb o e => (J'.pin (b, o) (List.mem_append_right _ (List.mem_append_right _ (mem_pinsAt hb e)))).1, fun b hb => ?_, hlt, rfl, p'⟩
        obtain ⟨o, e, d⟩ := T.obj _ _ st8 b hb
        exact (J'.pin (b, o) (List.mem_append_right _ (List.mem_append_right _ (mem_pinsAt hb e)))).2.1
      cases b with
      | false => exact again I10 q10
      | true =>
        have q10 := (if_pos (α := Prop) rfl).mp q10
        have q := ye _ s10 σ9 H10 _ I10 q10
        rw [yP, yw, yA, yx] at q
        refine iteT ?_
        refine thn q fun xv s11 ⟨y, H11, I11, r11, hl11, hz, p11⟩ => ?_
        have q := mt_append (X := Y) _ s11 σ9 H11 (.ref s2.heap.objs.size) [y] _ [xv] (fun _ H' => Pv (i + 1) (zs ++ [y]) σ9 H') I11 rfl (.cons r11 .nil) ⟨_, _, _, rfl, rfl, hl11, hz, p11⟩
        rw [yP, yw, yA, yx] at q
        exact thn q fun _ s12 ⟨_, H12, I12, _, p12⟩ => again I12 p12
    · have e : i = n := by omega
      subst e
      obtain ⟨stop, q⟩ := fin zs σ6 H6 pv6
      have qd := T.done Y yP yw yK yc i [] s6 σ6 H6 (fun _ _ => False) I6 (stat fr6) st6 stop
      rw [yA] at qd
      refine thn qd fun r s7 ⟨hr, I7⟩ => ?_
      subst hr
      exact hRR _ _ _ (done I7 q)
  show codeAny _ _ (.compStart _ 0 (.ref it) _ (compEnvC scope (closOf X.env.cells scope.names []) s3.heap.objs.size X.env)) (RR (.ref s2.heap.objs.size) s3.heap.objs.size) _
  rw [yenv]
  exact codeAny_compStart_list (loop _ rfl) (T.self X.A 0 _ _ _ st4 (loop _ rfl))
theorem FpOk.turned {pins : List (Addr × Obj)} {σ : St} {H : Hp} {s : Shared} {C : Addr} {h' : Heap} (f : FpOk X pins H C) (I : Inv X pins σ H s) (sb : Heap.SameBut C s.heap h') : Inv X pins σ H { s with heap := h' } :=
  I.turned (t' := s.toks) (fun b o hb e => (sb.2 b hb).trans e) f.1 f.2.1 f.2.2.2.1 f.2.2.2.2.1 f.2.2.2.2.2
/-- [elt for tg in iter if ..] as a value -/
theorem pe_comp (hc : X.calm = true) (c : CompOk X scope N cap) (hi : PI X tg iter wi) (hg : ∀ s H fp, PG (X.block scope N s H fp) tg g) (ht : ∀ s H fp, PTs (X.block scope N s H fp) ifs tt)
    (he : ∀ s H fp, PE (X.block scope N s H fp) elt te) (hs : ∀ x, foldedSetIterable iter X.env x = pure x := by intro _; rfl) : PE X (.ListComp elt [⟨tg, iter, ifs, 0⟩] scope pos) (tComp wi g tt te cap) := by
  intro pins s σ H Q I h
  rw [eval_ListComp]
  refine wpAny_comprehension_free rfl hs (closureFor_of (c.freeH I.ok)) c.kind c.lc ?_
  exact comp_run (U := fun a C s' => ∃ m, s'.heap.Ns C m ∧ ∀ h', Heap.SameBut C s'.heap h' → EP X pins σ Q a { s' with heap := h' }) hc c hi hg ht he I h
    (fun l C H' s' I' ⟨m, hn⟩ f q => ⟨m, hn, fun h' sb => ⟨.ref l, H', f.turned I' sb, rfl, q⟩⟩) fun a C s' u => u
/-- x = [elt for tg in iter if ..] on one row -/
theorem ps_setC {i : Nat} {x : Str} {pos' pos2 : Pos} (hN : X.N.Nodup) (hi' : X.N[i]? = some x) (hx : Loc X.env.scope x) (hc : X.calm = true) (c : CompOk X scope N cap) (hi : PI X tg iter wi) (hg : ∀ s H fp, PG (X.block scope N s H fp) tg g) (ht : ∀ s H fp, PTs (X.block scope N s H fp) ifs tt)
    (he : ∀ s H fp, PE (X.block scope N s H fp) elt te) (hsw : swapsWith (.ListComp elt [⟨tg, iter, ifs, 0⟩] scope pos) (some (.Name x pos')) pos2.line X.env = pure true) (hs : ∀ x, foldedSetIterable iter X.env x = pure x := by intro _; rfl)
    (hf : X.fn x = true ∨ X.env.scope.names.lookup x = some .local := by first | exact .inl rfl | exact .inr rfl | assumption) : PS X (.Assign [.Name x pos'] (.ListComp elt [⟨tg, iter, ifs, 0⟩] scope pos) pos2) (tAsg (tComp wi g tt te cap) (gName i)) := by
  intro pins s σ H D I h
  rw [exec_Assign_Name_used _ _ _ _ hsw]
  refine wpAny_bind (wpAny_standAt (wpAny_bind ?_))
  show wpAny _ X.A (do let _ ← comprehension (.ListComp elt [⟨tg, iter, ifs, 0⟩] scope pos) scope X.env _ (newList []) false (eval iter X.env) (some (assign (.Name x pos') X.env))) _ _ s
  refine wpAny_bind (wpAny_mono (wpAny_comprehension_free (Q := fun _ s' => SP X pins D .next s') rfl hs (closureFor_of (c.freeH I.ok)) c.kind c.lc ?_) (fun _ s' hq => wpAny_pure (wpAny_pure hq)) fun _ _ e => e)
  refine comp_run (U := fun a C s' => wpAny (model X.prog X.w) X.A (assign (.Name x pos') X.env a) (fun _ s'' => ∃ m, s''.heap.Ns C m ∧ ∀ h', Heap.SameBut C s''.heap h' → SP X pins D .next { s'' with heap := h' }) X.xe s') hc c hi hg ht he I h ?_ fun a C s' u => u
  intro l C H' s' I' hn f q
  obtain ⟨m, o, es, ep, ho, hd, r⟩ := hn
  have I2 : Inv X (pins ++ [(C, o)]) σ H' s' := I'.pins_of fun p hp => by
    rcases List.mem_append.mp hp with z | z
    · exact I'.pin p (List.mem_append_right _ z)
    · have e : p = (C, o) := by simpa using z
      subst e
      exact ⟨ho, f.1, f.2.1, f.2.2.1, fun v z => by rw [hd] at z; cases z⟩
  refine wpAny_assign_Name (store_ok I2 hN hi' hx (v := .ref l) rfl (fun s2 I3 => ?_) hf)
  have pc := (I3.pin (C, o) (List.mem_append_right _ (List.mem_append_right _ List.mem_cons_self))).1
  exact ⟨m, ⟨o, es, ep, pc, hd, r⟩, fun h' sb => ⟨_, H', f.turned I3.unpinned sb, q⟩⟩
end
end L2

set_option Elab.async false
set_option maxRecDepth 100000
namespace L2
open PySem PySem.Spec PyProof.Rows
section
variable {X : Cx}
/-! ### isinstance, all, sum, int lists compared -/
theorem call_isinst : CallR X (.builtin "isinstance") (fun xs H Q => ∃ x n t b, xs = [x, .ty n] ∧ TyOf X.K H x t ∧ PySem.W.kitOne X.K t (.type n) = some b ∧ Q (.bl b) H) := by
  intro pins s σ H xs us Q I r h
  obtain ⟨x, n, t, b, rfl, ty, e, q⟩ := h
  obtain ⟨u, v, rfl, ru, rv⟩ := r.two
  cases (show v = Value.type n from rv)
  exact isinst_ok I ru ty e fun tk => ⟨.bl b, H, I.tok tk, rfl, q⟩
theorem in1_hd {A : Around} (h : A.handled = none) : A.in1.handled = none := h
theorem vals_getD {its : List Value} {bs : List Bool} (r : Vals (bs.map V.bl) its) {i : Nat} {v : Value} (e : its[i]? = some v) : v = .bool (bs.getD i false) := by
  have hl := r.length
  rw [List.length_map] at hl
  have hi : i < its.length := (List.getElem?_eq_some_iff.mp e).1
  have hb : (bs.map V.bl)[i]? = some (V.bl (bs.getD i false)) := by
    rw [List.getElem?_map, List.getD_eq_getElem?_getD, List.getElem?_eq_getElem (by omega)]
    rfl
  obtain ⟨u, hu, ru⟩ := r.get hb
  rw [e] at hu
  cases hu
  exact ru
theorem range_all (bs : List Bool) : (List.range bs.length).all (fun i => bs.getD i false) = bs.all id := by
  rw [Bool.eq_iff_iff]
  simp only [List.all_eq_true, List.mem_range, id]
  constructor
  · intro h b hb
    obtain ⟨i, hi, rfl⟩ := List.mem_iff_getElem.mp hb
    have := h i hi
    rwa [List.getD_eq_getElem?_getD, List.getElem?_eq_getElem hi] at this
  · intro h i hi
    rw [List.getD_eq_getElem?_getD, List.getElem?_eq_getElem hi]
    exact h _ (List.getElem_mem hi)
theorem call_all_bl (hc : X.calm = true) : CallR X (.builtin "all") (fun xs H Q => ∃ (p : Addr) (bs : List Bool), xs = [.ref p] ∧ SqL X.K H p (bs.map V.bl) ∧ Q (.bl (bs.all id)) H) := by
  intro pins s σ H xs us Q I r h
  obtain ⟨p, bs, rfl, hp, q⟩ := h
  obtain ⟨u, rfl, ru⟩ := r.one
  cases (show u = Value.ref p from ru)
  obtain ⟨its, rv, pl, hz⟩ := I.list hp
  have hh := in1_hd (I.ok.hd hc)
  have hlt : p < s.heap.objs.size := let ⟨o, ho, _⟩ := pl.isList; Heap.lt_size ho
  refine call_all_walk (wpAny_pyIter_list pl.isList ?_)
  refine ⟨s.heap.objs.size, _, _, _, _, _, fun i => bs.getD i false, rfl, Walks.list hh s.heap.objs.size p (Nat.ne_of_lt hlt) its.toArray, ⟨⟨_, Heap.get?_push_size _ rfl, rfl, rfl⟩, pl.isList.push _⟩, fun i v s' Q' E' hP hQ => ?_, fun h' tk hk => ?_⟩
  · have := vals_getD rv (i := i) (v := v) (by simpa using hP)
    subst this
    exact wpAny_truthy_bool hQ
  · have hl := rv.length
    rw [List.length_map] at hl
    refine ⟨.bl (bs.all id), H, I.kept (h' := h') (t' := tk) fun b o e => hk b o (by simpa using Nat.ne_of_lt (Heap.lt_size e)) (Heap.get?_push_of_some _ e), ?_, q⟩
    show _ = _
    rw [List.size_toArray, ← hl, range_all]
theorem vals_geti {its : List Value} {ns : List Int} (r : Vals (ns.map V.int) its) {i : Nat} {v : Value} (e : its[i]? = some v) : ∃ t, v = .int (ns.getD i 0) t := by
  have hl := r.length
  rw [List.length_map] at hl
  have hi : i < its.length := (List.getElem?_eq_some_iff.mp e).1
  have hb : (ns.map V.int)[i]? = some (V.int (ns.getD i 0)) := by
    rw [List.getElem?_map, List.getD_eq_getElem?_getD, List.getElem?_eq_getElem (by omega)]
    rfl
  obtain ⟨u, hu, ru⟩ := r.get hb
  rw [e] at hu
  cases hu
  exact ru
theorem preSum_take (ns : List Int) : ∀ k, k ≤ ns.length → preSum (fun i => ns.getD i 0) k = (ns.take k).sum
  | 0, _ => rfl
  | k + 1, h => by
    have ih := preSum_take ns k (by omega)
    rw [List.take_add_one, List.sum_append, ← ih, List.getElem?_eq_getElem (by omega)]
    show preSum _ k + ns.getD k 0 = _
    rw [List.getD_eq_getElem?_getD, List.getElem?_eq_getElem (by omega)]
    simp
/-- what sum of small ints wants -/
def SmallSum (ns : List Int) : Prop := ∀ k, k ≤ ns.length → InLong ((ns.take k).sum) ∧ ∀ n ∈ ns, InLong n
theorem call_sum_seq (hc : X.calm = true) : CallR X (.builtin "sum") (fun xs H Q => ∃ (p : Addr) (ns : List Int), xs = [.ref p] ∧ (SqL X.K H p (ns.map V.int) ∨ SqT X.K H p (ns.map V.int)) ∧ SmallSum ns ∧ Q (.int ns.sum) H) := by
  intro pins s σ H xs us Q I r h
  obtain ⟨p, ns, rfl, hp, sm, q⟩ := h
  obtain ⟨u, rfl, ru⟩ := r.one
  cases (show u = Value.ref p from ru)
  have hh := in1_hd (I.ok.hd hc)
  have fin : ∀ {its : List Value} {h' : Heap} {tk : Nat} {t' : Tok}, Vals (ns.map V.int) its → (∀ b o, b ∉ [s.heap.objs.size] → s.heap.get? b = some o → h'.get? b = some o) →
      EP X pins σ Q (.int (preSum (fun i => ns.getD i 0) its.length) t') { s with heap := h', toks := tk } := fun {its h' tk t'} rv hk => by
    have hl := rv.length
    rw [List.length_map] at hl
    refine ⟨.int ns.sum, H, I.kept (h' := h') (t' := tk) fun b o e => hk b o (by simpa using Nat.ne_of_lt (Heap.lt_size e)) e, ⟨t', ?_⟩, q⟩
    rw [← hl, preSum_take _ _ (Nat.le_refl _), List.take_of_length_le (Nat.le_refl _)]
  have fit : ∀ {its : List Value}, Vals (ns.map V.int) its → ∀ j, j < its.length → InLong (ns.getD j 0) ∧ InLong (preSum (fun i => ns.getD i 0) (j + 1)) := fun {its} rv j hj => by
    have hl := rv.length
    rw [List.length_map] at hl
    refine ⟨(sm 0 (Nat.zero_le _)).2 _ ?_, ?_⟩
    · rw [List.getD_eq_getElem?_getD, List.getElem?_eq_getElem (by omega)]
      exact List.getElem_mem _
    · rw [preSum_take _ _ (by omega)]
      exact (sm _ (by omega)).1
  rcases hp with hp | hp
  · obtain ⟨its, rv, pl, hz⟩ := I.list hp
    have hlt : p < s.heap.objs.size := let ⟨o, ho, _⟩ := pl.isList; Heap.lt_size ho
    refine call_sum_walk (wpAny_pyIter_list pl.isList ?_)
    refine ⟨s.heap.objs.size, _, _, _, _, _, fun i => ns.getD i 0, rfl, Walks.list hh s.heap.objs.size p (Nat.ne_of_lt hlt) its.toArray, ⟨⟨_, Heap.get?_push_size _ rfl, rfl, rfl⟩, pl.isList.push _⟩, fun b hb => ?_, fun i v hP => vals_geti rv (by simpa using hP), fun j hj => fit rv j (by simpa using hj), fun h' tk t' hk => fin rv fun b o hb e => hk b o hb (Heap.get?_push_of_some _ e)⟩
    rw [Heap.size_push]
    rcases List.mem_cons.mp hb with e | e
    · rw [e]; exact Nat.lt_succ_self _
    · have : b = p := by simpa using e
      rw [this]; exact Nat.lt_succ_of_lt hlt
  · obtain ⟨its, rv, pl, hz⟩ := I.tuple hp
    have hlt : p < s.heap.objs.size := let ⟨o, ho, _⟩ := pl; Heap.lt_size ho
    refine call_sum_walk (wpAny_pyIter_tuple pl ?_)
    refine ⟨s.heap.objs.size, _, _, _, _, _, fun i => ns.getD i 0, rfl, Walks.tuple hh s.heap.objs.size p (Nat.ne_of_lt hlt) its.toArray, ⟨⟨_, Heap.get?_push_size _ rfl, rfl, rfl⟩, pl.push _⟩, fun b hb => ?_, fun i v hP => vals_geti rv (by simpa using hP), fun j hj => fit rv j (by simpa using hj), fun h' tk t' hk => fin rv fun b o hb e => hk b o hb (Heap.get?_push_of_some _ e)⟩
    rw [Heap.size_push]
    rcases List.mem_cons.mp hb with e | e
    · rw [e]; exact Nat.lt_succ_self _
    · have : b = p := by simpa using e
      rw [this]; exact Nat.lt_succ_of_lt hlt
end
end L2

set_option Elab.async false
set_option maxRecDepth 100000
namespace L2
open PySem PySem.Spec PyProof.Rows
mutual
/-- v stands for the data d in the heap H -/
def Rep (H : Hp) : PyData → V → Prop
  | .none, v => v = .non
  | .bool b, v => v = .bl b
  | .int i, v => v = .int i
  | .str x, v => v = .str x
  | .list ds, v => ∃ a xs, v = .ref a ∧ H a = some (.lst xs) ∧ RepL H ds xs
  | .tuple ds, v => ∃ a xs, v = .ref a ∧ H a = some (.tup xs) ∧ RepL H ds xs
  | .dict _, _ => False
def RepL (H : Hp) : List PyData → List V → Prop
  | [], xs => xs = []
  | d :: ds, xs => ∃ x r, xs = x :: r ∧ Rep H d x ∧ RepL H ds r
end
mutual
theorem Rep.mono {H H' : Hp} (s : Same H H') : ∀ {d : PyData} {v : V}, Rep H d v → Rep H' d v
  | .none, _, h => by simpa [Rep] using h
  | .bool _, _, h => by simpa [Rep] using h
  | .int _, _, h => by simpa [Rep] using h
  | .str _, _, h => by simpa [Rep] using h
  | .list ds, _, h => by
    simp only [Rep] at h ⊢
    obtain ⟨a, xs, e, h1, h2⟩ := h
    exact ⟨a, xs, e, s _ _ h1, RepL.mono s h2⟩
  | .tuple ds, _, h => by
    simp only [Rep] at h ⊢
    obtain ⟨a, xs, e, h1, h2⟩ := h
    exact ⟨a, xs, e, s _ _ h1, RepL.mono s h2⟩
  | .dict _, _, h => by simp only [Rep] at h
theorem RepL.mono {H H' : Hp} (s : Same H H') : ∀ {ds : List PyData} {xs : List V}, RepL H ds xs → RepL H' ds xs
  | [], _, h => by simpa [RepL] using h
  | d :: ds, _, h => by
    simp only [RepL] at h ⊢
    obtain ⟨x, r, e, h1, h2⟩ := h
    exact ⟨x, r, e, Rep.mono s h1, RepL.mono s h2⟩
end
section
variable {X : Cx} {pins : List (Addr × Obj)} {σ : St} {H : Hp} {s : Shared}
mutual
theorem Rep.reads (I : Inv X pins σ H s) : ∀ {d : PyData} {v : V} {u : Value}, Rep H d v → RelV v u → ∃ as, Reads s.heap u d as
  | .none, _, _, h, r => by simp only [Rep] at h; subst h; cases r; exact ⟨_, .none⟩
  | .bool _, _, _, h, r => by simp only [Rep] at h; subst h; cases r; exact ⟨_, .bool _⟩
  | .int _, _, _, h, r => by simp only [Rep] at h; subst h; obtain ⟨t, rfl⟩ := r; exact ⟨_, .int _ _⟩
  | .str _, _, _, h, r => by simp only [Rep] at h; subst h; obtain ⟨t, rfl⟩ := r; exact ⟨_, .str _ _⟩
  | .list ds, _, _, h, r => by
    simp only [Rep] at h
    obtain ⟨a, xs, rfl, h1, h2⟩ := h
    cases (show _ = Value.ref a from r)
    obtain ⟨its, rv, pl, _⟩ := I.list (SqL.of h1)
    obtain ⟨as, ra⟩ := RepL.reads I h2 rv
    obtain ⟨o, n, e, c, _, d⟩ := pl
    exact ⟨_, .list e c d (by simpa using ra)⟩
  | .tuple ds, _, _, h, r => by
    simp only [Rep] at h
    obtain ⟨a, xs, rfl, h1, h2⟩ := h
    cases (show _ = Value.ref a from r)
    obtain ⟨its, rv, pl, _⟩ := I.tuple (SqT.of h1)
    obtain ⟨as, ra⟩ := RepL.reads I h2 rv
    obtain ⟨o, e, c, n, d⟩ := pl
    exact ⟨_, .tuple e c d (by simpa using ra)⟩
  | .dict _, _, _, h, _ => by simp only [Rep] at h
theorem RepL.reads (I : Inv X pins σ H s) : ∀ {ds : List PyData} {xs : List V} {us : List Value}, RepL H ds xs → Vals xs us → ∃ as, ReadsAll s.heap us ds as
  | [], _, _, h, r => by simp only [RepL] at h; subst h; cases r; exact ⟨_, .nil⟩
  | d :: ds, _, _, h, r => by
    simp only [RepL] at h
    obtain ⟨x, t, rfl, h1, h2⟩ := h
    cases r with
    | cons r1 r2 =>
      obtain ⟨as, a1⟩ := Rep.reads I h1 r1
      obtain ⟨bs, a2⟩ := RepL.reads I h2 r2
      exact ⟨_, .cons a1 a2⟩
end
end
/-- == and != of data, at any depth up to 64 -/
def rEqD (neg : Bool) : R2 := fun x y H Q => ∃ d e, Rep H d x ∧ Rep H e y ∧ SeqAt.shaped d = true ∧ SeqAt.shaped e = true ∧ Q (.bl (if neg then !PyData.eqv d e else PyData.eqv d e)) H
section
variable {X : Cx}
theorem op_eqD (hu : X.A.units + 64 < cLine) : OpR X (compareOp .Eq) (rEqD false) := by
  intro pins s σ H x y v u Q I rx ry h
  obtain ⟨d, e, h1, h2, s1, s2, q⟩ := h
  obtain ⟨as, r1⟩ := h1.reads I rx
  obtain ⟨bs, r2⟩ := h2.reads I ry
  exact eq_dataH r1 r2 s1 s2 hu ⟨.bl _, H, I, rfl, q⟩
theorem op_neD (hu : X.A.units + 64 < cLine) : OpR X (compareOp .NotEq) (rEqD true) := by
  intro pins s σ H x y v u Q I rx ry h
  obtain ⟨d, e, h1, h2, s1, s2, q⟩ := h
  obtain ⟨as, r1⟩ := h1.reads I rx
  obtain ⟨bs, r2⟩ := h2.reads I ry
  exact ne_dataH r1 r2 s1 s2 hu ⟨.bl _, H, I, rfl, q⟩
end
def tyD : PyData → String
  | .none => "NoneType"
  | .bool _ => "bool"
  | .int _ => "int"
  | .str _ => "str"
  | .list _ => "list"
  | .tuple _ => "tuple"
  | .dict _ => "dict"
theorem Rep.ty {K : PySem.W.Frag} {H : Hp} {d : PyData} {v : V} (h : Rep H d v) : TyOf K H v (.type (tyD d)) := by
  cases d with
  | none => simp only [Rep] at h; subst h; exact .non
  | bool b => simp only [Rep] at h; subst h; exact .bl b
  | int b => simp only [Rep] at h; subst h; exact .int b
  | str b => simp only [Rep] at h; subst h; exact .str b
  | list ds => simp only [Rep] at h; obtain ⟨a, xs, rfl, e, _⟩ := h; exact .lst e
  | tuple ds => simp only [Rep] at h; obtain ⟨a, xs, rfl, e, _⟩ := h; exact .tup e
  | dict _ => simp only [Rep] at h
def isD (T : String) : PyData → Bool
  | .none => T == "NoneType"
  | .bool _ => T == "bool" || T == "int"
  | .int _ => T == "int"
  | .str _ => T == "str"
  | .list _ => T == "list"
  | .tuple _ => T == "tuple"
  | .dict _ => T == "dict"
theorem kit_bool {K : PySem.W.Frag} (d : PyData) : PySem.W.kitOne K (.type (tyD d)) (.type "bool") = some (isD "bool" d) := by cases d <;> kernel_rfl
theorem kit_int {K : PySem.W.Frag} (d : PyData) : PySem.W.kitOne K (.type (tyD d)) (.type "int") = some (isD "int" d) := by cases d <;> kernel_rfl
theorem kit_str {K : PySem.W.Frag} (d : PyData) : PySem.W.kitOne K (.type (tyD d)) (.type "str") = some (isD "str" d) := by cases d <;> kernel_rfl
theorem kit_list {K : PySem.W.Frag} (d : PyData) : PySem.W.kitOne K (.type (tyD d)) (.type "list") = some (isD "list" d) := by cases d <;> kernel_rfl
theorem kit_tuple {K : PySem.W.Frag} (d : PyData) : PySem.W.kitOne K (.type (tyD d)) (.type "tuple") = some (isD "tuple" d) := by cases d <;> kernel_rfl
end L2

set_option Elab.async false
set_option maxRecDepth 100000
namespace L2
open PySem PySem.Spec PyProof.Rows
/-- several untracked records of ours have turned, and a new object is laid -/
theorem Inv.turnedL {X : Cx} {pins : List (Addr × Obj)} {σ : St} {H : Hp} {s : Shared} {h' : Heap} {t' : Nat} {ch : List Addr} {T : Addr} {o : HO} (I : Inv X pins σ H s) (k : ∀ b o, b ∉ ch → s.heap.get? b = some o → h'.get? b = some o)
    (f : ∀ b ∈ ch, FpOk X pins H b) (there : ∀ b ∈ ch, ∃ o, h'.get? b = some o) (hT : s.heap.objs.size ≤ T) (new : ObjOk X.prog X.w (upd H T o) h' T o) : Inv X pins σ (upd H T o) { s with heap := h', toks := t' } := by
  have nit : ∀ b u, H b = some u → b ∉ ch := fun b u e z => by rw [(f b z).1] at e; cases e
  have ltT : ∀ b ob, s.heap.get? b = some ob → b ≠ T := fun b ob e => Nat.ne_of_lt (Nat.lt_of_lt_of_le (Heap.lt_size e) hT)
  have hTn : H T = none := I.hok.fresh hT
  have neT : ∀ b u, H b = some u → b ≠ T := fun b u e => ne_of_none e hTn
  refine I.step (g' := s.gens) (d' := s.drawn) (ch := ch) (fun b hb => ⟨(f b hb).2.2.2.1, (f b hb).2.1, (f b hb).2.2.2.2.1, (f b hb).2.2.2.2.2⟩) (fun b o _ _ hc e _ => k b o hc e) (fun b o _ _ hc e _ => ⟨o.slots, k b o hc e⟩) (fun b o _ e n => by rw [upd_ne (ltT b o e)]; exact n)
    (fun b o hc e => ⟨o, k b o hc e⟩) (fun b _ e => by rw [upd_ne (neT b _ e)]; exact e) (fun b _ _ e => by rw [upd_ne (neT b _ e)]; exact e) (fun b ps e => ⟨#[], by rw [upd_ne (neT b _ e), e]; simp⟩) (fun m hm => ?_) (fun b u e => ?_) I.bare
  · obtain ⟨ob, es, ep, ho, r⟩ := hm
    exact ⟨ob, es, ep, k _ ob (fun z => (f _ z).2.1 rfl) ho, r⟩
  · by_cases hb : b = T
    · subst hb
      rw [upd_same] at e
      cases e
      exact new
    · rw [upd_ne hb] at e
      refine (I.hok b u e).stay (fun c v hc q => k c v ?_ q) (fun q e' => ?_) fun a q e' => ?_
      · rcases hc with z | z
        · rw [z]; exact nit b u e
        · exact nit c _ z
      · rw [upd_ne (neT _ _ e')]; exact e'
      · rw [upd_ne (neT _ _ e')]; exact e'
/-! ### zip of two lists, unpacked into names -/
def Itz (K : PySem.W.Frag) (a b : Addr) : It :=
  ⟨fun i H => ∃ xs ys x y, SqL K H a xs ∧ SqL K H b ys ∧ xs[i]? = some x ∧ ys[i]? = some y,
   fun i H v H' => ∃ T, v = .ref T ∧ H T = none ∧ ∀ xs ys, SqL K H a xs → SqL K H b ys → ∃ x y, xs[i]? = some x ∧ ys[i]? = some y ∧ H' = upd H T (.tup [x, y]),
   fun i H => ∃ xs ys, SqL K H a xs ∧ SqL K H b ys ∧ (xs.length ≤ i ∨ ys.length ≤ i)⟩
theorem turn_zip {P : Program} {w : World} {K : PySem.W.Frag} {elts : List Expr} {kt : Nat} {pt : Pos} {a b n : Addr} (ha : a < n) (hb : b < n) :
    Turn P w K (.Tuple elts kt pt) (Itz K a b) [n + 4, n + 2, n + 3, n, n + 1] (n + 4) (fun i h => IsZip h (n + 4) (n + 2) (n + 3) .none ∧ IsPair h (n + 2) (.ref n) (.ref (n + 1)) ∧ (∃ x y, IsPair h (n + 3) x y) ∧ h.IsListIter n a i ∧ h.IsListIter (n + 1) b i) where
  mem := by simp
  obj := fun i h st c hc => by
    obtain ⟨z1, z2, ⟨x, y, z3⟩, ⟨o4, e4, c4, d4⟩, ⟨o5, e5, c5, d5⟩⟩ := st
    simp only [List.mem_cons, List.not_mem_nil, or_false] at hc
    rcases hc with rfl | rfl | rfl | rfl | rfl
    · exact ⟨_, z1, fun v z => by cases z⟩
    · exact ⟨_, z2, fun v z => by cases z⟩
    · exact ⟨_, z3, fun v z => by cases z⟩
    · exact ⟨_, e4, fun v z => by rw [d4] at z; cases z⟩
    · exact ⟨_, e5, fun v z => by rw [d5] at z; cases z⟩
  keep := fun i h h' st k => by
    obtain ⟨z1, z2, ⟨x, y, z3⟩, z4, z5⟩ := st
    exact ⟨k _ (by simp) _ z1, k _ (by simp) _ z2, ⟨x, y, k _ (by simp) _ z3⟩, z4.at fun o e => k _ (by simp) o e, z5.at fun o e => k _ (by simp) o e⟩
  item := by
    intro X hP hw hK hc i pins s σ H E I hf st hg
    subst hP hw hK
    obtain ⟨xs, ys, x, y, hqa, hqb, hx, hy⟩ := hg
    obtain ⟨its, rv, p, hz⟩ := I.list hqa
    obtain ⟨jts, rw', p', hz'⟩ := I.list hqb
    obtain ⟨u, hu, ru⟩ := rv.get hx
    obtain ⟨u', hu', ru'⟩ := rw'.get hy
    obtain ⟨z1, z2, ⟨x0, y0, z3⟩, z4, z5⟩ := st
    have D : ZipApart (n + 4) (n + 2) (n + 3) n (n + 1) a b := PyProof.Rows.zipApart_new ha hb
    have ltz : n + 4 < s.heap.objs.size := Heap.lt_size z1
    refine wpAny_pyNext_zip_item D z1 z2 z3 z4 z5 p.isList p'.isList (x := u) (y := u') (by simpa using hu) (by simpa using hu') fun h' a1 a2 a3 a4 a5 a6 hk => ?_
    refine ⟨_, rfl, wpAny_letOwnedTupleGo_zip (s := { s with heap := h' }) a1 fun h2 b1 hs => ?_⟩
    have neT : ∀ {c : Addr}, c ≤ n + 4 → c ≠ s.heap.objs.size := fun h => Nat.ne_of_lt (Nat.lt_of_le_of_lt h ltz)
    have kk : ∀ c o, c ∉ [n + 4, n + 3, n, n + 1] → s.heap.get? c = some o → h2.get? c = some o := fun c o hc e => by
      simp only [List.mem_cons, List.not_mem_nil, or_false, not_or] at hc
      exact (hs.2 c hc.1).trans (hk c o hc.1 hc.2.1 hc.2.2.1 hc.2.2.2 e)
    have q2 : h2.get? (n + 2) = _ := kk _ _ (by simp only [List.mem_cons, List.not_mem_nil, or_false, not_or]; exact ⟨D.TIz, D.TITO, D.TIi1, D.TIi2⟩) z2
    have q3 : h2.get? (n + 3) = _ := (hs.2 _ D.TOz).trans a2
    obtain ⟨o4, e4, c4⟩ := a3
    obtain ⟨o5, e5, c5⟩ := a4
    have q4 : h2.get? n = _ := (hs.2 _ D.i1z).trans e4
    have q5 : h2.get? (n + 1) = _ := (hs.2 _ D.i2z).trans e5
    have qT : h2.get? s.heap.objs.size = _ := (hs.2 _ (Ne.symm (neT (Nat.le_refl _)))).trans a5
    have sub : ∀ c ∈ [n + 4, n + 3, n, n + 1], c ∈ [n + 4, n + 2, n + 3, n, n + 1] := fun c hc => by
      simp only [List.mem_cons, List.not_mem_nil, or_false] at hc ⊢
      rcases hc with e | e | e | e
      · exact .inl e
      · exact .inr (.inr (.inl e))
      · exact .inr (.inr (.inr (.inl e)))
      · exact .inr (.inr (.inr (.inr e)))
    have I1 : Inv X pins σ (upd H s.heap.objs.size (.tup [x, y])) { s with heap := h2, toks := s.toks } := I.turnedL (ch := [n + 4, n + 3, n, n + 1]) kk (fun c hc => hf c (sub c hc)) (fun c hc => by
        simp only [List.mem_cons, List.not_mem_nil, or_false] at hc
        rcases hc with rfl | rfl | rfl | rfl
        · exact ⟨_, b1⟩
        · exact ⟨_, q3⟩
        · exact ⟨_, q4⟩
        · exact ⟨_, q5⟩) (Nat.le_refl _) ⟨by show 2 ≤ sizeLine; decide, [u, u'], .cons ru (.cons ru' .nil), _, qT, rfl, _, rfl⟩
    refine ⟨.ref s.heap.objs.size, _, I1, rfl, ⟨_, rfl, I.hok.fresh (Nat.le_refl _), fun vs ws hv hw => ?_⟩, ⟨b1, q2, ⟨_, _, q3⟩, ⟨_, q4, c4⟩, ⟨_, q5, c5⟩⟩, fun c hc => ?_⟩
    · rw [I.list_inj hv hqa, I.list_inj hw hqb]
      exact ⟨x, y, hx, hy, rfl⟩
    · have hle : c ≤ n + 4 := by
        simp only [List.mem_cons, List.not_mem_nil, or_false] at hc
        rcases hc with rfl | rfl | rfl | rfl | rfl
        · exact Nat.le_refl _
        · exact Nat.le_add_right (n + 2) 2
        · exact Nat.le_add_right (n + 3) 1
        · exact Nat.le_add_right _ 4
        · exact Nat.le_add_right (n + 1) 3
      rw [upd_ne (neT hle)]
      exact (hf c hc).1
  done := by
    intro X hP hw hK hc i pins s σ H E I hf st hg
    subst hP hw hK
    obtain ⟨xs, ys, hqa, hqb, hl⟩ := hg
    obtain ⟨its, rv, p, hz⟩ := I.list hqa
    obtain ⟨jts, rw', p', hz'⟩ := I.list hqb
    obtain ⟨z1, z2, ⟨x0, y0, z3⟩, z4, z5⟩ := st
    have D : ZipApart (n + 4) (n + 2) (n + 3) n (n + 1) a b := PyProof.Rows.zipApart_new ha hb
    have l1 := rv.length
    have l2 := rw'.length
    refine wpAny_pyNext_zip_end (I.ok.hd hc) D z1 z2 z3 z4 z5 p.isList p'.isList ?_ fun h' hk => ⟨rfl, ?_⟩
    · rcases hl with h | h
      · exact .inl (by simp; omega)
      · exact .inr (by simp; omega)
    · have fp : ∀ c ∈ [n + 4, n + 3, n, n + 1], FpOk X pins H c := fun c hc => hf c (by
        simp only [List.mem_cons, List.not_mem_nil, or_false] at hc ⊢
        rcases hc with e | e | e | e
        · exact .inl e
        · exact .inr (.inr (.inl e))
        · exact .inr (.inr (.inr (.inl e)))
        · exact .inr (.inr (.inr (.inr e))))
      have kk : ∀ c o, c ∉ [n + 4, n + 3, n, n + 1] → s.heap.get? c = some o → h'.get? c = some o := fun c o hc e => by
        simp only [List.mem_cons, List.not_mem_nil, or_false, not_or] at hc
        exact hk c o hc.1 hc.2.1 hc.2.2.1 hc.2.2.2 e
      have nit : ∀ c u, H c = some u → c ∉ [n + 4, n + 3, n, n + 1] := fun c u e z => by rw [(fp c z).1] at e; cases e
      refine I.step (g' := s.gens) (d' := s.drawn) (t' := s.toks) (ch := [n + 4, n + 3, n, n + 1]) (fun c hc => ⟨(fp c hc).2.2.2.1, (fp c hc).2.1, (fp c hc).2.2.2.2.1, (fp c hc).2.2.2.2.2⟩) (fun c o _ _ hc e _ => kk c o hc e) (fun c o _ _ hc e _ => ⟨o.slots, kk c o hc e⟩) (fun _ _ _ _ n => n)
        (fun c o hc e => ⟨o, kk c o hc e⟩) (fun _ _ e => e) (fun _ _ _ e => e) (fun _ ps e => ⟨#[], by rw [e]; simp⟩) (fun m hm => ?_) (fun c u e => ?_) I.bare
      · obtain ⟨ob, es, ep, ho, r⟩ := hm
        exact ⟨ob, es, ep, kk _ ob (fun z => (fp _ z).2.1 rfl) ho, r⟩
      · refine (I.hok c u e).stay (fun d v hd q => kk d v ?_ q) (fun _ e' => e') fun _ _ e' => e'
        rcases hd with z | z
        · rw [z]; exact nit c u e
        · exact nit d _ z
  self := fun _ _ _ _ _ st h => wpAny_pyIter_zip st.1 h
section
variable {X : Cx} {elts : List Expr} {kt : Nat} {pt : Pos}
def iZip (K : PySem.W.Frag) (ta : TA) : TI := fun σ H R => ta σ H fun vs H1 => ∃ a b, vs = [.ref a, .ref b] ∧ (∃ xs, SqL K H1 a xs) ∧ (∃ ys, SqL K H1 b ys) ∧ R (Itz K a b) H1
end
end L2

set_option Elab.async false
set_option maxRecDepth 100000
namespace L2
open PySem PySem.Spec PyProof.Rows
/-! ### readings, one step each -/
section
variable {σ : St} {H : Hp} {Q : VK} {D : Ends} {QB : Bool → Hp → Prop} {QA : List V → Hp → Prop}
theorem rd_next (h : D.nx σ H) : tNext D σ H := h
theorem rd_asg {te : TE} {g : TG} (h : te σ H fun x H1 => g x σ H1 D.nx) : tAsg te g D σ H := h
theorem rd_name {i : Nat} {v : V} {Q : St → Hp → Prop} (h : Q (σ.set i (some v)) H) : gName i v σ H Q := h
theorem rd_ret {te : TE} (h : te σ H D.rt) : tRet te D σ H := h
theorem rd_drop {te : TE} (h : te σ H fun _ H1 => D.nx σ H1) : tDrop te D σ H := h
theorem rd_ifS {c : TT} {t u : TS} (h : c σ H fun b H1 => if b = true then t D σ H1 else u D σ H1) : tIfS c t u D σ H := h
theorem rd_tB {t : TE} (h : t σ H fun x H1 => ∃ c, x = .bl c ∧ QB c H1) : tB t σ H QB := h
theorem rd_tTest {t : TE} (h : t σ H fun x H1 => ∃ c, x = .bl c ∧ QB c H1) : tTest t σ H QB := h
theorem rd_exbl {b : Bool} {P : Bool → Prop} (h : P b) : ∃ c, V.bl b = V.bl c ∧ P c := ⟨b, rfl, h⟩
theorem rd_exref {a : Addr} {P : Addr → Prop} (h : P a) : ∃ c, V.ref a = V.ref c ∧ P c := ⟨a, rfl, h⟩
theorem rd_exint {i : Int} {P : Int → Prop} (h : P i) : ∃ c, V.int i = V.int c ∧ P c := ⟨i, rfl, h⟩
theorem rd_var {i : Nat} {v : V} (e : σ[i]? = some (some v)) (h : Q v H) : tVar i σ H Q := ⟨v, e, h⟩
theorem rd_c {v : V} (h : Q v H) : tC v σ H Q := h
theorem rd_op {r : R2} {ta tb : TE} (h : ta σ H fun x H1 => tb σ H1 fun y H2 => r x y H2 Q) : tOp r ta tb σ H Q := h
theorem rd_un {r : V → Hp → VK → Prop} {ta : TE} (h : ta σ H fun x H1 => r x H1 Q) : tUn r ta σ H Q := h
theorem rd_andV {ta tb : TE} (h : ta σ H fun x H1 => ∃ c, x = .bl c ∧ if c = true then tb σ H1 Q else Q (.bl false) H1) : tAndV ta tb σ H Q := h
theorem rd_notV {ta : TE} (h : ta σ H fun x H1 => ∃ c, x = .bl c ∧ Q (.bl (!c)) H1) : tNotV ta σ H Q := h
theorem rd_and {t u : TT} (h : t σ H fun c H1 => if c = true then u σ H1 QB else QB false H1) : tAnd t u σ H QB := h
theorem rd_or {t u : TT} (h : t σ H fun c H1 => if c = true then QB true H1 else u σ H1 QB) : tOr t u σ H QB := h
theorem rd_not {t : TT} (h : t σ H fun c H1 => QB (!c) H1) : tNot t σ H QB := h
theorem rd_true (h : QB true H) : tTrue σ H QB := h
theorem rd_I0 {g : Int → Int → V} {i j : Int} (h : Q (g i j) H) : rI0 g (.int i) (.int j) H Q := ⟨i, j, rfl, rfl, h⟩
theorem rd_I {C : Int → Int → Prop} {g : Int → Int → V} {i j : Int} (c : C i j) (h : Q (g i j) H) : rI C g (.int i) (.int j) H Q := ⟨i, j, rfl, rfl, c, h⟩
theorem rd_U {g : Int → V} {i : Int} (h : Q (g i) H) : rU g (.int i) H Q := ⟨i, rfl, h⟩
theorem rd_eqI {i j : Int} (h : Q (.bl (decide (i = j))) H) : rEq (.int i) (.int j) H Q := ⟨rfl, by
  rw [dec_int, Int.instDecidableEq.eq_def] <;> first | exact h | (simpa [dec_int] using h)⟩
theorem rd_neI {i j : Int} (h : Q (.bl (!decide (i = j))) H) : rNe (.int i) (.int j) H Q := ⟨rfl, by
  have e : decide (V.int i = V.int j) = decide (i = j) := by by_cases z : i = j <;> simp [z]
  rw [e]; exact h⟩
theorem rd_eqS {i j : Str} (h : Q (.bl (decide (i = j))) H) : rEq (.str i) (.str j) H Q := ⟨rfl, by
  have e : decide (V.str i = V.str j) = decide (i = j) := by by_cases z : i = j <;> simp [z]
  rw [e]; exact h⟩
theorem rd_eqB {i j : Bool} (h : Q (.bl (decide (i = j))) H) : rEq (.bl i) (.bl j) H Q := ⟨rfl, by
  have e : decide (V.bl i = V.bl j) = decide (i = j) := by by_cases z : i = j <;> simp [z]
  rw [e]; exact h⟩
theorem rd_neB {i j : Bool} (h : Q (.bl (!decide (i = j))) H) : rNe (.bl i) (.bl j) H Q := ⟨rfl, by
  have e : decide (V.bl i = V.bl j) = decide (i = j) := by by_cases z : i = j <;> simp [z]
  rw [e]; exact h⟩
theorem rd_ixL {K : PySem.W.Frag} {p : Addr} {xs : List V} {i : Int} {v : V} (h : SqL K H p xs) (e : atI xs i = some v) (q : Q v H) : rIxL K (.ref p) (.int i) H Q := ⟨p, xs, i, v, rfl, rfl, h, e, q⟩
theorem rd_ixT {K : PySem.W.Frag} {p : Addr} {xs : List V} {i : Int} {v : V} (h : SqT K H p xs) (e : atI xs i = some v) (q : Q v H) : rIxT K (.ref p) (.int i) H Q := ⟨p, xs, i, v, rfl, rfl, h, e, q⟩
theorem rd_chain {r r' : R2} {ta tb tc : TE} (h : ta σ H fun x H1 => tb σ H1 fun y H2 => r x y H2 fun z H3 => ∃ k, z = .bl k ∧ if k = true then tc σ H3 fun y' H4 => r' y y' H4 Q else Q (.bl false) H3) : tChain r r' ta tb tc σ H Q := h
theorem rd_call {sp : Sp} {dvs : List V} {E : XK} {t : TA} (h : t σ H fun vs H1 => sp (vs ++ dvs) H1 Q E) : tCall sp dvs E t σ H Q := h
theorem rd_nil (h : QA [] H) : tNil σ H QA := h
theorem rd_cons {ta : TE} {tr : TA} (h : ta σ H fun x H1 => tr σ H1 fun xs H2 => QA (x :: xs) H2) : tCons ta tr σ H QA := h
theorem rd_CB {r : List V → Hp → VK → Prop} {t : TA} (h : t σ H fun vs H1 => r vs H1 Q) : tCB r t σ H Q := h
theorem rd_tup {t : TA} (h : t σ H fun xs H1 => xs.length ≤ sizeLine ∧ ∀ p, H1 p = none → Q (.ref p) (upd H1 p (.tup xs))) : tTup t σ H Q := h
theorem rd_lst {t : TA} (h : t σ H fun xs H1 => xs.length ≤ sizeLine ∧ ∀ p, H1 p = none → Q (.ref p) (upd H1 p (.lst xs))) : tLst t σ H Q := h
end
end L2

set_option Elab.async false
set_option maxRecDepth 100000
namespace L2
open PySem PySem.Spec PyProof.Rows
theorem kit_ii {K : PySem.W.Frag} : PySem.W.kitOne K (.type "int") (.type "int") = some true := by kernel_rfl
theorem kit_ib {K : PySem.W.Frag} : PySem.W.kitOne K (.type "int") (.type "bool") = some false := by kernel_rfl
section
variable {X : Cx} {K : PySem.W.Frag} {H : Hp} {Q : VK} {σ : St}
/-! calls of built-ins, by named relations -/
def rIsi (K : PySem.W.Frag) : List V → Hp → VK → Prop := fun xs H Q => ∃ x n t b, xs = [x, .ty n] ∧ TyOf K H x t ∧ PySem.W.kitOne K t (.type n) = some b ∧ Q (.bl b) H
theorem cI_isinst : CallR X (.builtin "isinstance") (rIsi X.K) := call_isinst
theorem rd_isi {x : V} {n : String} {t : Value} {b : Bool} (ty : TyOf K H x t) (e : PySem.W.kitOne K t (.type n) = some b) (h : Q (.bl b) H) : rIsi K [x, .ty n] H Q := ⟨x, n, t, b, rfl, ty, e, h⟩
def rLen (K : PySem.W.Frag) : List V → Hp → VK → Prop := fun xs H Q => ∃ p ys, xs = [.ref p] ∧ (SqL K H p ys ∨ SqT K H p ys) ∧ Q (.int ys.length) H
theorem cI_len : CallR X (.builtin "len") (rLen X.K) := call_len_seq
theorem rd_lenL {p : Addr} {ys : List V} (h : H p = some (.lst ys)) (q : Q (.int ys.length) H) : rLen K [.ref p] H Q := ⟨p, ys, rfl, .inl (SqL.of h), q⟩
theorem rd_lenT {p : Addr} {ys : List V} (h : H p = some (.tup ys)) (q : Q (.int ys.length) H) : rLen K [.ref p] H Q := ⟨p, ys, rfl, .inr (SqT.of h), q⟩
def rAll (K : PySem.W.Frag) : List V → Hp → VK → Prop := fun xs H Q => ∃ (p : Addr) (bs : List Bool), xs = [.ref p] ∧ SqL K H p (bs.map V.bl) ∧ Q (.bl (bs.all id)) H
theorem cI_all (hc : X.calm = true) : CallR X (.builtin "all") (rAll X.K) := call_all_bl hc
theorem rd_all {p : Addr} {bs : List Bool} (h : H p = some (.lst (bs.map V.bl))) (q : Q (.bl (bs.all id)) H) : rAll K [.ref p] H Q := ⟨p, bs, rfl, SqL.of h, q⟩
def rSum (K : PySem.W.Frag) : List V → Hp → VK → Prop := fun xs H Q => ∃ (p : Addr) (ns : List Int), xs = [.ref p] ∧ (SqL K H p (ns.map V.int) ∨ SqT K H p (ns.map V.int)) ∧ SmallSum ns ∧ Q (.int ns.sum) H
theorem cI_sum (hc : X.calm = true) : CallR X (.builtin "sum") (rSum X.K) := call_sum_seq hc
theorem rd_sumL {p : Addr} {ns : List Int} (h : H p = some (.lst (ns.map V.int))) (s : SmallSum ns) (q : Q (.int ns.sum) H) : rSum K [.ref p] H Q := ⟨p, ns, rfl, .inl (SqL.of h), s, q⟩
def rAbs : List V → Hp → VK → Prop := fun xs H Q => ∃ i, xs = [.int i] ∧ Q (.int (if i < 0 then -i else i)) H
theorem cI_abs : CallR X (.builtin "abs") rAbs := call_abs
theorem rd_abs {i : Int} (q : Q (.int (if i < 0 then -i else i)) H) : rAbs [.int i] H Q := ⟨i, rfl, q⟩
def rMin2 : List V → Hp → VK → Prop := fun xs H Q => ∃ i j, xs = [.int i, .int j] ∧ Q (.int (if j < i then j else i)) H
def rList (K : PySem.W.Frag) : List V → Hp → VK → Prop := fun xs H Q => ∃ p ys, xs = [.ref p] ∧ (SqL K H p ys ∨ SqT K H p ys) ∧ ∀ l, H l = none → Q (.ref l) (upd H l (.lst ys))
theorem cI_list : CallR X (.type "list") (rList X.K) := call_list_of
theorem rd_listL {p : Addr} {ys : List V} (h : H p = some (.lst ys)) (q : ∀ l, H l = none → Q (.ref l) (upd H l (.lst ys))) : rList K [.ref p] H Q := ⟨p, ys, rfl, .inl (SqL.of h), q⟩
def rTuple (K : PySem.W.Frag) : List V → Hp → VK → Prop := fun xs H Q => ∃ p ys, xs = [.ref p] ∧ ((SqL K H p ys ∧ ∀ l, H l = none → Q (.ref l) (upd H l (.tup ys))) ∨ (SqT K H p ys ∧ Q (.ref p) H))
def rInt1 : List V → Hp → VK → Prop := fun xs H Q => (∃ i, xs = [.int i] ∧ Q (.int i) H) ∨ ∃ k, xs = [.bl k] ∧ Q (.int (if k then 1 else 0)) H
theorem cI_int : CallR X (.type "int") rInt1 := call_int1
theorem rd_intB {b : Bool} (q : Q (.int (if b then 1 else 0)) H) : rInt1 [.bl b] H Q := .inr ⟨b, rfl, q⟩
/-! attributes, methods, appends -/
def rFld (K : PySem.W.Frag) (f : Str) : V → Hp → VK → Prop := fun x H1 Q => ∃ a C dx fs v, x = .ref a ∧ H1 a = some (.ins C dx fs) ∧ Cls K C ∧ NoAttr K C f ∧ fs.lookup f = some v ∧ Q v H1
def rMeth (C : Addr) (m : Str) : V → Hp → Prop → Prop := fun x H1 q => ∃ a dx fs, x = .ref a ∧ H1 a = some (.ins C dx fs) ∧ fs.lookup m = none ∧ q
def rBM (K : PySem.W.Frag) (T : String) : V → Hp → Prop → Prop := fun x H1 q => tyV K T x H1 ∧ q
theorem rd_bm {T : String} {r : V → List V → Hp → VK → Prop} {to : TE} {t : TA} (h : to σ H fun x H1 => rBM K T x H1 (t σ H1 fun xs H2 => r x xs H2 Q)) : tBM K T r to t σ H Q := h
theorem rd_bmL {l : Addr} {xs : List V} {q : Prop} (h : H l = some (.lst xs)) (hq : q) : rBM K "list" (.ref l) H q := ⟨.inl ⟨rfl, _, SqL.of h⟩, hq⟩
theorem rd_append {l : Addr} {xs : List V} {y : V} (h : H l = some (.lst xs)) (z : xs.length < sizeLine) (q : Q .non (upd H l (.lst (xs ++ [y])))) : rAppend (.ref l) [y] H Q := ⟨l, xs, y, rfl, rfl, h, z, q⟩
theorem rd_sl {r : V → Option Int → Option Int → Hp → VK → Prop} {te : TE} {tl th : TO} (h : te σ H fun x H1 => tl σ H1 fun l H2 => th σ H2 fun u H3 => r x l u H3 Q) : tSl r te tl th σ H Q := h
theorem rd_nopart {Q : Option Int → Hp → Prop} (h : Q none H) : tNoPart σ H Q := h
theorem rd_part {t : TE} {Q : Option Int → Hp → Prop} (h : t σ H fun x H1 => ∃ i, x = .int i ∧ Q (some i) H1) : tPart t σ H Q := h
theorem rd_slL {a : Addr} {xs : List V} {lo hi : Option Int} (h : H a = some (.lst xs)) (q : ∀ p, H p = none → Q (.ref p) (upd H p (.lst (cutV xs lo hi)))) : rSlL K (.ref a) lo hi H Q := ⟨a, xs, rfl, SqL.of h, q⟩
def ForW (J : It) (g : TG) (tb : TS) (D : Ends) (σ : St) (H1 : Hp) : Prop := ∃ W : Nat → Nat → St → Hp → Prop, (∃ m, W 0 m σ H1) ∧ ∀ i m σ H, W i m σ H →
  (J.stop i H ∧ D.nx σ H) ∨ (J.go i H ∧ ∃ N : St → Hp → Prop, (∀ σ' H', N σ' H' → ∃ m', m' < m ∧ W (i + 1) m' σ' H') ∧ ∀ x H', J.yld i H x H' → g x σ H' fun σ2 H2 => tb { D with nx := N, ct := N, bk := D.nx } σ2 H2)
theorem rd_for {wi : TI} {g : TG} {tb : TS} {D : Ends} (h : wi σ H fun J H1 => ForW J g tb D σ H1) : tFor wi g tb D σ H := h
theorem forW_list {a : Addr} {xs : List V} {g : TG} {tb : TS} {D : Ends} (Pv : Nat → St → Hp → Prop) (h0 : Pv 0 σ H) (hl : ∀ i σ H, i ≤ xs.length → Pv i σ H → SqL K H a xs)
    (hs : ∀ i x σ H, xs[i]? = some x → Pv i σ H → g x σ H fun σ2 H2 => tb { D with nx := Pv (i + 1), ct := Pv (i + 1), bk := D.nx } σ2 H2) (hd : ∀ σ H, Pv xs.length σ H → D.nx σ H) : ForW (Itl K a) g tb D σ H := for_list Pv h0 hl hs hd
theorem forW_range {lo : Int} {n : Nat} {g : TG} {tb : TS} {D : Ends} (Pv : Nat → St → Hp → Prop) (h0 : Pv 0 σ H)
    (hs : ∀ i σ H, i < n → Pv i σ H → g (.int (lo + i)) σ H fun σ2 H2 => tb { D with nx := Pv (i + 1), ct := Pv (i + 1), bk := D.nx } σ2 H2) (hd : ∀ σ H, Pv n σ H → D.nx σ H) : ForW (Itr lo n) g tb D σ H := for_range Pv h0 hs hd
theorem rd_rng1 {ta : TA} {R : It → Hp → Prop} (h : ta σ H fun vs H1 => ∃ j : Int, vs = [.int j] ∧ -(2 ^ 62) ≤ j ∧ j < 2 ^ 62 ∧ R (Itr 0 j.toNat) H1) : iRng1 ta σ H R := h
theorem rd_ilist {tl : TE} {R : It → Hp → Prop} (h : tl σ H fun x H1 => ∃ a, x = .ref a ∧ (∃ xs, SqL K H1 a xs) ∧ R (Itl K a) H1) : iList K tl σ H R := h
end
/-- an item of a list of ints, by its place -/
theorem atI_ints {zs : List Int} {i : Int} (h0 : 0 ≤ i) (h1 : i < zs.length) : atI (zs.map V.int) i = some (.int (zs.getD i.toNat 0)) := by
  obtain ⟨k, rfl⟩ : ∃ k : Nat, i = (k : Int) := ⟨i.toNat, by omega⟩
  refine atI_nat ?_
  have hk : k < zs.length := by omega
  simp [hk]
/-- a fresh object keeps all that was -/
theorem Same.new {H : Hp} {p : Addr} {o : HO} (h : H p = none) : Same H (upd H p o) := fun b u e => by rw [upd_ne (ne_of_none e h)]; exact e
/-- a store into what is younger than H0 -/
theorem Same.later {H0 H : Hp} {p : Addr} {o : HO} (s : Same H0 H) (h : H0 p = none) : Same H0 (upd H p o) := fun b u e => by rw [upd_ne (ne_of_none e h)]; exact s b u e
end L2

set_option Elab.async false
set_option maxRecDepth 100000
namespace L2
open PySem PySem.Spec PyProof.Rows
theorem iteNN {b : Bool} {A B : Prop} (h : if b = true then B else A) : if (!b) = true then A else B := by cases b <;> exact h
section
variable {prog : Program} {w : World} {A : Around} {E : Value → Shared → Prop} {s : Shared}
end
/-- t[lo:hi], all of it or a part -/
def rSlT' (K : PySem.W.Frag) : V → Option Int → Option Int → Hp → VK → Prop := fun x lo hi H Q => ∃ a xs, x = .ref a ∧ H a = some (.tup xs) ∧ ∀ H1 p, Same H H1 → H1 p = some (.tup (cutV xs lo hi)) → Q (.ref p) H1
def CompW (J : It) (g : TG) (tt : TT) (te : TE) (cap : List (Option Nat)) (l : Addr) (σ : St) (H1 : Hp) (Q : VK) : Prop :=
  ∃ (n : Nat) (Pv : Nat → List V → St → Hp → Prop), Pv 0 [] (capS cap σ) (upd H1 l (.lst [])) ∧
    (∀ i ys σ' H', i < n → Pv i ys σ' H' → J.go i H' ∧ ∀ x H2, J.yld i H' x H2 → g x σ' H2 fun σ3 H3 => tt σ3 H3 fun b H4 =>
      if b = true then te σ3 H4 fun y H5 => H5 l = some (.lst ys) ∧ ys.length < sizeLine ∧ Pv (i + 1) (ys ++ [y]) σ3 (upd H5 l (.lst (ys ++ [y]))) else Pv (i + 1) ys σ3 H4) ∧
    ∀ ys σ' H', Pv n ys σ' H' → J.stop n H' ∧ Q (.ref l) H'
section
variable {K : PySem.W.Frag} {σ : St} {H : Hp} {Q : VK} {te : TE} {cap : List (Option Nat)} {l : Addr}
theorem rd_comp {wi : TI} {g : TG} {tt : TT} (h : wi σ H fun J H1 => ∀ l, H1 l = none → CompW J g tt te cap l σ H1 Q) : tComp wi g tt te cap σ H Q := h
theorem take_succ_map {α β : Type} (F : α → β) (xs : List α) (i : Nat) {x : α} (h : xs[i]? = some x) : (xs.take (i + 1)).map F = (xs.take i).map F ++ [F x] := by
  rw [List.take_add_one, h, List.map_append]
  rfl
/-- over a list, each item's value F x, the heap may grow -/
theorem compW_list {a : Addr} {xs : List V} (F : V → V) (hs : SqL K H a xs) (hz : xs.length ≤ 1000) (hl : H l = none)
    (step : ∀ x o H' (Q' : VK), x ∈ xs → Same H H' → (∀ H5, Same H' H5 → Q' (F x) H5) → te (((capS (none :: cap) σ).set 0 o).set 0 (some x)) H' Q')
    (fin : ∀ H', Same H H' → H' l = some (.lst (xs.map F)) → Q (.ref l) H') : CompW (Itl K a) (gName 0) tTrue te (none :: cap) l σ H Q := by
  refine ⟨xs.length, fun i ys σ' H' => ys = (xs.take i).map F ∧ (∃ o, σ' = (capS (none :: cap) σ).set 0 o) ∧ Same H H' ∧ H' l = some (.lst ys), ⟨rfl, ⟨none, rfl⟩, Same.new hl, upd_same⟩, ?_, ?_⟩
  · rintro i ys σ' H' hi ⟨rfl, ⟨o, rfl⟩, s, e⟩
    refine ⟨⟨xs, xs[i], s.seq hs, by simp [hi]⟩, fun x H2 y => ?_⟩
    obtain ⟨e2, y⟩ := y
    subst e2
    have hx := y xs (s.seq hs)
    refine rd_name (rd_true (iteT ?_))
    refine step x o H2 _ (List.mem_of_getElem? hx) s fun H5 s5 => ⟨s5 _ _ e, ?_, ?_⟩
    · rw [List.length_map, List.length_take]
      exact small1000 (by omega)
    · exact ⟨(take_succ_map F xs i hx).symm, ⟨_, List.set_set ..⟩, (s.trans s5).later hl, upd_same⟩
  · rintro ys σ' H' ⟨rfl, _, s, e⟩
    rw [List.take_of_length_le (Nat.le_refl _)] at e
    exact ⟨⟨xs, s.seq hs, Nat.le_refl _⟩, fin H' s e⟩
/-- over a range from nought -/
theorem compW_range {n : Nat} (F : Nat → V) (hz : n ≤ 1000) (hl : H l = none)
    (step : ∀ i o H' (Q' : VK), i < n → Same H H' → (∀ H5, Same H' H5 → Q' (F i) H5) → te (((capS (none :: cap) σ).set 0 o).set 0 (some (.int ((0 : Int) + (i : Nat))))) H' Q')
    (fin : ∀ H', Same H H' → H' l = some (.lst ((List.range n).map F)) → Q (.ref l) H') : CompW (Itr 0 n) (gName 0) tTrue te (none :: cap) l σ H Q := by
  refine ⟨n, fun i ys σ' H' => ys = (List.range i).map F ∧ (∃ o, σ' = (capS (none :: cap) σ).set 0 o) ∧ Same H H' ∧ H' l = some (.lst ys), ⟨rfl, ⟨none, rfl⟩, Same.new hl, upd_same⟩, ?_, ?_⟩
  · rintro i ys σ' H' hi ⟨rfl, ⟨o, rfl⟩, s, e⟩
    refine ⟨hi, fun x H2 y => ?_⟩
    obtain ⟨e2, rfl⟩ := y
    subst e2
    refine rd_name (rd_true (iteT ?_))
    refine step i o H2 _ hi s fun H5 s5 => ⟨s5 _ _ e, ?_, ?_⟩
    · rw [List.length_map, List.length_range]
      exact small1000 (by omega)
    · refine ⟨?_, ⟨_, List.set_set ..⟩, (s.trans s5).later hl, upd_same⟩
      rw [List.range_succ, List.map_append]
      rfl
  · rintro ys σ' H' ⟨rfl, _, s, e⟩
    exact ⟨Nat.le_refl _, fin H' s e⟩
def rSFld (K : PySem.W.Frag) (f : Str) (y x : V) (H2 : Hp) (k : Hp → Prop) : Prop := ∃ a C dx fs, x = .ref a ∧ H2 a = some (.ins C dx fs) ∧ Cls K C ∧ NoAttr K C f ∧ fs.length < 1000 ∧ k (upd H2 a (.ins C dx (putF f y fs)))
def WhileW (c : TT) (tb : TS) (D : Ends) (σ : St) (H : Hp) : Prop := ∃ W : Nat → St → Hp → Prop, (∃ m, W m σ H) ∧ ∀ m σ H, W m σ H →
  c σ H fun b H1 => if b = true then ∃ N : St → Hp → Prop, (∀ σ' H', N σ' H' → ∃ m', m' < m ∧ W m' σ' H') ∧ tb { D with nx := N, ct := N, bk := D.nx } σ H1 else D.nx σ H1
theorem rd_while {D : Ends} {c : TT} {tb : TS} (h : WhileW c tb D σ H) : tWhile c tb D σ H := h
theorem rd_gtup {n : Nat} {tt : TGs} {a : Addr} {xs : List V} {QS : St → Hp → Prop} (h : H a = some (.tup xs)) (hl : xs.length = n) (q : tt xs σ H QS) : gTup K n tt (.ref a) σ H QS := ⟨a, xs, rfl, SqT.of h, hl, q⟩
theorem rd_gcons {tg : TG} {u : TGs} {v : V} {r : List V} {QS : St → Hp → Prop} (h : tg v σ H fun σ' H' => u r σ' H' QS) : gCons tg u (v :: r) σ H QS := ⟨v, r, rfl, h⟩
theorem rd_gnil {QS : St → Hp → Prop} (h : QS σ H) : gNil [] σ H QS := ⟨rfl, h⟩
theorem rd_setl {a : Addr} {xs : List V} {k : Int} {j : Nat} {v : V} {QH : Hp → Prop} (h : H a = some (.lst xs)) (e : ixN xs.length k = some j) (q : QH (upd H a (.lst (xs.set j v)))) : rSetL (.ref a) (.int k) v H QH := ⟨a, xs, k, j, rfl, rfl, h, e, q⟩
theorem rd_gsub {to ti : TE} {ts : TSet} {v : V} {QS : St → Hp → Prop} (h : to σ H fun o H1 => ti σ H1 fun i H2 => ts o i v H2 fun H3 => QS σ H3) : gSub to ti ts v σ H QS := h
end
section
variable {X : Cx} (K : PySem.W.Frag) (h : X.K = K)
include h
theorem ix_listK : IxR X (rIxL K) := h ▸ ix_list
theorem ix_tupK : IxR X (rIxT K) := h ▸ ix_tup
theorem cI_isinstK : CallR X (.builtin "isinstance") (rIsi K) := h ▸ cI_isinst
theorem cI_lenK : CallR X (.builtin "len") (rLen K) := h ▸ cI_len
theorem cI_allK (hc : X.calm = true) : CallR X (.builtin "all") (rAll K) := h ▸ cI_all hc
theorem cI_sumK (hc : X.calm = true) : CallR X (.builtin "sum") (rSum K) := h ▸ cI_sum hc
theorem cI_listK : CallR X (.type "list") (rList K) := h ▸ cI_list
theorem sl_listK : SlR X (rSlL K) := h ▸ sl_list
end
theorem cutV_drop {zs : List Int} {k : Nat} : cutV (zs.map V.int) (some (k : Int)) none = (zs.drop k).map V.int := by
  unfold cutV
  rw [HT.sIx_none, HT.sIx_nat, List.length_map]
  rcases Nat.le_total k zs.length with h | h
  · rw [Nat.min_eq_left h, ← List.map_drop, List.take_of_length_le (by rw [List.length_map, List.length_drop]; omega)]
  · rw [Nat.min_eq_right h, List.drop_eq_nil_of_le h, Nat.sub_self, List.take_zero]; rfl
theorem getD_mem {α : Type} {zs : List α} {k : Nat} {d : α} (h : k < zs.length) : zs.getD k d ∈ zs := by
  rw [List.getD_eq_getElem?_getD, List.getElem?_eq_getElem h]
  exact List.getElem_mem h
end L2

set_option Elab.async false
set_option maxRecDepth 100000
namespace L2
open PySem PySem.Spec PyProof.Rows
theorem pg_tupK {X : Cx} (K : PySem.W.Frag) (hK : X.K = K) {es : List Expr} {k : Nat} {t : TGs} {n : Nat} {pos : Pos} (hc : X.calm = true) (h : PGs X es t)
    (hn : (assignEach es X.env).length = n := by rfl) (hst : (assignEach es X.env).findIdx? (·.1) = none := by rfl) : PG X (.Tuple es k pos) (gTup K n t) := hK ▸ pg_tup hc h hn hst
theorem repL_ints {H : Hp} : ∀ (ns : List Int), RepL H (ns.map PyData.int) (ns.map V.int)
  | [] => by simp only [List.map_nil, RepL]
  | n :: r => by
    simp only [List.map_cons, RepL, Rep]
    exact ⟨_, _, rfl, rfl, repL_ints r⟩
theorem rep_ints {H : Hp} {a : Addr} {ns : List Int} (h : H a = some (.lst (ns.map V.int))) : Rep H (.list (ns.map PyData.int)) (.ref a) := by
  simp only [Rep]
  exact ⟨a, _, rfl, h, repL_ints ns⟩
theorem eqv_ints : ∀ ns ms : List Int, PyData.eqvAll (ns.map PyData.int) (ms.map PyData.int) = decide (ns = ms)
  | [], [] => by simp [PyData.eqvAll]
  | [], _ :: _ => by simp [PyData.eqvAll]
  | _ :: _, [] => by simp [PyData.eqvAll]
  | a :: r, b :: u => by
    simp only [List.map_cons, PyData.eqvAll, PyData.eqv, eqv_ints r u]
    by_cases h : a = b <;> by_cases h' : r = u <;> simp [h, h']
theorem repL_get {H : Hp} : ∀ {ds : List PyData} {xs : List V}, RepL H ds xs → ds.length = xs.length ∧ ∀ (i : Nat) x, xs[i]? = some x → ∃ d, ds[i]? = some d ∧ Rep H d x
  | [], xs, h => by simp only [RepL] at h; subst h; exact ⟨rfl, fun i x e => by simp at e⟩
  | d :: ds, xs, h => by
    simp only [RepL] at h
    obtain ⟨x, r, rfl, h1, h2⟩ := h
    obtain ⟨l, g⟩ := repL_get h2
    refine ⟨by simp [l], fun i y e => ?_⟩
    cases i with
    | zero => simp at e; subst e; exact ⟨d, rfl, h1⟩
    | succ i => exact g i y (by simpa using e)
end L2

set_option Elab.async false
set_option maxRecDepth 100000
namespace L2
open PySem PySem.Spec PyProof.Rows
/-- an exception that flies: its records are no object of g (the heap at the entry), none of them is tracked -/
structure Exc (g h : Heap) (H : Hp) (e C : Addr) : Prop where
  tr : h.Traced g e (.ref C)
  ne : g.get? e = none
  he : H e = none
  hT : ∀ oe vs T, h.get? e = some oe → oe.data = .fields vs → vs[1]? = some (.ref T) → H T = none
def CX1 (P : Program) (w : World) : CXT := fun outer H s E x s' => ∃ (e C : Addr) (H' : Hp), x = .ref e ∧ s'.os = s.os ∧ AllBare s'.gens ∧ Un (frs outer) [] H H' s.heap s'.heap ∧ HOk P w H' s'.heap ∧ Exc s.heap s'.heap H' e C ∧ E (.ref C) none H'
section
variable {X : Cx} {pins : List (Addr × Obj)} {σ : St} {H : Hp} {s : Shared}
/-- what a step that notes a frame leaves: all but the frames and the records at es -/
theorem Inv.left {h' : Heap} {es : List Addr} (I : Inv X pins σ H s) (hs : X.stack = X.env :: X.outer) (he : ∀ b ∈ es, H b = none ∧ X.s₀.heap.get? b = none)
    (keep : ∀ b o, s.heap.get? b = some o → b ∉ frs X.stack → b ∉ es → h'.get? b = some o) (slot : ∀ b o, s.heap.get? b = some o → b ∈ frs X.stack → ∃ sl, h'.get? b = some { o with slots := sl }) : Un X.fs X.ex X.H₀ H X.s₀.heap h' ∧ HOk X.prog X.w H h' := by
  have sub : ∀ b ∈ X.fs, b ∈ frs X.stack := fun b hb => by
    rw [hs]; unfold frs; rw [List.filterMap_cons]
    cases X.env.frame with
    | none => exact hb
    | some f => exact List.mem_cons_of_mem _ hb
  have nfr : ∀ b u, H b = some u → b ∉ frs X.stack := fun b u e z => by rw [I.stkFree b z] at e; cases e
  have nes : ∀ b u, H b = some u → b ∉ es := fun b u e z => by rw [(he b z).1] at e; cases e
  have neL : ∀ b o, X.s₀.heap.get? b = some o → b ∉ X.fs → b ∉ frs X.stack := fun b o e hb z => by
    rcases List.mem_cons.mp (I.stkSub b z) with q | q
    · exact absurd (Nat.lt_of_lt_of_le (Heap.lt_size e) (q ▸ I.ok.above)) (Nat.lt_irrefl _)
    · exact hb q
  have ne0 : ∀ b o, X.s₀.heap.get? b = some o → b ∉ es := fun b o e z => by rw [(he b z).2] at e; cases e
  refine ⟨⟨fun b o e n hb hx => keep b o (I.base.keep b o e n hb hx) (neL b o e hb) (ne0 b o e), fun b o e n hb hx => ?_, I.base.free, fun b o e hx => ?_, I.base.tups, I.base.frzs, I.base.tbls⟩, fun b u e => ?_⟩
  · obtain ⟨sl, e1⟩ := I.base.slot b o e n hb hx
    obtain ⟨sl', e2⟩ := slot b _ e1 (sub b hb)
    exact ⟨sl', e2⟩
  · obtain ⟨o', e1⟩ := I.base.there b o e hx
    by_cases hf : b ∈ frs X.stack
    · obtain ⟨sl, e2⟩ := slot b o' e1 hf
      exact ⟨_, e2⟩
    · exact ⟨o', keep b o' e1 hf (ne0 b o e)⟩
  · refine (I.hok b u e).stay (fun c v hc q => ?_) (fun _ q => q) fun _ _ q => q
    rcases hc with z | z
    · rw [z] at q ⊢; exact keep b v q (nfr b u e) (nes b u e)
    · exact keep c v q (nfr c _ z) (nes c _ z)
end
theorem ObjOk.get {P : Program} {w : World} {H : Hp} {h : Heap} {a : Addr} {o : HO} (x : ObjOk P w H h a o) : ∃ ob, h.get? a = some ob := by
  cases o with
  | lst xs => obtain ⟨_, _, _, _, e⟩ := x; exact ⟨_, e⟩
  | tup xs => obtain ⟨_, _, _, p⟩ := x; obtain ⟨o, e, _⟩ := p; exact ⟨_, e⟩
  | dK kvs => obtain ⟨_, _, _, _, o, _, _, e, _⟩ := x; exact ⟨_, e⟩
  | dT kvs => obtain ⟨_, _, _, _, o, _, _, e, _⟩ := x; exact ⟨_, e⟩
  | set S n => obtain ⟨o, _, _, _, e, _⟩ := x; exact ⟨_, e⟩
  | ins C dx fs => obtain ⟨_, _, _, e, _⟩ := x; exact ⟨_, e⟩
  | own y => obtain ⟨_, e⟩ := x; exact ⟨_, e⟩
  | xd fs => obtain ⟨_, ⟨_, _, _, e, _⟩, _⟩ := x; exact ⟨_, e⟩
  | rng lo hi => obtain ⟨_, _, _, e⟩ := x; exact ⟨_, e⟩
  | frz ob u => obtain ⟨e, _⟩ := x; exact ⟨_, e⟩
  | tbl ps => exact ⟨_, (show h.get? a = some _ from x)⟩
  | met f y => exact ⟨_, (show h.get? a = some _ from x)⟩
  | ext φ => obtain ⟨_, ⟨_, e⟩, _⟩ := x; exact ⟨_, e⟩
theorem HOk.none_of {P : Program} {w : World} {H : Hp} {h : Heap} {a : Addr} (k : HOk P w H h) (e : h.get? a = none) : H a = none := by
  cases q : H a with
  | none => rfl
  | some o => obtain ⟨_, z⟩ := (k a o q).get; rw [e] at z; cases z
section
variable {P : Program} {w : World} {K : PySem.W.Frag} {mg : Str → Option Value} {base : Heap} {N : List Str} {qual : Str} {scope : Scope} {f : Addr} {cd : Value} {A : Around} {outer : List Env} {s₀ : Shared} {H₀ : Hp} {E : XK} {pins : List (Addr × Obj)} {σ : St} {H : Hp} {s : Shared}
theorem stack_in {l : List Env} {as : List Addr} (h : ∀ b ∈ frs l, b ∈ as) : ∀ env ∈ l, ∀ a, env.frame = some a → a ∈ as := fun env he a ha => h a (List.mem_filterMap.mpr ⟨env, he, ha⟩)
/-- an exception just made leaves the body -/
theorem xe_new {h' : Heap} {t' : Nat} {e C : Addr} {vs : List Value} (I : Inv (cxOf (CX1 P w) P w K mg base N qual scope f cd A outer s₀ H₀ E) pins σ H s) (hx : Heap.MadeExcOf s.heap h' e (.ref C) vs) (q : E (.ref C) none H) :
    (cxOf (CX1 P w) P w K mg base N qual scope f cd A outer s₀ H₀ E).xe (.ref e) { s with heap := h', toks := t' } := by
  have I1 := I.kept (t' := t') hx.keeps
  obtain ⟨t, he, ht, _⟩ := hx.there
  have hs0 : s₀.heap.get? e = none := by
    cases z : s₀.heap.get? e with
    | none => rfl
    | some o => obtain ⟨o', z'⟩ := I.base.there e o z (by intro q; cases q); rw [hx.new] at z'; cases z'
  have hHe : H e = none := I.hok.none_of hx.new
  have ff := I1.stack
  have hl := PySem.W.funFrames_hide (as := e :: frs (cxOf (CX1 P w) P w K mg base N qual scope f cd A outer s₀ H₀ E).stack) ff (stack_in fun b hb => List.mem_cons_of_mem _ hb)
  refine wpAny_leaving_first (base := PySem.W.hideAll h' (e :: frs (cxOf (CX1 P w) P w K mg base N qual scope f cd A outer s₀ H₀ E).stack)) (L := s₀.heap.objs.size) (e := e) (s := { s with heap := h', toks := t' }) I.ok.frames hl rfl he (fun b o z => ?_) (PySem.W.hideAll_none _ List.mem_cons_self) rfl rfl fun h2 lf => ?_
  · exact PySem.W.of_hideAll _ z
  · obtain ⟨st, ff2, tr, up⟩ := lf
    have lf := I1.left (h' := h2) (es := [e]) rfl (fun b hb => by rw [List.mem_singleton.mp hb]; exact ⟨hHe, hs0⟩) (fun b o z nf ne => st b o (PySem.W.hideAll_get _ z (by intro m; rcases List.mem_cons.mp m with r | r; exact ne (by simp [r]); exact nf r)))
      (fun b o z hb => by
        obtain ⟨_, o', z', hd⟩ := ff.mem hb
        rw [z] at z'; cases z'
        exact up b o z hd)
    obtain ⟨oe, ws, T, oT, ts, g1, g2, g3, g4, g5, g6, g7, g8, g9⟩ := tr
    have nT : T ∉ frs (cxOf (CX1 P w) P w K mg base N qual scope f cd A outer s₀ H₀ E).stack := fun z => by
      obtain ⟨_, o, zo, hd⟩ := ff2.mem z
      rw [g7] at zo; cases zo
      exact hd ts g8
    have key : ∀ o, h'.get? T = some o → False := fun o z => by
      rw [PySem.W.hideAll_get _ z (by intro m; rcases List.mem_cons.mp m with r | r; exact g6 r; exact nT r)] at g5
      cases g5
    have hT0 : s₀.heap.get? T = none := by
      cases z : s₀.heap.get? T with
      | none => rfl
      | some o => obtain ⟨o', z'⟩ := I1.base.there T o z (by intro q; cases q); exact (key o' z').elim
    have hHT : H T = none := by
      cases z : H T with
      | none => rfl
      | some o => obtain ⟨o', z'⟩ := (I1.hok T o z).get; exact (key o' z').elim
    refine ⟨e, C, H, rfl, I.os, I.bare, lf.1, lf.2, ⟨⟨oe, ws, T, oT, ts, g1, g2, g3, g4, hT0, g6, g7, g8, g9⟩, hs0, hHe, fun oe' vs' T' z1 z2 z3 => ?_⟩, q⟩
    rw [g1] at z1; cases z1
    rw [g3] at z2; cases z2
    rw [g4] at z3; cases z3
    exact hHT
/-- a callee's exception leaves the body too -/
theorem pass1 : Passes (CX1 P w) (cxOf (CX1 P w) P w K mg base N qual scope f cd A outer s₀ H₀ E) E := by
  intro pins σ H s x s' I h
  obtain ⟨e, C, H', rfl, os, bare, un, hok, ex, q⟩ := h
  have J := I.call' (s' := s') (ch := []) os un hok bare (fun b hb => by cases hb)
  obtain ⟨⟨oe, ws, T, oT, ts, g1, g2, g3, g4, g5, g6, g7, g8, g9⟩, ne, hHe, hHT⟩ := ex
  have hHT := hHT oe ws T g1 g3 g4
  have s0 : ∀ {b : Addr}, s.heap.get? b = none → s₀.heap.get? b = none := fun {b} hb => by
    cases z : s₀.heap.get? b with
    | none => rfl
    | some o => obtain ⟨o', z'⟩ := I.base.there b o z (by intro q; cases q); rw [hb] at z'; cases z'
  have ff := J.stack
  have hl := PySem.W.funFrames_hide (as := e :: T :: frs (cxOf (CX1 P w) P w K mg base N qual scope f cd A outer s₀ H₀ E).stack) ff (stack_in fun b hb => List.mem_cons_of_mem _ (List.mem_cons_of_mem _ hb))
  refine wpAny_leaving_next (base := PySem.W.hideAll s'.heap (e :: T :: frs (cxOf (CX1 P w) P w K mg base N qual scope f cd A outer s₀ H₀ E).stack)) (L := s₀.heap.objs.size) (e := e) (s := s') J.ok.frames hl rfl
    ⟨oe, ws, T, oT, ts, g1, g2, g3, g4, PySem.W.hideAll_none _ (List.mem_cons_of_mem _ List.mem_cons_self), g6, g7, g8, g9⟩ (fun b o z => PySem.W.of_hideAll _ z) (PySem.W.hideAll_none _ List.mem_cons_self) fun h2 lf => ?_
  obtain ⟨st, ff2, tr, up⟩ := lf
  have lf := J.left (h' := h2) (es := [e, T]) rfl (fun b hb => by
      simp only [List.mem_cons, List.not_mem_nil, or_false] at hb
      rcases hb with rfl | rfl
      · exact ⟨hHe, s0 ne⟩
      · exact ⟨hHT, s0 g5⟩) (fun b o z nf ne => st b o (PySem.W.hideAll_get _ z (by
        intro m
        rcases List.mem_cons.mp m with r | m
        · exact ne (by simp [r])
        · rcases List.mem_cons.mp m with r | r
          · exact ne (by simp [r])
          · exact nf r)))
      (fun b o z hb => by
        obtain ⟨_, o', z', hd⟩ := ff.mem hb
        rw [z] at z'; cases z'
        exact up b o z hd)
  obtain ⟨oe2, ws2, T2, oT2, ts2, k1, k2, k3, k4, k5, k6, k7, k8, k9⟩ := tr
  have nT : T2 ∉ frs (cxOf (CX1 P w) P w K mg base N qual scope f cd A outer s₀ H₀ E).stack := fun z => by
    obtain ⟨_, o, zo, hd⟩ := ff2.mem z
    rw [k7] at zo; cases zo
    exact hd ts2 k8
  have hT0 : s₀.heap.get? T2 = none ∧ H' T2 = none := by
    by_cases r : T2 = T
    · subst r; exact ⟨s0 g5, hHT⟩
    · have key : ∀ o, s'.heap.get? T2 = some o → False := fun o z => by
        rw [PySem.W.hideAll_get _ z (by
          intro m
          rcases List.mem_cons.mp m with q | m
          · exact k6 q
          · rcases List.mem_cons.mp m with q | q
            · exact r q
            · exact nT q)] at k5
        cases k5
      constructor
      · cases z : s₀.heap.get? T2 with
        | none => rfl
        | some o => obtain ⟨o', z'⟩ := J.base.there T2 o z (by intro q; cases q); exact (key o' z').elim
      · cases z : H' T2 with
        | none => rfl
        | some o => obtain ⟨o', z'⟩ := (J.hok T2 o z).get; exact (key o' z').elim
  refine ⟨e, C, H', rfl, J.os, J.bare, lf.1, lf.2, ⟨⟨oe2, ws2, T2, oT2, ts2, k1, k2, k3, k4, hT0.1, k6, k7, k8, k9⟩, s0 ne, hHe, fun oe' vs' T' z1 z2 z3 => ?_⟩, q⟩
  rw [k1] at z1; cases z1
  rw [k3] at z2; cases z2
  rw [k4] at z3; cases z3
  exact hT0.2
end
end L2

set_option Elab.async false
set_option maxRecDepth 100000
namespace L2
open PySem PySem.Spec PyProof.Rows
def tRaise (C : Addr) (E : XK) (t : TA) : TS := fun _ σ H => t σ H fun vs H1 => vs.length ≤ sizeLine ∧ E (.ref C) none H1
/-- raise C(e, ..), C an own class without an __init__ -/
theorem ps_raise {X : Cx} {E : XK} {x : Str} {C : Addr} {B newId initId : String} {bm : List Value} {np cpos pos : Pos} {e : Expr} {es : List Expr} {t : TA} (O : OwnCls x C bm newId X.mg X.base) (FB : ExcBaseFacts B newId initId bm) (hc : X.calm = true) (hg : Gl X x)
    (hx : ∀ (pins : List (Addr × Obj)) (σ : St) (H : Hp) (s : Shared) (h' : Heap) (t' : Nat) (e : Addr) (vs : List Value), Inv X pins σ H s → Heap.MadeExcOf s.heap h' e (.ref C) vs → E (.ref C) none H → X.xe (.ref e) { s with heap := h', toks := t' })
    (ha : PA X (e :: es) t) (hd : (x == ("__debug__" : Str)) = false := by decide) (he : starEach (e :: es) X.env = (false, eval e X.env) :: starEach es X.env := by rfl) (hpl : (backTo cpos (starEach es X.env)).any (·.1) = false := by rfl) :
    PS X (.Raise (some (.Call (.Name x np) (e :: es) [] cpos)) none pos) (tRaise C E t) := by
  intro pins s σ H D I h
  obtain ⟨tl, N, nm, q, bs, hdct, sn, sub, ab, col, dd, k0, k1, k2, k3, k5, mN, hC, hN, hni, T⟩ := O.obj
  refine wpAny_Raise_call_subT (C := C) (nm := nm) (q := q) (N := N) (bs := bs) (bm := tl) (hdct := hdct) (sn := sn) (sub := sub) (ab := ab) (col := col) (dd := dd) (k0 := k0) (k1 := k1) (k2 := k2) (k3 := k3) (k5 := k5)
    FB (mN := mN) (T.hasType FB.hasBase) (I.ok.hd hc) (by rw [he]; show (false || (backTo cpos (starEach es X.env)).any (·.1)) = false; rw [hpl]; rfl) hni (ld_glob I hg O.bound ⟨rfl, ?_⟩ hd)
  have h1 := ha cpos pins s σ H _ I h
  rw [he] at h1 ⊢
  refine Calls.evalArgs_plain (wpAny_mono h1 (fun us s2 ⟨vs, H2, I2, r2, hl, hE⟩ => ⟨rfl, by show us.length ≤ sizeLine; rw [← r2.length]; exact hl, I2.bk _ _ hC, hN.keeps I2.bk, T.keeps I2.bk, fun h' a mk => ?_⟩) fun _ _ y => y)
  exact hx pins σ H2 s2 h' s2.toks a us I2 mk hE
section
variable {P : Program} {w : World} {K : PySem.W.Frag} {mg : Str → Option Value} {base : Heap}
/-- THE RULE for a def that may raise -/
theorem Fun.ok1 {x qual : Str} {st : Stmt} {f : Addr} {fd : FuncData} {N ps : List Str} {k : Nat} {sp : Sp} (F : Fun K x qual st f fd) (S : FnScope N ps (defScope st)) (len : ∀ vs H Q E, sp vs H Q E → vs.length = ps.length)
    (hbody : ∀ (cdv : Value) (A : Around) (outer : List Env) (s : Shared) (H : Hp) (vs : List V) (Q : VK) (E : XK), Room k (A.deeper (envOfC qual (defScope st) s.heap.objs.size f cdv)) → sp vs H Q E →
      ∃ t, PSs (cxOf (CX1 P w) P w K mg base N qual (defScope st) f cdv A outer s H E) (defBody st) t ∧ t { nx := fun _ H' => Q .non H', rt := Q } (start N vs) H) : FnOk P w K mg base (CX1 P w) (k + 1) f fd ps sp := by
  obtain ⟨oc, od, kV, doc, pm, an, cdv, ct, osl, rfl, lk, hcd⟩ := F.ex
  exact fn_of lk hcd S len fun A outer s H vs Q E hr hsp => hbody cdv A outer s H vs Q E hr hsp
/-- a def that does not raise, called where it may be raised -/
theorem FnOk.up {k : Nat} {f : Addr} {fd : FuncData} {ps : List Str} {sp : Sp} (F : FnOk P w K mg base CX0 k f fd ps sp) : FnOk P w K mg base (CX1 P w) k f fd ps sp :=
  ⟨F.len, fun A outer s H args us vs Q E hr e0 hb hv hs => codeAny_mono (F.run A outer s H args us vs Q E hr e0 hb hv hs) fun r s' h => by
    cases r with
    | error e => exact False.elim h
    | ok fl => cases fl <;> exact h⟩
end
end L2

set_option Elab.async false
set_option maxRecDepth 100000
namespace L2
open PySem PySem.Spec PyProof.Rows PySem.W Builtin Builtin.ObjectAttr Builtin.Getset_descriptor
section
variable {prog : Program} {w : World} {A : Around} {E : Value → Shared → Prop} {s : Shared} {K : PySem.W.Frag} {x C : Addr} {R : Result → Shared → Prop}
/-- the class of a thing, by the word of its type alone -/
theorem cls_get {tp : Value} (X : K.In s.heap) (LT : Looks (model prog w) s.heap (typeOf (.ref x)) (.ref C)) (hm : mroIn K C (.type "object") = some true)
    (h : R (.ok (.ret (.ref C))) s) : codeAny (model prog w) A (.call (.builtin "getset_descriptor.__get__") ⟨[.builtin "object.__class__", .ref x, tp], []⟩) R s := by
  have L1 := looks_mroIn (M := model prog w) X hm; obtain ⟨hh, g, dr, t, os⟩ := s
  refine codeAny_call_builtin KF.slot_gs.plain KF.entry_gs (KF.slot_gs.check _ _ _ _ _ _ _ _ KF.type_class (KF.args_gs _ _ _) ?_); unfold Builtin.«getset_descriptor.__get__» descrGet; rw [dga_obj]
  refine wpAny_bind (wpAny_pure ?_); unfold descrGetter descrCheckInstance descrNameAndClass isInstance; simp only [KF.owner_class]
  repeat lk
  refine ⟨Code.quiet_builtin _ (by decide +kernel), codeAny_builtin KF.entry_class ?_⟩; unfold Builtin.«object.__class__» shownTypeOf
  repeat lk
  exact h
theorem exc_class {Q : Option Value → Shared → Prop} (X : K.In s.heap) (LT : Looks (model prog w) s.heap (typeOf (.ref x)) (.ref C))
    (hga : findIn K (.ref C) "__getattribute__" = some (some (.builtin "BaseException.__getattribute__"))) (hgt : findIn K (.ref C) "__getattr__" = some none)
    (ha : findIn K (.ref C) "__class__" = some (some (.builtin "object.__class__"))) (hn : specialIn K (.builtin "object.__class__") "__get__" = some (some (.builtin "getset_descriptor.__get__"))) (htk : takesIn K (.builtin "object.__class__") = some true)
    (hm : mroIn K C (.type "object") = some true) (hb : mroIn K C (.type "BaseException") = some true)
    (h : Q (some (.ref C)) { s with toks := s.toks + 1 }) : wpAny (model prog w) A (getAttr? (.ref x) "__class__") Q E s := by
  obtain ⟨hh, g, d, t, os⟩ := s
  have L1 := looks_findIn (M := model prog w) X hga
  have L2 := looks_findIn (M := model prog w) X hgt
  have L3 := looks_mroIn (M := model prog w) X hb
  have L4 : Looks (model prog w) hh (find (.ref x) (.ref C) "__class__") (.bind (.builtin "getset_descriptor.__get__") (.builtin "object.__class__")) := by
    have a1 := looks_findIn (M := model prog w) X ha
    have a2 : Looks (model prog w) hh (getOf (some (.builtin "object.__class__"))) (some (.builtin "getset_descriptor.__get__")) := looks_specialIn X hn
    have a3 := looks_takesIn (M := model prog w) X htk
    refine a1.andThen (a2.andThen ?_)
    have a4 : Looks (model prog w) hh (dataDescriptor? (some (.builtin "object.__class__")) (some (.builtin "getset_descriptor.__get__"))) (some (.builtin "getset_descriptor.__get__", .builtin "object.__class__")) := a3.andThen .now
    exact a4.andThen (Looks.tag .now)
  have f3 := (F.attrBase_ValueError).ga.bind (.ref x)
  unfold getAttr? getAttrBy? getAttrBy
  refine wpAny_bind (wpAny_mkText (wpAny_bind (wpAny_attempt (wpAny_holding (wpAny_bind (LT.at (wpAny_bind (L1.at ?_))))))))
  show wpAny _ _ (getAttrByItsOwn _ _ _ _ _ _) _ _ _
  unfold getAttrByItsOwn hookBefore
  refine wpAny_bind (L2.at ?_)
  refine wpAny_bind (wpAny_attempt (wpAny_holding ?_))
  show wpAny _ _ (boundAndCalled _ _ _) _ _ _
  unfold boundAndCalled
  rw [f3]
  refine wpAny_bind (wpAny_pure (wpAny_call ?_))
  have hk : builtinKind "BaseException.__getattribute__" = some .slot := (by decide +kernel); have hsplit : splitId "BaseException.__getattribute__" = some ("BaseException", "__getattribute__") := by decide +kernel
  refine codeAny_call_builtin (F.attrBase_ValueError).ga.plain F.entry_bexc_ga ?_
  have ha := F.args_bexc_ga (.ref x) (.str "__class__" t)
  simp only [checkBuiltinCall, hk, hsplit]; refine wpAny_bind ?_
  unfold isInstance
  refine wpAny_bind (LT.at (L3.at ?_))
  simp only [Bool.not_true, Bool.false_eq_true, if_false]; refine wpAny_of_eq (a := ()) ha ?_
  unfold Builtin.«object.__getattribute__»
  repeat (first | with_reducible refine wpAny_call (cls_get X LT hm ?_) | lk)
  exact h
end
end L2

set_option Elab.async false
set_option maxRecDepth 100000
namespace L2
open PySem PySem.Spec PyProof.Rows
/-! ### an exception that is held: what is told of its class -/
/-- the facts of an own class of exceptions -/
structure ExcIn (K : PySem.W.Frag) (C : Addr) : Prop where
  ga : PySem.W.findIn K (.ref C) "__getattribute__" = some (some (.builtin "BaseException.__getattribute__"))
  gt : PySem.W.findIn K (.ref C) "__getattr__" = some none
  cl : PySem.W.findIn K (.ref C) "__class__" = some (some (.builtin "object.__class__"))
  gs : PySem.W.specialIn K (.builtin "object.__class__") "__get__" = some (some (.builtin "getset_descriptor.__get__"))
  tk : PySem.W.takesIn K (.builtin "object.__class__") = some true
  mo : PySem.W.mroIn K C (.type "object") = some true
  mb : PySem.W.mroIn K C (.type "BaseException") = some true
theorem ExcIn.cls {K : PySem.W.Frag} {C : Addr} (e : ExcIn K C) : ∃ cd, PySem.W.clsIn K C = some cd := by
  obtain ⟨cd, hc, _⟩ := Option.bind_eq_some_iff.mp e.mo
  exact ⟨cd, hc⟩
def ExcAt (e C : Addr) (h : Heap) : Prop := ∃ o, h.get? e = some o ∧ o.cls = .ref C
theorem ExcAt.looks {e C : Addr} {h : Heap} {M : Model} (p : ExcAt e C h) : PySem.W.Looks M h (typeOf (.ref e)) (.ref C) := by
  obtain ⟨o, h1, h2⟩ := p
  rw [← h2]; exact (PySem.W.Looks.ld h1).andThen .now
def ExcO (e C : Addr) : HO := .ext (ExcAt e C)
theorem kitx_exc {K : PySem.W.Frag} {e C : Addr} (x : ExcIn K C) : PySem.W.KitX K (.ref e) (.ref C) (ExcAt e C) where
  ty := fun _ _ _ p => ExcAt.looks p
  it := fun _ _ X _ => by
    obtain ⟨cdD, hcD⟩ := x.cls
    unfold PySem.W.clsIn at hcD
    split at hcD
    · rename_i ho
      intro A' Q' E' s' k q
      unfold isType loadHead
      exact wpAny_bind (wpAny_loadPart (k _ _ (X _ _ ho)) (wpAny_pure q))
    · cases hcD
  ne := fun h tp dd its n sl X htp => by
    obtain ⟨cdD, hcD⟩ := x.cls
    refine Bool.eq_false_iff.mpr fun q => ?_
    have z := Value.ref.inj (beq_iff_eq.mp q)
    subst z
    unfold PySem.W.clsIn at hcD
    split at hcD
    · rename_i ho
      have z := (X _ _ ho).symm.trans htp
      cases z
    · cases hcD
  ca := fun X p k => exc_class X (ExcAt.looks p) x.ga x.gt x.cl x.gs x.tk x.mo x.mb k
/-- isinstance(e, C) of a held exception -/
def rIsiX (K : PySem.W.Frag) : List V → Hp → VK → Prop := fun xs H Q => ∃ e C y c b, xs = [.ref e, y] ∧ H e = some (ExcO e C) ∧ ExcIn K C ∧ RelV y c ∧ PySem.W.kitOne K (.ref C) c = some b ∧ Q (.bl b) H
theorem cI_isinstX {X : Cx} : CallR X (.builtin "isinstance") (rIsiX X.K) := by
  intro pins s σ H xs us Q I r h
  obtain ⟨e, C, y, c, b, rfl, he, ex, ry, k, q⟩ := h
  obtain ⟨u, v, rfl, ru, rv⟩ := r.two
  cases (show u = Value.ref e from ru)
  have hv : v = c := by
    cases y with
    | ref a => exact (show v = Value.ref a from rv).trans (show c = Value.ref a from ry).symm
    | ty n => exact (show v = Value.type n from rv).trans (show c = Value.type n from ry).symm
    | non => exact (show v = Value.none from rv).trans (show c = Value.none from ry).symm
    | bl z => exact (show v = Value.bool z from rv).trans (show c = Value.bool z from ry).symm
    | int i => obtain ⟨t, rfl⟩ := ry; simp [PySem.W.kitOne, PySem.W.kitCls] at k
    | str i => obtain ⟨t, rfl⟩ := ry; simp [PySem.W.kitOne, PySem.W.kitCls] at k
    | byt i => obtain ⟨t, rfl⟩ := ry; simp [PySem.W.kitOne, PySem.W.kitCls] at k
    | flt i => obtain ⟨t, rfl⟩ := ry; simp [PySem.W.kitOne, PySem.W.kitCls] at k
  subst hv
  have p : ExcAt e C s.heap := (show ObjOk X.prog X.w H s.heap e (.ext (ExcAt e C)) from I.hok e _ he).1
  exact PySem.W.kia_one (kitx_exc ex) I.kIn p k (fun z => nomatch z) fun tk => ⟨.bl b, H, I.tok tk, rfl, q⟩
theorem cI_isinstXK {X : Cx} (K : PySem.W.Frag) (h : X.K = K) : CallR X (.builtin "isinstance") (rIsiX K) := h ▸ cI_isinstX
theorem rd_isiX {K : PySem.W.Frag} {H : Hp} {Q : VK} {e C D : Addr} {b : Bool} (he : H e = some (ExcO e C)) (x : ExcIn K C) (k : PySem.W.kitOne K (.ref C) (.ref D) = some b) (q : Q (.bl b) H) : rIsiX K [.ref e, .ref D] H Q :=
  ⟨e, C, .ref D, .ref D, b, rfl, he, x, rfl, k, q⟩
theorem rd_isiXT {K : PySem.W.Frag} {H : Hp} {Q : VK} {e C : Addr} {n : String} {b : Bool} (he : H e = some (ExcO e C)) (x : ExcIn K C) (k : PySem.W.kitOne K (.ref C) (.type n) = some b) (q : Q (.bl b) H) : rIsiX K [.ref e, .ty n] H Q :=
  ⟨e, C, .ty n, .type n, b, rfl, he, x, rfl, k, q⟩
/-! ### the state while an exception is held -/
section
variable {X : Cx} {pins : List (Addr × Obj)} {σ : St} {H : Hp} {s : Shared}
theorem Inv.held {h' : Heap} {es : List Addr} (I : Inv X pins σ H s) (hs : X.stack = X.env :: X.outer) (hf : X.env.frame = some X.env.locals)
    (he : ∀ b ∈ es, H b = none ∧ X.s₀.heap.get? b = none ∧ (∀ p ∈ X.pn ++ pins, p.1 ≠ b) ∧ ∃ o vs, s.heap.get? b = some o ∧ o.data = .fields vs)
    (keep : ∀ b o, s.heap.get? b = some o → b ∉ frs X.stack → b ∉ es → h'.get? b = some o) (slot : ∀ b o, s.heap.get? b = some o → b ∈ frs X.stack → ∃ sl, h'.get? b = some { o with slots := sl }) : Inv X pins σ H { s with heap := h' } := by
  have lf := I.left hs (fun b hb => ⟨(he b hb).1, (he b hb).2.1⟩) keep slot
  have inL : X.env.locals ∈ frs X.stack := by rw [hs]; unfold frs; rw [List.filterMap_cons, hf]; exact List.mem_cons_self
  have cellK : ∀ c v, s.heap.IsCell c v → h'.IsCell c v := fun c v ⟨o, ho, hd⟩ => by
    by_cases hb : c ∈ frs X.stack
    · obtain ⟨sl, q⟩ := slot c o ho hb
      exact ⟨_, q, hd⟩
    · refine ⟨o, keep c o ho hb fun hm => ?_, hd⟩
      obtain ⟨_, _, _, o', vs, ho', hd'⟩ := he c hm
      rw [ho] at ho'; cases ho'; rw [hd] at hd'; cases hd'
  refine ⟨I.ok, I.os, I.bare, lf.1, ?_, fun x c e => ?_, I.free, I.freeC, fun p hp => ?_, lf.2, I.len⟩
  · obtain ⟨m, ⟨o, es', ep, ho, r⟩, hl⟩ := I.loc
    obtain ⟨sl, hL⟩ := slot _ o ho inL
    refine ⟨m, ⟨_, es', ep, hL, r⟩, fun i x v e1 e2 e3 => ?_⟩
    obtain ⟨u, ru, l⟩ := hl i x v e1 e2 e3
    refine ⟨u, ru, ?_⟩
    rcases l with l | ⟨k, c, e, z⟩
    · exact .inl l
    · exact .inr ⟨k, c, e, cellK c _ z⟩
  · obtain ⟨v, z⟩ := I.cell x c e
    exact ⟨v, cellK c v z⟩
  · obtain ⟨e, n, ne, nf, d⟩ := I.pin p hp
    refine ⟨keep p.1 p.2 e (fun z => ?_) fun z => (he p.1 z).2.2.1 p hp rfl, n, ne, nf, d⟩
    rcases List.mem_cons.mp (I.stkSub p.1 z) with q | q
    · exact ne q
    · exact nf q
/-- a record of ours is tracked from now on -/
theorem Inv.track {e : Addr} {φ : Heap → Prop} (I : Inv X pins σ H s) (hH : H e = none) (h0 : X.s₀.heap.get? e = none) (hp : ∀ p ∈ X.pn ++ pins, p.1 ≠ e) (hd : ∃ o vs, s.heap.get? e = some o ∧ o.data = .fields vs)
    (hφ : φ s.heap) (st : ∀ h1 h2 : Heap, φ h1 → (∀ o, h1.get? e = some o → h2.get? e = some o) → φ h2) : Inv X pins σ (upd H e (.ext φ)) s := by
  obtain ⟨oe, vs, ho, hdd⟩ := hd
  have ne : ∀ b u, H b = some u → b ≠ e := fun b u z => ne_of_none z hH
  have n0 : ∀ b o, X.s₀.heap.get? b = some o → b ≠ e := fun b o z q => by rw [q, h0] at z; cases z
  have nH0 : ∀ b u, X.H₀ b = some u → H b ≠ none → b ≠ e := fun b u _ z q => z (q ▸ hH)
  refine ⟨I.ok, I.os, I.bare, ⟨I.base.keep, I.base.slot, fun b o z n hx => ?_, I.base.there, fun b xs z => ?_, fun b o u z => ?_, fun b ps z => ?_⟩, I.loc, I.cell, ?_, fun x c z => ?_, fun p hp' => ?_, fun b u z => ?_, I.len⟩
  · rw [upd_ne (n0 b o z)]; exact I.base.free b o z n hx
  · have q := I.base.tups b xs z
    rw [upd_ne (ne _ _ q)]; exact q
  · have q := I.base.frzs b o u z
    rw [upd_ne (ne _ _ q)]; exact q
  · obtain ⟨m, q⟩ := I.base.tbls b ps z
    exact ⟨m, by rw [upd_ne (ne _ _ q)]; exact q⟩
  · have q : X.env.locals ≠ e := fun q => by
      obtain ⟨m, ⟨o', es, ep, ho', hd', _⟩, _⟩ := I.loc
      rw [q, ho] at ho'; cases ho'; rw [hdd] at hd'; cases hd'
    rw [upd_ne q]; exact I.free
  · have q : c ≠ e := fun q => by
      obtain ⟨v, o', ho', hd'⟩ := I.cell x c z
      rw [q, ho] at ho'; cases ho'; rw [hdd] at hd'; cases hd'
    rw [upd_ne q]; exact I.freeC x c z
  · obtain ⟨a, n, r⟩ := I.pin p hp'
    exact ⟨a, by rw [upd_ne (hp p hp')]; exact n, r⟩
  · by_cases q : b = e
    · subst q
      rw [upd_same] at z
      cases z
      exact ⟨hφ, ⟨oe, ho⟩, st⟩
    · rw [upd_ne q] at z
      refine (I.hok b u z).stay (fun _ _ _ w => w) (fun c w => ?_) fun c xs w => ?_
      · rw [upd_ne (ne _ _ w)]; exact w
      · rw [upd_ne (ne _ _ w)]; exact w
end
end L2

set_option Elab.async false
set_option maxRecDepth 100000
namespace L2
open PySem PySem.Spec PyProof.Rows
/-! ### try: the body's own wish about exceptions -/
abbrev Cx.tryIn (X : Cx) (pins : List (Addr × Obj)) (E : Value → Shared → Prop) : Cx := { X with pn := X.pn ++ pins, xe := E }
section
variable {X : Cx} {pins pins' : List (Addr × Obj)} {σ : St} {H : Hp} {s : Shared} {E : Value → Shared → Prop}
theorem Cx.Ok.tryIn (ok : X.Ok) : (X.tryIn pins E).Ok :=
  ⟨ok.mod, ok.kind, ok.glob, ok.blt, ok.above, ok.inj, ok.has, ok.cab, ok.hd, ok.frames, ok.stk, ok.exf, ok.bs, ok.bsz, ok.noex, ok.exfs, ok.funs, ok.frf⟩
theorem Cx.Ok.tryOut (ok : (X.tryIn pins E).Ok) : X.Ok :=
  ⟨ok.mod, ok.kind, ok.glob, ok.blt, ok.above, ok.inj, ok.has, ok.cab, ok.hd, ok.frames, ok.stk, ok.exf, ok.bs, ok.bsz, ok.noex, ok.exfs, ok.funs, ok.frf⟩
theorem Inv.tryIn (I : Inv X pins σ H s) (E : Value → Shared → Prop) : Inv (X.tryIn pins E) [] σ H s :=
  ⟨I.ok.tryIn, I.os, I.bare, I.base, I.loc, I.cell, I.free, I.freeC, fun p hp => I.pin p (by simpa using hp), I.hok, I.len⟩
theorem Inv.tryOut (I : Inv (X.tryIn pins E) pins' σ H s) : Inv X pins σ H s :=
  ⟨I.ok.tryOut, I.os, I.bare, I.base, I.loc, I.cell, I.free, I.freeC, fun p hp => I.pin p (List.mem_append_left _ hp), I.hok, I.len⟩
theorem SP.tryOut {D : Ends} {f : Flow} {s' : Shared} (h : SP (X.tryIn pins E) pins' D f s') : SP X pins D f s' := by
  cases f with
  | next => obtain ⟨σ', H', I, q⟩ := h; exact ⟨σ', H', I.tryOut, q⟩
  | brk => obtain ⟨σ', H', I, q⟩ := h; exact ⟨σ', H', I.tryOut, q⟩
  | cont => obtain ⟨σ', H', I, q⟩ := h; exact ⟨σ', H', I.tryOut, q⟩
  | ret u => obtain ⟨v, σ', H', I, r, q⟩ := h; exact ⟨v, σ', H', I.tryOut, r, q⟩
end
/-- how an exception lies at the end of a try's body -/
def XT (X : Cx) (pins : List (Addr × Obj)) (ET : St → XK) : Value → Shared → Prop := fun x s' => ∃ (σ : St) (e C : Addr) (H' : Hp), x = .ref e ∧ Inv X pins σ H' s' ∧ Exc X.s₀.heap s'.heap H' e C ∧
  (∀ p ∈ X.pn ++ pins, p.1 ≠ e ∧ ∀ oe vs T, s'.heap.get? e = some oe → oe.data = .fields vs → vs[1]? = some (.ref T) → p.1 ≠ T) ∧ ET σ (.ref C) none H'
def PassesS (CX : CXT) (X : Cx) (ET : St → XK) : Prop := ∀ (pins : List (Addr × Obj)) (σ : St) (H : Hp) (s : Shared) (e : Value) (s' : Shared), Inv X pins σ H s → CX X.stack H s (ET σ) e s' → X.xe e s'
theorem passT {X : Cx} {pins : List (Addr × Obj)} {ET : St → XK} (hx : X.ex = [] := by rfl) : PassesS (CX1 X.prog X.w) (X.tryIn pins (XT X pins ET)) ET := by
  intro pins' σ H s x s' I h
  obtain ⟨e, C, H', rfl, os, bare, un, hok, ex, q⟩ := h
  have J := I.call' (s' := s') (ch := []) os un hok bare (fun b hb => by cases hb)
  obtain ⟨⟨oe, ws, T, oT, ts, g1, g2, g3, g4, g5, g6, g7, g8, g9⟩, ne, hHe, hHT⟩ := ex
  have s0 : ∀ {b : Addr}, s.heap.get? b = none → X.s₀.heap.get? b = none := fun {b} hb => by
    cases z : X.s₀.heap.get? b with
    | none => rfl
    | some o => obtain ⟨o', z'⟩ := I.base.there b o z (by show b ∉ X.ex; rw [hx]; simp); rw [hb] at z'; cases z'
  refine ⟨σ, e, C, H', rfl, J.tryOut, ⟨⟨oe, ws, T, oT, ts, g1, g2, g3, g4, s0 g5, g6, g7, g8, g9⟩, s0 ne, hHe, hHT⟩, fun p hp => ?_, q⟩
  have hp' := (I.pin p (List.mem_append_left _ hp)).1
  refine ⟨fun z => (by rw [z, ne] at hp'; cases hp'), fun oe' vs' T' z1 z2 z3 z => ?_⟩
  rw [g1] at z1; cases z1
  rw [g3] at z2; cases z2
  rw [g4] at z3; cases z3
  rw [z, g5] at hp'
  cases hp'

/-! ### calls in a try's body: the exception's wish may speak of the names -/
def tCallS (sp : Sp) (dvs : List V) (ET : St → XK) (t : TA) : TE := fun σ H Q => t σ H fun vs H1 => sp (vs ++ dvs) H1 Q (ET σ)
def tMethS (C : Addr) (m : Str) (sp : Sp) (dvs : List V) (ET : St → XK) (ta : TE) (t : TA) : TE := fun σ H Q => ta σ H fun x H1 => rMeth C m x H1 (t σ H1 fun vs H2 => sp (x :: (vs ++ dvs)) H2 Q (ET σ))
def tMakeS (C : Addr) (sp : Sp) (dvs : List V) (ET : St → XK) (t : TA) : TE := fun σ H Q => t σ H fun vs H1 => ∀ x dx, H1 x = none → H1 dx = none → dx ≠ x →
  sp (.ref x :: (vs ++ dvs)) (upd (upd H1 dx (.own x)) x (.ins C dx [])) (fun v H2 => v = .non ∧ Q (.ref x) H2) (ET σ)
section
variable {X : Cx} {CX : CXT} {k : Nat} {f C : Addr} {fd : FuncData} {ps : List Str} {sp : Sp} {dvs : List V} {ds : List Value} {ET : St → XK} {x m : Str} {p pos apos : Pos} {e o : Expr} {es : List Expr} {ta : TE} {t : TA}
theorem run_fnS {pins : List (Addr × Obj)} {σ : St} {H : Hp} {s : Shared} {Q : VK} {us : List Value} {vs : List V} (F : FnOk X.prog X.w X.K X.mg X.base CX k f fd ps sp) (hr : Room k X.A) (hb : Binds X.K fd ps ds) (hd : Vals dvs ds) (hx : PassesS CX X ET)
    (I : Inv X pins σ H s) (r : Vals vs us) (h : sp (vs ++ dvs) H Q (ET σ)) : wpAny (model X.prog X.w) X.A (call (.ref f) us) (EP X pins σ Q) X.xe s := by
  have r2 : Vals (vs ++ dvs) (us ++ ds) := r.append hd
  have hl : (us ++ ds).length = ps.length := by rw [← r2.length]; exact F.len _ _ _ _ h
  refine wpAny_call (codeAny_mono (F.run X.A X.stack s H ⟨us, []⟩ (us ++ ds) (vs ++ dvs) Q (ET σ) hr I.env0 (hb s us I.kIn hl) r2 h) fun r s' hq => ?_)
  cases r with
  | error e => exact hx pins σ H s e s' I hq
  | ok fl =>
    cases fl with
    | ret u => exact I.after hq
    | next => exact False.elim hq
    | brk => exact False.elim hq
    | cont => exact False.elim hq
theorem pe_callS (F : FnOk X.prog X.w X.K X.mg X.base CX k f fd ps sp) (hr : Room k X.A) (hg : Gl X x) (hm : X.mg x = some (.ref f)) (hk : PySem.W.keepIn X.K (.ref f) = true) (hb : Binds X.K fd ps ds) (hd : Vals dvs ds) (hx : PassesS CX X ET)
    (ha : PA X (e :: es) t) (hdb : (x == ("__debug__" : Str)) = false := by decide) (he : starEach (e :: es) X.env = (false, eval e X.env) :: starEach es X.env := by rfl) (hpl : (backTo pos (starEach es X.env)).any (·.1) = false := by rfl) :
    PE X (.Call (.Name x p) (e :: es) [] pos) (tCallS sp dvs ET t) := by
  intro pins s σ H Q I h
  refine wpAny_Call_Name_kw (ld_glob I hg hm ?_ hdb)
  refine PySem.W.callWith_K (h₀ := X.base) I.ok.mod.kin hk (thn (ha pos pins s σ H _ I h) fun us s1 ⟨vs, H1, I1, r, q⟩ => ⟨I1.kIn, ?_⟩) he hpl
  exact run_fnS F hr hb hd hx I1 r q
end
section
variable {σ : St} {H : Hp} {Q : VK}
theorem rd_callS {sp : Sp} {dvs : List V} {ET : St → XK} {t : TA} (h : t σ H fun vs H1 => sp (vs ++ dvs) H1 Q (ET σ)) : tCallS sp dvs ET t σ H Q := h
end
/-! ### the except suite -/
abbrev Cx.suite (X : Cx) (e : Addr) : Cx := { X with A := X.A.mark (some (.ref e)), calm := false, xe := fun _ _ => False }
section
variable {X : Cx} {pins : List (Addr × Obj)} {σ : St} {H : Hp} {s : Shared} {e : Addr}
theorem Cx.Ok.suite (ok : X.Ok) : (X.suite e).Ok :=
  ⟨ok.mod, ok.kind, ok.glob, ok.blt, ok.above, ok.inj, ok.has, ok.cab, fun z => Bool.noConfusion z, ok.frames, ok.stk, ok.exf, ok.bs, ok.bsz, ok.noex, ok.exfs, ok.funs, ok.frf⟩
theorem Inv.suite (I : Inv X pins σ H s) : Inv (X.suite e) pins σ H s := ⟨I.ok.suite, I.os, I.bare, I.base, I.loc, I.cell, I.free, I.freeC, I.pin, I.hok, I.len⟩
theorem Inv.unsuite (ok : X.Ok) (I : Inv (X.suite e) pins σ H s) : Inv X pins σ H s := ⟨ok, I.os, I.bare, I.base, I.loc, I.cell, I.free, I.freeC, I.pin, I.hok, I.len⟩
end
end L2

set_option Elab.async false
set_option maxRecDepth 100000
namespace L2
open PySem PySem.Spec PyProof.Rows
/-- behind the suite the name is gone -/
def Dh (i : Nat) (D : Ends) : Ends := { nx := fun σ H => D.nx (σ.set i none) H, rt := D.rt, bk := fun σ H => D.bk (σ.set i none) H, ct := fun σ H => D.ct (σ.set i none) H }
def ETof (K : PySem.W.Frag) (S : Addr) (i : Nat) (ts : TS) (D : Ends) : St → XK := fun σ cls _ H1 => ∃ C, cls = .ref C ∧ PySem.W.exmOne K (.ref C) (.ref S) = some true ∧ ∀ e, H1 e = none → ts (Dh i D) (σ.set i (some (.ref e))) (upd H1 e (ExcO e C))
def tTry (K : PySem.W.Frag) (S : Addr) (i : Nat) (tb : (St → XK) → TS) (ts : TS) : TS := fun D σ H => tb (ETof K S i ts D) D σ H
theorem gone_ok {X : Cx} {pins : List (Addr × Obj)} {σ : St} {H : Hp} {s : Shared} {M : Model} {A : Around} {E : Value → Shared → Prop} {i : Nat} {n : Str} {pos : Pos} {Q : Unit → Shared → Prop} (I : Inv X pins σ H s) (hN : X.N.Nodup) (hi : X.N[i]? = some n)
    (hk : X.env.kindOf n = some .local) (h : ∀ s', Inv X pins (σ.set i none) H s' → Q () s') : wpAny M A (do bindName X.env n .none; unbindBehindTheSuite X.env n pos) Q E s := by
  obtain ⟨m, hn, hl⟩ := id I.loc
  have hcls : (X.env.scope.kind == .class || (X.env.scope.kind == .module && X.env.locals != X.env.globals)) = false := by rw [I.ok.kind]; rfl
  have cne := I.cne
  refine wpAny_nameGoes_keeps hk hn hcls fun h' v hn' hs => h _ ?_
  obtain ⟨oL, _, _, hoL, _⟩ := id hn
  have hk' : HOk X.prog X.w H h' := fun b ob e => by
    refine (I.hok b ob e).stay (fun c w' hc q => (hs.2 c ?_).trans q) (fun _ q => q) fun _ _ q => q
    rintro rfl
    rcases hc with rfl | hc
    · rw [I.free] at e; cases e
    · rw [I.free] at hc; cases hc
  have nL : ∀ b o, X.s₀.heap.get? b = some o → b ≠ X.env.locals := fun b o e => Nat.ne_of_lt (Nat.lt_of_lt_of_le (Heap.lt_size e) I.ok.above)
  refine ⟨I.ok, I.os, I.bare, ⟨fun b o e n hb hx => (hs.2 b (nL b o e)).trans (I.base.keep b o e n hb hx), fun b o e n hb hx => ?_, I.base.free, fun b o e hx => ?_, I.base.tups, I.base.frzs, I.base.tbls⟩, ⟨_, hn', fun j y v' e1 e2 e3 => ?_⟩, fun y c e => ?_, I.free, I.freeC, fun p hp => ?_, hk', by simpa using I.len⟩
  · obtain ⟨sl, e1⟩ := I.base.slot b o e n hb hx
    exact ⟨sl, (hs.2 b (nL b o e)).trans e1⟩
  · obtain ⟨o', e1⟩ := I.base.there b o e hx
    exact ⟨o', (hs.2 b (nL b o e)).trans e1⟩
  · by_cases hj : j = i
    · subst hj
      have hiσ : j < σ.length := by rw [I.len]; exact (List.getElem?_eq_some_iff.mp hi).1
      rw [List.getElem?_set_self hiσ] at e2
      cases e2
    · rw [List.getElem?_set_ne (Ne.symm hj)] at e2
      obtain ⟨u', r', q⟩ := hl j y v' e1 e2 e3
      refine ⟨u', r', ?_⟩
      rcases q with ⟨k, e⟩ | ⟨k, c, e, z⟩
      · refine .inl ⟨k, ?_⟩
        have : y ≠ n := fun e => hj (nodup_ix hN e1 (e ▸ hi))
        simp [this, e]
      · exact .inr ⟨k, c, e, z.sameBut hs (cne y c e)⟩
  · obtain ⟨w', z⟩ := I.cell y c e
    exact ⟨w', z.sameBut hs (cne y c e)⟩
  · obtain ⟨e, n, ne, nf, d⟩ := I.pin p hp
    exact ⟨(hs.2 p.1 ne).trans e, n, ne, nf, d⟩
theorem ps_try {X : Cx} {i : Nat} {n x : Str} {S : Addr} {body suite : List Stmt} {b₀ : Stmt} {np hpos pos : Pos} {tb : (St → XK) → TS} {ts : TS} (hN : X.N.Nodup) (hi : X.N[i]? = some n) (hk : X.env.kindOf n = some .local)
    (hg : Gl X x) (hm : X.mg x = some (.ref S)) (hb : ∀ pins ET, PSs (X.tryIn pins (XT X pins ET)) body (tb ET)) (hh : ∀ e, PSs (X.suite e) (b₀ :: suite) ts)
    (hs : X.stack = X.env :: X.outer := by rfl) (hf : X.env.frame = some X.env.locals := by rfl) (hd : (x == ("__debug__" : Str)) = false := by decide) :
    PS X (.Try body [.ExceptHandler (some (.Name x np)) (some n) (b₀ :: suite) hpos] [] [] pos) (tTry X.K S i tb ts) := by
  intro pins s σ H D I h
  refine wpAny_Try_except (wpAny_mono (hb pins (ETof X.K S i ts D) [] s σ H D (I.tryIn _) h) (fun f s1 q => ?_) (fun y s1 q => ?_))
  · have q := q.tryOut
    cases f with
    | next =>
      obtain ⟨σ', H', I', q'⟩ := q
      exact pss_nil pins s1 σ' H' D I' q'
    | brk => exact q
    | cont => exact q
    | ret u => exact q
  · obtain ⟨σ1, e, C, H1, rfl, I1, ex, hp, C', hC, hx', k⟩ := q
    cases hC
    obtain ⟨⟨oe, ws, T, oT, tl, g1, g2, g3, g4, g5, g6, g7, g8, g9⟩, ne, hHe, hHT⟩ := ex
    have hHT := hHT oe ws T g1 g3 g4
    obtain ⟨a0, h0⟩ : ∃ a0, ws[0]? = some a0 := by
      have hsz : 1 < ws.size := (Array.getElem?_eq_some_iff.mp g4).1
      exact ⟨ws[0], by simp [show 0 < ws.size by omega]⟩
    have ff := I1.stack
    have hl := PySem.W.funFrames_hide (as := e :: T :: frs X.stack) ff (stack_in fun b hb => List.mem_cons_of_mem _ (List.mem_cons_of_mem _ hb))
    have fl : Heap.FlyingW (PySem.W.hideAll s1.heap (e :: T :: frs X.stack)) (X.env :: X.outer) e (.ref C) a0 s1.heap :=
      ⟨fun b o z => PySem.W.of_hideAll _ z, PySem.W.hideAll_none _ List.mem_cons_self, hs ▸ hl, ⟨oe, ws, T, oT, tl, g1, ⟨g2, h0⟩, g3, g4, PySem.W.hideAll_none _ (List.mem_cons_of_mem _ List.mem_cons_self), g6, g7, g8, g9⟩⟩
    have stay : ∀ h', Heap.StaysIn (PySem.W.hideAll s1.heap (e :: T :: frs X.stack)) h' → s1.heap.UpToSlots h' → Inv X pins σ1 H1 { s1 with heap := h' } := fun h' st sm => by
      refine I1.held (es := [e, T]) hs hf (fun b hb => ?_) (fun b o z nf nm => st b o (PySem.W.hideAll_get _ z ?_)) fun b o z hb => ?_
      · simp only [List.mem_cons, List.not_mem_nil, or_false] at hb
        rcases hb with rfl | rfl
        · exact ⟨hHe, ne, fun p hq => (hp p hq).1, oe, ws, g1, g3⟩
        · exact ⟨hHT, g5, fun p hq => (hp p hq).2 oe ws _ g1 g3 g4, oT, tl, g7, g8⟩
      · intro m
        rcases List.mem_cons.mp m with r | m
        · exact nm (by simp [r])
        · rcases List.mem_cons.mp m with r | r
          · exact nm (by simp [r])
          · exact nf r
      · obtain ⟨_, o', z', hd'⟩ := ff.mem hb
        rw [z] at z'; cases z'
        exact sm b o z hd'
    refine wpAny_looks_onW (I1.ok.frames.trans (congrArg some hs)) hf fl fun h4 held sm4 => ?_
    refine wpAny_landsW (s := { s1 with heap := h4 }) held fun h5 fl5 sm5 => ?_
    have I5 := stay h5 fl5.1 (sm4.trans sm5)
    refine wpAny_handleBy_cons (codeAny_handlers_test (ld_glob (X := X.suite e) I5.suite hg hm ?_ hd)) (by intro q; cases q)
    have LT : PySem.W.Looks (model X.prog X.w) h5 (typeOf (.ref e)) (.ref C) := ExcAt.looks fl5.there
    refine (PySem.W.exm_one (h := h5) I5.kIn LT hx').here ?_
    refine codeAny_handlers_suite_as ?_
    refine lands_againW (s := { s1 with heap := h5 }) fl5 fun h6 fl6 sm6 => ?_
    have I6 := stay h6 fl6.1 ((sm4.trans sm5).trans sm6)
    obtain ⟨oe6, ws6, z1, z2, z3, _⟩ := fl6.first
    have I7 : Inv X pins σ1 (upd H1 e (ExcO e C)) { s1 with heap := h6 } := I6.track hHe ne (fun p hq => (hp p hq).1) ⟨oe6, ws6, z1, z3⟩ ⟨oe6, z1, z2⟩ fun ha hb ⟨o, p1, p2⟩ kk => ⟨o, kk o p1, p2⟩
    refine store_ok (X := X.suite e) (v := .ref e) I7.suite hN hi (.inl hk) rfl (fun s8 I8 => ?_) (.inr hk)
    refine wpAny_mono (hh e pins s8 _ _ (Dh i D) I8 (k e hHe)) (fun f s9 q => ?_) fun _ _ z => False.elim z
    show wpAny _ _ _ _ _ _
    cases f with
    | next =>
      obtain ⟨σ', H', I', q'⟩ := q
      exact gone_ok (I'.unsuite I.ok) hN hi hk fun s' J => ⟨_, H', J, q'⟩
    | brk =>
      obtain ⟨σ', H', I', q'⟩ := q
      exact gone_ok (I'.unsuite I.ok) hN hi hk fun s' J => ⟨_, H', J, q'⟩
    | cont =>
      obtain ⟨σ', H', I', q'⟩ := q
      exact gone_ok (I'.unsuite I.ok) hN hi hk fun s' J => ⟨_, H', J, q'⟩
    | ret u =>
      obtain ⟨v, σ', H', I', r, q'⟩ := q
      exact gone_ok (I'.unsuite I.ok) hN hi hk fun s' J => ⟨v, _, H', J, r, q'⟩
end L2

set_option Elab.async false
set_option maxRecDepth 100000
namespace L2
open PySem PySem.Spec PyProof.Rows
/-! ### a def that is called within an except suite: it needs no word of what is handled -/
structure RoomQ (k : Nat) (A : Around) : Prop where
  dp : A.depth + 3 * k + 5 < recursionLimit
  un : A.units + 16 * k + 200 < cLine
theorem Room.q {k : Nat} {A : Around} (r : Room k A) : RoomQ k A := ⟨r.dp, r.un⟩
theorem RoomQ.mono {j k : Nat} {A : Around} (r : RoomQ k A) (h : j ≤ k) : RoomQ j A := ⟨by have := r.dp; omega, by have := r.un; omega⟩
theorem RoomQ.deeper {k : Nat} {A : Around} (r : RoomQ (k + 1) A) (env : Env) : RoomQ k (A.deeper env) :=
  ⟨by have := r.dp; show A.depth + 1 + 3 * k + 5 < _; omega, by have := r.un; show A.units + 3 + 16 * k + 200 < _; omega⟩
theorem RoomQ.mark {k : Nat} {A : Around} {v : Option Value} (r : RoomQ k A) : RoomQ k (A.mark v) := ⟨r.dp, r.un⟩
structure FnOkQ (P : Program) (w : World) (K : PySem.W.Frag) (mg : Str → Option Value) (base : Heap) (k : Nat) (f : Addr) (fd : FuncData) (ps : List Str) (sp : Sp) : Prop where
  len : ∀ vs H Q E, sp vs H Q E → vs.length = ps.length
  run : ∀ (A : Around) (outer : List Env) (s : Shared) (H : Hp) (args : Args) (us : List Value) (vs : List V) (Q : VK) (E : XK), RoomQ k A → Env0 P w K mg base A outer s H → BindsTo s fd args (ps.zip us) → Vals vs us → sp vs H Q E →
    codeAny (model P w) A (.call (.ref f) args) (CR CX0 outer P w H s Q E) s
abbrev Cx.quiet (X : Cx) : Cx := { X with calm := false }
section
variable {P : Program} {w : World} {K : PySem.W.Frag} {mg : Str → Option Value} {base : Heap}
theorem Fun.okQ {x qual : Str} {st : Stmt} {f : Addr} {fd : FuncData} {N ps : List Str} {k : Nat} {sp : Sp} (F : Fun K x qual st f fd) (S : FnScope N ps (defScope st)) (len : ∀ vs H Q E, sp vs H Q E → vs.length = ps.length)
    (hbody : ∀ (cdv : Value) (A : Around) (outer : List Env) (s : Shared) (H : Hp) (vs : List V) (Q : VK) (E : XK), RoomQ k (A.deeper (envOfC qual (defScope st) s.heap.objs.size f cdv)) → sp vs H Q E →
      ∃ t, PSs (cxOf CX0 P w K mg base N qual (defScope st) f cdv A outer s H E).quiet.nox (defBody st) t ∧ t { nx := fun _ H' => Q .non H', rt := Q } (start N vs) H) : FnOkQ P w K mg base (k + 1) f fd ps sp := by
  obtain ⟨oc, od, kV, doc, pm, an, cdv, ct, osl, rfl, lk, hcd⟩ := F.ex
  refine ⟨len, fun A outer s H args us vs Q E hr e0 hb r hsp => ?_⟩
  have hl := len _ _ _ _ hsp
  have KX : K.In s.heap := e0.mod.kin.keeps fun b o e => (e0.bs b o e).1
  have lim : s.heap.NoLimit := e0.mod.nolimit.keeps fun b o e => (e0.bs b o e).1
  have hkind : ∀ y ∈ ps.zip us, (defScope st).names.lookup y.1 = some .local ∨ ((defScope st).names.lookup y.1 = some .cell ∧ ((cellsFrom (s.heap.objs.size + 1) (defScope st).names []).lookup y.1).isSome = true) := fun ⟨n, v⟩ hy => by
    rcases S.par n (List.of_mem_zip hy).1 with q | q
    · exact .inl q
    · exact .inr ⟨q, PySem.W.cellsFrom_some _ _ _ (.inl q)⟩
  refine codeAny_call_function (by have := hr.dp; omega) (KX _ _ lk) rfl S.co S.gen rfl (PySem.W.codeRec_of KX hcd) (hb _ _ _ _ ?_)
  refine wpAny_newFunctionEnv_cells S.kind hkind fun env he s1 x => ?_
  subst he
  refine ⟨lim.keeps x.toInCall.keep, codeAny_func ?_⟩
  obtain ⟨t, ht, hq⟩ := hbody cdv A outer s H vs Q E (hr.deeper _) hsp
  have I0 : Inv (cxOf CX0 P w K mg base N qual (defScope st) f cdv { A with handled := none } outer s H E) [] (start N vs) H s1 := inv_start S rfl ⟨e0.frames, e0.mod, e0.bs, e0.bsz, e0.funs, e0.frf, e0.hok, e0.bare⟩ hl r x
  have I : Inv (cxOf CX0 P w K mg base N qual (defScope st) f cdv A outer s H E).quiet.nox [] (start N vs) H s1 :=
    ⟨⟨I0.ok.mod, I0.ok.kind, I0.ok.glob, I0.ok.blt, I0.ok.above, I0.ok.inj, I0.ok.has, I0.ok.cab, fun z => Bool.noConfusion z, I0.ok.frames, I0.ok.stk, I0.ok.exf, I0.ok.bs, I0.ok.bsz, I0.ok.noex, I0.ok.exfs, I0.ok.funs, I0.ok.frf⟩, I0.os, I0.bare, I0.base, I0.loc, I0.cell, I0.free, I0.freeC, I0.pin, I0.hok, I0.len⟩
  refine wpAny_mono (ht [] s1 (start N vs) H _ I hq) (fun fl s' hs => ?_) fun e s' hs => False.elim hs
  have fin : ∀ {σ' : St} {H' : Hp} {v : V} {u : Value}, Inv (cxOf CX0 P w K mg base N qual (defScope st) f cdv A outer s H E).quiet.nox [] σ' H' s' → RelV v u → Q v H' → CE outer P w H s Q u s' :=
    fun {σ' H' v u} J rv q => ⟨v, H', J.os, J.bare, J.base, J.hok, rv, q⟩
  cases fl with
  | ret u =>
    obtain ⟨v, σ', H', J, rv, q⟩ := hs
    exact fin J rv q
  | next =>
    obtain ⟨σ', H', J, q⟩ := hs
    exact fin (v := V.non) (u := Value.none) J rfl q
  | brk =>
    obtain ⟨_, _, _, q⟩ := hs
    exact False.elim q
  | cont =>
    obtain ⟨_, _, _, q⟩ := hs
    exact False.elim q
end
section
variable {X : Cx} {k : Nat} {f C : Addr} {fd : FuncData} {ps : List Str} {sp : Sp} {dvs : List V} {ds : List Value} {x m : Str} {p pos apos : Pos} {e o : Expr} {es : List Expr} {ta : TE} {t : TA}
theorem pe_callQ (F : FnOkQ X.prog X.w X.K X.mg X.base k f fd ps sp) (hr : RoomQ k X.A) (hg : Gl X x) (hm : X.mg x = some (.ref f)) (hk : PySem.W.keepIn X.K (.ref f) = true) (hb : Binds X.K fd ps ds) (hd : Vals dvs ds)
    (ha : PA X (e :: es) t) (hdb : (x == ("__debug__" : Str)) = false := by decide) (he : starEach (e :: es) X.env = (false, eval e X.env) :: starEach es X.env := by rfl) (hpl : (backTo pos (starEach es X.env)).any (·.1) = false := by rfl) :
    PE X (.Call (.Name x p) (e :: es) [] pos) (tCall sp dvs E0 t) := by
  intro pins s σ H Q I h
  refine wpAny_Call_Name_kw (ld_glob I hg hm ?_ hdb)
  refine PySem.W.callWith_K (h₀ := X.base) I.ok.mod.kin hk (thn (ha pos pins s σ H _ I h) fun us s1 ⟨vs, H1, I1, r, q⟩ => ⟨I1.kIn, ?_⟩) he hpl
  have r2 : Vals (vs ++ dvs) (us ++ ds) := r.append hd
  have hl : (us ++ ds).length = ps.length := by rw [← r2.length]; exact F.len _ _ _ _ q
  refine wpAny_call (codeAny_mono (F.run X.A X.stack s1 H1 ⟨us, []⟩ (us ++ ds) (vs ++ dvs) Q E0 hr I1.env0 (hb s1 us I1.kIn hl) r2 q) fun r s' hq => ?_)
  cases r with
  | error e => exact False.elim hq
  | ok fl =>
    cases fl with
    | ret u => exact I1.after hq
    | next => exact False.elim hq
    | brk => exact False.elim hq
    | cont => exact False.elim hq
end
end L2

set_option Elab.async false
set_option maxRecDepth 100000
namespace L2
open PySem PySem.Spec PyProof.Rows
theorem exm_of {K : PySem.W.Frag} {A S : Addr} (bs : PySem.W.subIn K (.ref S) (.type "BaseException") = some true) (mo : PySem.W.mroIn K S (.type "object") = some true) (ty : PySem.W.typeIn K (.ref S) = some (.type "type"))
    (sb : PySem.W.subIn K (.ref A) (.ref S) = some true) : PySem.W.exmOne K (.ref A) (.ref S) = some true := by
  obtain ⟨cd, hc, _⟩ := Option.bind_eq_some_iff.mp mo
  simp only [PySem.W.exmOne, PySem.W.kitCls]
  simp [bs, hc, ty, sb]
theorem own_of {K : PySem.W.Frag} {h : Heap} {mg : Str → Option Value} {x : Str} {C : Addr} {bmB : List Value} {newId : String} (X : K.In h) (hm : mg x = some (.ref C)) (q : PySem.W.excIn K C bmB newId = true) : OwnCls x C bmB newId mg h := by
  refine ⟨hm, ?_⟩
  simp only [PySem.W.excIn] at q
  split at q
  case h_2 => cases q
  case h_1 dd cd sl ho =>
    split at q
    case h_2 => cases q
    case h_1 C' bm k0 k1 k2 k3 n k5 hmr hsl =>
      simp only [Bool.and_eq_true, beq_iff_eq, Bool.not_eq_true'] at q
      obtain ⟨⟨⟨⟨⟨e1, e2⟩, hdel⟩, ht⟩, hok⟩, hni⟩ := q
      subst e1 e2
      have hh := X _ _ ho
      obtain ⟨nm, bs, mro, ns, qn, hd, sn, sub, ab, col, del⟩ := cd
      simp only at hmr hdel hok hni
      subst hmr hdel
      obtain ⟨l⟩ := sl
      simp only at hsl
      subst hsl
      exact ⟨bm, ns, nm, qn, bs, hd, sn, sub, ab, col, dd, k0, k1, k2, k3, k5, _, hh, .of_isNs (PySem.W.isNs_of_in X hok), PySem.W.nsMap_none_of_in X hok hni, PySem.W.tail_of_in X ht⟩
theorem ps_raiseK {X : Cx} {E : XK} {x : Str} {C : Addr} {B newId initId : String} {bm : List Value} {np cpos pos : Pos} {e : Expr} {es : List Expr} {t : TA} (hm : X.mg x = some (.ref C)) (q : PySem.W.excIn X.K C bm newId = true) (FB : ExcBaseFacts B newId initId bm) (hc : X.calm = true) (hg : Gl X x)
    (hx : ∀ (pins : List (Addr × Obj)) (σ : St) (H : Hp) (s : Shared) (h' : Heap) (t' : Nat) (e : Addr) (vs : List Value), Inv X pins σ H s → Heap.MadeExcOf s.heap h' e (.ref C) vs → E (.ref C) none H → X.xe (.ref e) { s with heap := h', toks := t' })
    (ha : PA X (e :: es) t) (hd : (x == ("__debug__" : Str)) = false := by decide) (he : starEach (e :: es) X.env = (false, eval e X.env) :: starEach es X.env := by rfl) (hpl : (backTo cpos (starEach es X.env)).any (·.1) = false := by rfl) :
    PS X (.Raise (some (.Call (.Name x np) (e :: es) [] cpos)) none pos) (tRaise C E t) := fun pins s σ H D I h =>
  ps_raise (own_of I.ok.mod.kin hm q) FB hc hg hx ha hd he hpl pins s σ H D I h
theorem rd_raise {C : Addr} {E : XK} {t : TA} {D : Ends} {σ : St} {H : Hp} (h : t σ H fun vs H1 => vs.length ≤ sizeLine ∧ E (.ref C) none H1) : tRaise C E t D σ H := h
section
variable {P : Program} {w : World} {K : PySem.W.Frag} {mg : Str → Option Value} {base : Heap}
/-- a def that may raise, called where it does not -/
theorem FnOk.down {k : Nat} {f : Addr} {fd : FuncData} {ps : List Str} {sp sp' : Sp} (F : FnOk P w K mg base (CX1 P w) k f fd ps sp) (h : ∀ vs H Q E, sp' vs H Q E → sp vs H Q (fun _ _ _ => False)) : FnOk P w K mg base CX0 k f fd ps sp' :=
  ⟨fun vs H Q E q => F.len vs H Q _ (h _ _ _ _ q), fun A outer s H args us vs Q E hr e0 hb hv hs => codeAny_mono (F.run A outer s H args us vs Q _ hr e0 hb hv (h _ _ _ _ hs)) fun r s' hq => by
    cases r with
    | error e => obtain ⟨_, _, _, _, _, _, _, _, _, z⟩ := hq; exact z.elim
    | ok fl => cases fl <;> exact hq⟩
end
theorem rd_try {K : PySem.W.Frag} {S : Addr} {i : Nat} {tb : (St → XK) → TS} {ts : TS} {D : Ends} {σ : St} {H : Hp} (h : tb (ETof K S i ts D) D σ H) : tTry K S i tb ts D σ H := h
end L2

set_option Elab.async false
set_option maxRecDepth 100000
namespace L2
open PySem PySem.Spec PyProof.Rows
theorem rd_cat {H : Hp} {Q : VK} {a b : Addr} {xs zs : List V} (ha : H a = some (.lst xs)) (hb : H b = some (.lst zs)) (z : xs.length + zs.length ≤ sizeLine) (q : ∀ p, H p = none → Q (.ref p) (upd H p (.lst (xs ++ zs)))) : rCat (.ref a) (.ref b) H Q :=
  ⟨a, b, xs, zs, rfl, rfl, ha, hb, z, q⟩
/-! lists of truths -/
theorem repL_bools {H : Hp} : ∀ (bs : List Bool), RepL H (bs.map PyData.bool) (bs.map V.bl)
  | [] => by simp only [List.map_nil, RepL]
  | n :: r => by
    simp only [List.map_cons, RepL, Rep]
    exact ⟨_, _, rfl, rfl, repL_bools r⟩
theorem rep_bools {H : Hp} {a : Addr} {bs : List Bool} (h : H a = some (.lst (bs.map V.bl))) : Rep H (.list (bs.map PyData.bool)) (.ref a) := by
  simp only [Rep]
  exact ⟨a, _, rfl, h, repL_bools bs⟩
theorem eqv_bools : ∀ ns ms : List Bool, PyData.eqvAll (ns.map PyData.bool) (ms.map PyData.bool) = decide (ns = ms)
  | [], [] => by simp [PyData.eqvAll]
  | [], _ :: _ => by simp [PyData.eqvAll]
  | _ :: _, [] => by simp [PyData.eqvAll]
  | a :: r, b :: u => by
    simp only [List.map_cons, PyData.eqvAll, PyData.eqv, eqv_bools r u]
    by_cases h : a = b <;> by_cases h' : r = u <;> simp [h, h']
theorem lay_bools : ∀ bs : List Bool, PyData.canLayAll0 (bs.map PyData.bool) = true
  | [] => rfl
  | _ :: r => by simp [PyData.canLayAll0, PyData.canLay0, lay_bools r]
theorem deep_bools : ∀ bs : List Bool, PyData.depthAll (bs.map PyData.bool) = 0
  | [] => rfl
  | _ :: r => by simp [PyData.depthAll, PyData.depth, deep_bools r]
theorem shaped_bools (bs : List Bool) : SeqAt.shaped (.list (bs.map PyData.bool)) = true := by
  simp [SeqAt.shaped, PyData.canLay0, PyData.depth, lay_bools, deep_bools]
theorem rd_neBools {H : Hp} {Q : VK} {a b : Addr} {ns ms : List Bool} (ha : H a = some (.lst (ns.map V.bl))) (hb : H b = some (.lst (ms.map V.bl))) (q : Q (.bl (!decide (ns = ms))) H) : rEqD true (.ref a) (.ref b) H Q :=
  ⟨_, _, rep_bools ha, rep_bools hb, shaped_bools _, shaped_bools _, by
    have e : PyData.eqv (.list (ns.map PyData.bool)) (.list (ms.map PyData.bool)) = decide (ns = ms) := by simp only [PyData.eqv]; exact eqv_bools ns ms
    rw [e]; exact q⟩
/-! comprehensions whose items are made as they go -/
/-- all but what stands at l stays -/
def SameBut (l : Addr) (H H' : Hp) : Prop := ∀ b o, H b = some o → b ≠ l → H' b = some o
theorem Same.but {H H' : Hp} (s : Same H H') (l : Addr) : SameBut l H H' := fun b o e _ => s b o e
section
variable {K : PySem.W.Frag} {σ : St} {H : Hp} {Q : VK} {te : TE} {cap : List (Option Nat)} {l : Addr}
end
/-! ### a statement with one word behind it -/
def tJoin (t : TS) : TS := fun D σ H => ∃ J : St → Hp → Prop, t { D with nx := J } σ H ∧ ∀ σ' H', J σ' H' → D.nx σ' H'
theorem ps_join {X : Cx} {st : Stmt} {t : TS} (h : PS X st t) : PS X st (tJoin t) := by
  intro pins s σ H D I ⟨J, h1, h2⟩
  refine wpAny_mono (h pins s σ H _ I h1) (fun f s' q => ?_) fun _ _ z => z
  cases f with
  | next => obtain ⟨σ', H', J', q⟩ := q; exact ⟨σ', H', J', h2 σ' H' q⟩
  | brk => exact q
  | cont => exact q
  | ret u => exact q
theorem rd_join {t : TS} {D : Ends} {σ : St} {H : Hp} (J : St → Hp → Prop) (h1 : t { D with nx := J } σ H) (h2 : ∀ σ' H', J σ' H' → D.nx σ' H') : tJoin t D σ H := ⟨J, h1, h2⟩
/-! ### tables: lists of lists of ints -/
structure TblAt (H : Hp) (l : Addr) (rows : List (List Int)) : Prop where
  ob : ∃ as : List Addr, H l = some (.lst (as.map V.ref)) ∧ as.length = rows.length ∧ ∀ (i : Nat) a r, as[i]? = some a → rows[i]? = some r → a ≠ l ∧ H a = some (.lst (r.map V.int))
theorem TblAt.mono {H H' : Hp} {l : Addr} {rows : List (List Int)} (s : Same H H') (h : TblAt H l rows) : TblAt H' l rows := by
  obtain ⟨as, h1, h2, h3⟩ := h.ob
  exact ⟨as, s _ _ h1, h2, fun i a r e1 e2 => ⟨(h3 i a r e1 e2).1, s _ _ (h3 i a r e1 e2).2⟩⟩
theorem TblAt.new {H : Hp} {l : Addr} : TblAt (upd H l (.lst [])) l [] := ⟨[], upd_same, rfl, fun i a r e _ => by simp at e⟩
/-- a row is put behind the others -/
theorem TblAt.snoc {H : Hp} {l a : Addr} {rows : List (List Int)} {r : List Int} {as : List Addr} (h1 : H l = some (.lst (as.map V.ref))) (h2 : as.length = rows.length) (h3 : ∀ (i : Nat) a r, as[i]? = some a → rows[i]? = some r → a ≠ l ∧ H a = some (.lst (r.map V.int)))
    (ha : H a = some (.lst (r.map V.int))) (hn : a ≠ l) : TblAt (upd H l (.lst (as.map V.ref ++ [.ref a]))) l (rows ++ [r]) := by
  refine ⟨as ++ [a], by rw [upd_same, List.map_append]; rfl, by rw [List.length_append, List.length_append, h2]; rfl, fun i b q e1 e2 => ?_⟩
  by_cases hi : i < as.length
  · rw [List.getElem?_append_left hi] at e1
    rw [List.getElem?_append_left (by omega)] at e2
    obtain ⟨n, e⟩ := h3 i b q e1 e2
    exact ⟨n, by rw [upd_ne n]; exact e⟩
  · rw [List.getElem?_append_right (by omega)] at e1
    rw [List.getElem?_append_right (by omega)] at e2
    have hi0 : i - as.length = 0 := by
      have hh := (List.getElem?_eq_some_iff.mp e1).1
      rw [List.length_singleton] at hh
      omega
    rw [hi0] at e1
    rw [← h2, hi0] at e2
    cases e1; cases e2
    exact ⟨hn, by rw [upd_ne hn]; exact ha⟩
theorem repL_rows {H : Hp} {l : Addr} : ∀ {as : List Addr} {rows : List (List Int)}, as.length = rows.length → (∀ (i : Nat) a r, as[i]? = some a → rows[i]? = some r → a ≠ l ∧ H a = some (.lst (r.map V.int))) → RepL H (rows.map fun r => PyData.list (r.map PyData.int)) (as.map V.ref)
  | [], [], _, _ => by simp [RepL]
  | [], _ :: _, h, _ => by cases h
  | _ :: _, [], h, _ => by cases h
  | a :: as, r :: rows, h, k => by
    simp only [List.map_cons, RepL]
    exact ⟨_, _, rfl, rep_ints (k 0 a r rfl rfl).2, repL_rows (by simpa using h) fun i b q e1 e2 => k (i + 1) b q (by simpa using e1) (by simpa using e2)⟩
theorem TblAt.rep {H : Hp} {l : Addr} {rows : List (List Int)} (h : TblAt H l rows) : Rep H (.list (rows.map fun r => PyData.list (r.map PyData.int))) (.ref l) := by
  obtain ⟨as, h1, h2, h3⟩ := h.ob
  simp only [Rep]
  exact ⟨l, _, rfl, h1, repL_rows h2 h3⟩
theorem TblAt.row {H : Hp} {l : Addr} {rows : List (List Int)} {i : Int} (h : TblAt H l rows) (h0 : 0 ≤ i) (h1 : i < rows.length) : ∃ xs a, H l = some (.lst xs) ∧ atI xs i = some (.ref a) ∧ H a = some (.lst ((rows.getD i.toNat []).map V.int)) := by
  obtain ⟨as, e1, e2, e3⟩ := h.ob
  have hi : i.toNat < as.length := by omega
  have hr : i.toNat < rows.length := by omega
  refine ⟨_, as[i.toNat], e1, ?_, ?_⟩
  · have := atI_nat (xs := as.map V.ref) (j := i.toNat) (v := .ref as[i.toNat]) (by rw [List.getElem?_map, List.getElem?_eq_getElem hi]; rfl)
    rwa [Int.toNat_of_nonneg h0] at this
  · rw [List.getD_eq_getElem?_getD, List.getElem?_eq_getElem hr, Option.getD_some]
    exact (e3 i.toNat _ _ (List.getElem?_eq_getElem hi) (List.getElem?_eq_getElem hr)).2
/-! ### pairs of ints -/
def PairsAt (H : Hp) (xs : List V) (ps : List (Int × Int)) : Prop := ∀ (i : Nat) x, xs[i]? = some x → ∃ a p, x = .ref a ∧ ps[i]? = some p ∧ H a = some (.tup [.int p.1, .int p.2])
end L2

set_option Elab.async false
set_option maxRecDepth 100000
namespace L2
open PySem PySem.Spec PyProof.Rows
section
variable {prog : Program} {w : World} {A : Around} {E : Value → Shared → Prop} {s : Shared}
/-- the next item of a tuple's iterator -/
theorem tupNext {I u : Addr} {k : Nat} {its : Array Value} {x : Value} {Q : Value → Shared → Prop} (hI : s.heap.IsTupleIter I u k) (hu : s.heap.IsTuple u its) (hx : its[k]? = some x)
    (hQ : ∀ g, g.IsTupleIter I u (k + 1) → Heap.SameBut I s.heap g → Q x { s with heap := g }) : wpAny (model prog w) A (Builtin.SmallTypes.nextOf (.ref I)) Q E s := by
  obtain ⟨oI, eI, cI, dI⟩ := id hI
  obtain ⟨ou, eu, _, nu, du⟩ := hu
  unfold Builtin.SmallTypes.nextOf
  refine wpAny_bind (wpAny_callSpecial?_slot (name := Str.ofString "__next__") hI.typeIs F.slot_tuple_iterator_next (wpAny_call_entry F.slot_tuple_iterator_next hI.typeIs F.entry_tuple_iterator_next ?_ (F.args_tuple_iterator_next_1 _)))
  show wpAny _ _ (field (.ref I) 0 >>= _) _ _ s
  refine wpAny_bind (wpAny_field eI dI (x := .ref u) rfl ?_)
  show wpAny _ _ (if (Value.ref u == Value.none) = true then _ else _) _ _ s
  rw [if_neg (show ¬ ((Value.ref u == Value.none) = true) from Bool.false_ne_true)]
  show wpAny _ _ (field (.ref I) 1 >>= _) _ _ s
  refine wpAny_bind (wpAny_field eI dI (x := .int k 0) rfl ?_)
  show wpAny _ _ (seqItems? (.ref u) >>= _) _ _ s
  refine wpAny_bind (wpAny_seqItems eu du ?_)
  rw [Int.toNat_natCast]; simp only [hx]
  refine wpAny_bind (wpAny_setField eI dI (by simp) (wpAny_pure ⟨x, rfl, wpAny_pure (hQ _ ?_ (Heap.SameBut.update ..))⟩))
  exact ⟨_, Heap.get?_update_self _ eI (Obj.isFreed_of_fields (Obj.data_mapFields dI _)), (Obj.cls_mapFields ..).trans cI, by rw [Obj.data_mapFields dI]; simp [rawInt]⟩
theorem tupStop {I u : Addr} {k : Nat} {its : Array Value} {Q : Value → Shared → Prop} (hd0 : A.handled = none) (hI : s.heap.IsTupleIter I u k) (hu : s.heap.IsTuple u its) (hx : its[k]? = none)
    (hE : ∀ g e, Heap.ExtBut I s.heap g → (∃ o, g.get? e = some o ∧ o.cls = .type "StopIteration") → E (.ref e) { s with heap := g }) : wpAny (model prog w) A (Builtin.SmallTypes.nextOf (.ref I)) Q E s := by
  obtain ⟨oI, eI, cI, dI⟩ := id hI
  obtain ⟨ou, eu, _, nu, du⟩ := hu
  unfold Builtin.SmallTypes.nextOf
  refine wpAny_bind (wpAny_callSpecial?_slot (name := Str.ofString "__next__") hI.typeIs F.slot_tuple_iterator_next (wpAny_call_entry F.slot_tuple_iterator_next hI.typeIs F.entry_tuple_iterator_next ?_ (F.args_tuple_iterator_next_1 _)))
  show wpAny _ _ (field (.ref I) 0 >>= _) _ _ s
  refine wpAny_bind (wpAny_field eI dI (x := .ref u) rfl ?_)
  show wpAny _ _ (if (Value.ref u == Value.none) = true then _ else _) _ _ s
  rw [if_neg (show ¬ ((Value.ref u == Value.none) = true) from Bool.false_ne_true)]
  show wpAny _ _ (field (.ref I) 1 >>= _) _ _ s
  refine wpAny_bind (wpAny_field eI dI (x := .int k 0) rfl ?_)
  show wpAny _ _ (seqItems? (.ref u) >>= _) _ _ s
  refine wpAny_bind (wpAny_seqItems eu du ?_)
  rw [Int.toNat_natCast]; simp only [hx]
  refine wpAny_bind (wpAny_rule (wpAny_bind (wpAny_setField eI dI (by simp) ?_)))
  show wpAny _ _ (newExc (.type "StopIteration") [] >>= _) _ _ _; refine wpAny_bind ?_
  simp only [newExc, newTuple]; refine wpAny_bind (wpAny_newObj_type ?_ (by size_fits))
  refine wpAny_bind (m := firstArgMember _ _) (wpAny_of_eq (a := Value.none) (by first | rfl | (simp only [firstArgMember]; rfl)) ?_); refine wpAny_newObj_type ?_ (by size_fits)
  simp only [raiseNew]; refine wpAny_bind (wpAny_handled ?_); rw [show A.in1.handled = none from hd0]
  refine wpAny_bind (wpAny_pure (wpAny_throw ?_)); exact hE _ _ (((Heap.SameBut.update ..).extBut.push _).push _) ⟨_, Heap.get?_push_size _ rfl, rfl⟩
/-- zip of two tuples: an item -/
theorem zipT_item {Z TI TO i j u v : Addr} {k l : Nat} {xs ys : Array Value} {x y a b : Value} {Q : Option Value → Shared → Prop} (D : ZipApart Z TI TO i j u v)
    (eZ : IsZip s.heap Z TI TO .none) (eI : IsPair s.heap TI (.ref i) (.ref j)) (eO : IsPair s.heap TO a b) (ei : s.heap.IsTupleIter i u k) (ej : s.heap.IsTupleIter j v l) (eu : s.heap.IsTuple u xs) (ev : s.heap.IsTuple v ys) (hx : xs[k]? = some x) (hy : ys[l]? = some y)
    (hQ : ∀ g, IsZip g Z TI TO (rawInt s.heap.objs.size) → IsPair g TO x y → g.IsTupleIter i u (k + 1) → g.IsTupleIter j v (l + 1) → IsPair g s.heap.objs.size x y → g.objs.size = s.heap.objs.size + 1 →
      (∀ c o, c ≠ Z → c ≠ TO → c ≠ i → c ≠ j → s.heap.get? c = some o → g.get? c = some o) → Q (some (.ref s.heap.objs.size)) { s with heap := g }) : wpAny (model prog w) A (pyNext (.ref Z)) Q E s := by
  have hT : s.TypeIs (.ref Z) "zip" := ⟨_, eZ, rfl⟩
  unfold pyNext
  refine wpAny_bind (wpAny_attempt (wpAny_callSpecial?_slot (name := Str.ofString "__next__") hT F.slot_zip_next (wpAny_call_entry F.slot_zip_next hT F.entry_zip_next ?_ (F.args_zip_next_1 _))))
  show wpAny _ _ (field (.ref Z) 2 >>= _) _ _ _
  refine wpAny_bind (wpAny_field eZ rfl (x := .bool false) rfl ?_)
  show wpAny _ _ (field (.ref Z) 3 >>= _) _ _ _
  refine wpAny_bind (wpAny_field eZ rfl (x := .ref TI) rfl ?_); refine wpAny_bind (wpAny_seqItems eI rfl ?_)
  show wpAny _ _ (Builtin.SmallTypes.ownedTupleIsFree (.ref Z) >>= _) _ _ _
  refine wpAny_bind ?_; unfold Builtin.SmallTypes.ownedTupleIsFree
  refine wpAny_bind (wpAny_field eZ rfl (x := .none) rfl (wpAny_pure ?_)); simp only [if_true]
  refine wpAny_bind (wpAny_rule ?_); refine wpAny_bind (wpAny_field eZ rfl (x := .ref TO) rfl ?_)
  refine wpAny_bind (wpAny_setField_rec eZ (by simp) fun g1 z1 t1 => ?_)
  replace z1 : IsZip g1 Z TI TO .ellipsis := z1
  refine wpAny_bind ?_; simp only [List.zipIdx_cons, List.zipIdx_nil, List.forIn_cons, List.forIn_nil]; refine wpAny_bind (wpAny_bind (wpAny_onRaise ?_))
  show wpAny _ _ (Builtin.SmallTypes.nextOf (.ref i) >>= _) _ _ _
  refine wpAny_bind (tupNext (ei.extBut t1.extBut D.i1z) (eu.extBut t1.extBut D.l1z) hx fun g2 i2 t2 => wpAny_pure ?_)
  have o2 : IsPair g2 TO a b := t2.extBut _ _ D.TOi1 (t1.extBut _ _ D.TOz eO)
  refine wpAny_bind (wpAny_seqItems o2 rfl ?_); refine wpAny_bind (wpAny_updateSeq_pair o2 fun g3 o3 t3 => ?_)
  replace o3 : IsPair g3 TO x b := o3
  refine wpAny_bind (wpAny_letGo (wpAny_pure ?_)); refine wpAny_bind (wpAny_bind (wpAny_onRaise ?_))
  show wpAny _ _ (Builtin.SmallTypes.nextOf (.ref j) >>= _) _ _ _
  refine wpAny_bind (tupNext (((ej.extBut t1.extBut D.i2z).extBut t2.extBut D.i12.symm).extBut t3.extBut D.TOi2.symm) (((ev.extBut t1.extBut D.l2z).extBut t2.extBut D.l2i1).extBut t3.extBut D.l2TO) hy fun g4 j4 t4 => wpAny_pure ?_)
  have o4 : IsPair g4 TO x b := t4.extBut _ _ D.TOi2 o3
  refine wpAny_bind (wpAny_seqItems o4 rfl ?_); refine wpAny_bind (wpAny_updateSeq_pair o4 fun g5 o5 t5 => ?_)
  replace o5 : IsPair g5 TO x y := o5
  refine wpAny_bind (wpAny_letGo (wpAny_pure (wpAny_pure ?_))); refine wpAny_bind (wpAny_seqItems o5 rfl ?_); refine wpAny_bind (wpAny_newTuple ?_)
  have sz : g5.objs.size = s.heap.objs.size := by rw [t5.1, t4.1, t3.1, t2.1, t1.1]
  have z5 : IsZip g5 Z TI TO .ellipsis := t5.extBut _ _ D.TOz.symm (t4.extBut _ _ D.i2z.symm (t3.extBut _ _ D.TOz.symm (t2.extBut _ _ D.i1z.symm z1)))
  have k5 : ∀ c o, c ≠ Z → c ≠ TO → c ≠ i → c ≠ j → s.heap.get? c = some o → g5.get? c = some o := fun c o c1 c2 c3 c4 q => t5.extBut _ _ c2 (t4.extBut _ _ c4 (t3.extBut _ _ c2 (t2.extBut _ _ c3 (t1.extBut _ _ c1 q))))
  have i5 : g5.IsTupleIter i u (k + 1) := ((i2.extBut t3.extBut D.TOi1.symm).extBut t4.extBut D.i12).extBut t5.extBut D.TOi1.symm
  have j5 : g5.IsTupleIter j v (l + 1) := j4.extBut t5.extBut D.TOi2.symm
  have lz : Z < g5.objs.size := Heap.lt_size z5
  show wpAny _ _ (Builtin.SmallTypes.ownedTupleHandOut (.ref Z) (.ref g5.objs.size) >>= _) _ _ _
  refine wpAny_bind ?_; unfold Builtin.SmallTypes.ownedTupleHandOut
  have z6 : IsZip (g5.push { cls := .type "tuple", data := .seq #[x, y] }) Z TI TO .ellipsis := Heap.get?_push_of_some _ z5
  refine wpAny_bind (wpAny_setField_rec z6 (by simp) fun g7 z7 t7 => ?_)
  replace z7 : IsZip g7 Z TI TO (rawInt g5.objs.size) := z7
  refine wpAny_setField_rec z7 (by simp) fun g8 z8 t8 => ?_
  replace z8 : IsZip g8 Z TI TO (rawInt g5.objs.size) := z8
  have up : ∀ c o, c ≠ Z → g5.get? c = some o → g8.get? c = some o := fun c o c1 q => t8.extBut _ _ c1 (t7.extBut _ _ c1 (Heap.get?_push_of_some _ q))
  have n8 : IsPair g8 g5.objs.size x y := t8.extBut _ _ (Nat.ne_of_gt lz) (t7.extBut _ _ (Nat.ne_of_gt lz) (Heap.get?_push_size _ rfl))
  have s8 : g8.objs.size = g5.objs.size + 1 := by rw [t8.1, t7.1, Heap.size_push]
  rw [sz] at z8 n8 s8
  refine wpAny_pure ⟨_, rfl, wpAny_pure ?_⟩
  rw [sz]
  obtain ⟨oi, qi⟩ := i5
  obtain ⟨oj, qj⟩ := j5
  exact hQ g8 z8 (up _ _ D.TOz o5) ⟨oi, up _ _ D.i1z qi.1, qi.2⟩ ⟨oj, up _ _ D.i2z qj.1, qj.2⟩ n8 s8 fun c o c1 c2 c3 c4 q => up c o c1 (k5 c o c1 c2 c3 c4 q)
/-- zip of two tuples: the end of tuples of one length -/
theorem zipT_end {Z TI TO i j u v : Addr} {k : Nat} {xs : Array Value} {Q : Option Value → Shared → Prop} (hd0 : A.handled = none) (D : ZipApart Z TI TO i j u v)
    (eZ : IsZip s.heap Z TI TO .none) (eI : IsPair s.heap TI (.ref i) (.ref j)) (ei : s.heap.IsTupleIter i u k) (eu : s.heap.IsTuple u xs) (hx : xs[k]? = none)
    (hQ : ∀ g, (∀ c o, c ≠ Z → c ≠ TO → c ≠ i → c ≠ j → s.heap.get? c = some o → g.get? c = some o) → Q none { s with heap := g }) : wpAny (model prog w) A (pyNext (.ref Z)) Q E s := by
  have hT : s.TypeIs (.ref Z) "zip" := ⟨_, eZ, rfl⟩
  have body : ∀ (E' : Value → Shared → Prop) (Q' : Fin → Shared → Prop), (∀ g e, (∀ c o, c ≠ Z → c ≠ TO → c ≠ i → c ≠ j → s.heap.get? c = some o → g.get? c = some o) → (∃ o, g.get? e = some o ∧ o.cls = .type "StopIteration") → E' (.ref e) { s with heap := g }) →
      wpAny (model prog w) A.in1 (Builtin.«zip.__next__» ⟨[.ref Z], []⟩) Q' E' s := fun E' Q' hE => by
    show wpAny _ _ (field (.ref Z) 2 >>= _) _ _ _
    refine wpAny_bind (wpAny_field eZ rfl (x := .bool false) rfl ?_)
    show wpAny _ _ (field (.ref Z) 3 >>= _) _ _ _
    refine wpAny_bind (wpAny_field eZ rfl (x := .ref TI) rfl ?_); refine wpAny_bind (wpAny_seqItems eI rfl ?_)
    show wpAny _ _ (Builtin.SmallTypes.ownedTupleIsFree (.ref Z) >>= _) _ _ _
    refine wpAny_bind ?_; unfold Builtin.SmallTypes.ownedTupleIsFree
    refine wpAny_bind (wpAny_field eZ rfl (x := .none) rfl (wpAny_pure ?_)); simp only [if_true]
    refine wpAny_bind (wpAny_rule ?_); refine wpAny_bind (wpAny_field eZ rfl (x := .ref TO) rfl ?_)
    refine wpAny_bind (wpAny_setField_rec eZ (by simp) fun g1 z1 t1 => ?_)
    replace z1 : IsZip g1 Z TI TO .ellipsis := z1
    refine wpAny_bind ?_; simp only [List.zipIdx_cons, List.zipIdx_nil, List.forIn_cons, List.forIn_nil]; refine wpAny_bind (wpAny_bind (wpAny_onRaise ?_))
    show wpAny _ _ (Builtin.SmallTypes.nextOf (.ref i) >>= _) _ _ _
    refine wpAny_bind (tupStop hd0 (ei.extBut t1.extBut D.i1z) (eu.extBut t1.extBut D.l1z) hx fun g2 e t2 he => ?_)
    obtain ⟨oe, q1, q2⟩ := he
    have z2 : IsZip g2 Z TI TO .ellipsis := t2 _ _ D.i1z.symm z1
    have ne : e ≠ Z := fun q => by subst q; rw [z2] at q1; cases q1; simp at q2
    refine wpAny_setField_rec z2 (by simp) fun g3 _ t3 => hE g3 e (fun c o c1 _ c3 _ q => t3.extBut _ _ c1 (t2 _ _ c3 (t1.extBut _ _ c1 q))) ⟨oe, t3.extBut _ _ ne q1, q2⟩
  unfold pyNext
  refine wpAny_bind (wpAny_attempt (wpAny_callSpecial?_slot (name := Str.ofString "__next__") hT F.slot_zip_next (wpAny_call_entry F.slot_zip_next hT F.entry_zip_next (body _ _ fun g e hk he => ?_) (F.args_zip_next_1 _))))
  obtain ⟨o, q1, q2⟩ := he
  exact wpAny_bind (wpAny_isInstance (T := "StopIteration") (b := true) ⟨o, q1, q2⟩ isSubtype_stop (wpAny_pure (hQ _ hk)))
end
end L2

set_option Elab.async false
set_option maxRecDepth 100000
namespace L2
open PySem PySem.Spec PyProof.Rows
theorem istup {h : Heap} {a : Addr} {its : Array Value} (p : IsTup h a its) : h.IsTuple a its := p
/-! ### zip of two tuples of one length, unpacked into names -/
def Itzt (K : PySem.W.Frag) (a b : Addr) : It :=
  ⟨fun i H => ∃ xs ys x y, SqT K H a xs ∧ SqT K H b ys ∧ xs[i]? = some x ∧ ys[i]? = some y,
   fun i H v H' => ∃ T, v = .ref T ∧ H T = none ∧ ∀ xs ys, SqT K H a xs → SqT K H b ys → ∃ x y, xs[i]? = some x ∧ ys[i]? = some y ∧ H' = upd H T (.tup [x, y]),
   fun i H => ∃ xs ys, SqT K H a xs ∧ SqT K H b ys ∧ xs.length ≤ i⟩
theorem turn_zipT {P : Program} {w : World} {K : PySem.W.Frag} {elts : List Expr} {kt : Nat} {pt : Pos} {a b n : Addr} (ha : a < n) (hb : b < n) :
    Turn P w K (.Tuple elts kt pt) (Itzt K a b) [n + 4, n + 2, n + 3, n, n + 1] (n + 4) (fun i h => IsZip h (n + 4) (n + 2) (n + 3) .none ∧ IsPair h (n + 2) (.ref n) (.ref (n + 1)) ∧ (∃ x y, IsPair h (n + 3) x y) ∧ h.IsTupleIter n a i ∧ h.IsTupleIter (n + 1) b i) where
  mem := by simp
  obj := fun i h st c hc => by
    obtain ⟨z1, z2, ⟨x, y, z3⟩, ⟨o4, e4, c4, d4⟩, ⟨o5, e5, c5, d5⟩⟩ := st
    simp only [List.mem_cons, List.not_mem_nil, or_false] at hc
    rcases hc with rfl | rfl | rfl | rfl | rfl
    · exact ⟨_, z1, fun v z => by cases z⟩
    · exact ⟨_, z2, fun v z => by cases z⟩
    · exact ⟨_, z3, fun v z => by cases z⟩
    · exact ⟨_, e4, fun v z => by rw [d4] at z; cases z⟩
    · exact ⟨_, e5, fun v z => by rw [d5] at z; cases z⟩
  keep := fun i h h' st k => by
    obtain ⟨z1, z2, ⟨x, y, z3⟩, z4, z5⟩ := st
    exact ⟨k _ (by simp) _ z1, k _ (by simp) _ z2, ⟨x, y, k _ (by simp) _ z3⟩, z4.at fun o e => k _ (by simp) o e, z5.at fun o e => k _ (by simp) o e⟩
  item := by
    intro X hP hw hK hc i pins s σ H E I hf st hg
    subst hP hw hK
    obtain ⟨xs, ys, x, y, hqa, hqb, hx, hy⟩ := hg
    obtain ⟨its, rv, p, hz⟩ := I.tuple hqa
    obtain ⟨jts, rw', p', hz'⟩ := I.tuple hqb
    obtain ⟨u, hu, ru⟩ := rv.get hx
    obtain ⟨u', hu', ru'⟩ := rw'.get hy
    obtain ⟨z1, z2, ⟨x0, y0, z3⟩, z4, z5⟩ := st
    have D : ZipApart (n + 4) (n + 2) (n + 3) n (n + 1) a b := PyProof.Rows.zipApart_new ha hb
    have ltz : n + 4 < s.heap.objs.size := Heap.lt_size z1
    refine zipT_item D z1 z2 z3 z4 z5 (istup p) (istup p') (x := u) (y := u') (by simpa using hu) (by simpa using hu') fun h' a1 a2 a3 a4 a5 a6 hk => ?_
    refine ⟨_, rfl, wpAny_letOwnedTupleGo_zip (s := { s with heap := h' }) a1 fun h2 b1 hs => ?_⟩
    have neT : ∀ {c : Addr}, c ≤ n + 4 → c ≠ s.heap.objs.size := fun h => Nat.ne_of_lt (Nat.lt_of_le_of_lt h ltz)
    have kk : ∀ c o, c ∉ [n + 4, n + 3, n, n + 1] → s.heap.get? c = some o → h2.get? c = some o := fun c o hc e => by
      simp only [List.mem_cons, List.not_mem_nil, or_false, not_or] at hc
      exact (hs.2 c hc.1).trans (hk c o hc.1 hc.2.1 hc.2.2.1 hc.2.2.2 e)
    have q2 : h2.get? (n + 2) = _ := kk _ _ (by simp only [List.mem_cons, List.not_mem_nil, or_false, not_or]; exact ⟨D.TIz, D.TITO, D.TIi1, D.TIi2⟩) z2
    have q3 : h2.get? (n + 3) = _ := (hs.2 _ D.TOz).trans a2
    obtain ⟨o4, e4, c4⟩ := a3
    obtain ⟨o5, e5, c5⟩ := a4
    have q4 : h2.get? n = _ := (hs.2 _ D.i1z).trans e4
    have q5 : h2.get? (n + 1) = _ := (hs.2 _ D.i2z).trans e5
    have qT : h2.get? s.heap.objs.size = _ := (hs.2 _ (Ne.symm (neT (Nat.le_refl _)))).trans a5
    have sub : ∀ c ∈ [n + 4, n + 3, n, n + 1], c ∈ [n + 4, n + 2, n + 3, n, n + 1] := fun c hc => by
      simp only [List.mem_cons, List.not_mem_nil, or_false] at hc ⊢
      rcases hc with e | e | e | e
      · exact .inl e
      · exact .inr (.inr (.inl e))
      · exact .inr (.inr (.inr (.inl e)))
      · exact .inr (.inr (.inr (.inr e)))
    have I1 : Inv X pins σ (upd H s.heap.objs.size (.tup [x, y])) { s with heap := h2, toks := s.toks } := I.turnedL (ch := [n + 4, n + 3, n, n + 1]) kk (fun c hc => hf c (sub c hc)) (fun c hc => by
        simp only [List.mem_cons, List.not_mem_nil, or_false] at hc
        rcases hc with rfl | rfl | rfl | rfl
        · exact ⟨_, b1⟩
        · exact ⟨_, q3⟩
        · exact ⟨_, q4⟩
        · exact ⟨_, q5⟩) (Nat.le_refl _) ⟨by show 2 ≤ sizeLine; decide, [u, u'], .cons ru (.cons ru' .nil), _, qT, rfl, _, rfl⟩
    refine ⟨.ref s.heap.objs.size, _, I1, rfl, ⟨_, rfl, I.hok.fresh (Nat.le_refl _), fun vs ws hv hw => ?_⟩, ⟨b1, q2, ⟨_, _, q3⟩, ⟨_, q4, c4⟩, ⟨_, q5, c5⟩⟩, fun c hc => ?_⟩
    · rw [I.tuple_inj hv hqa, I.tuple_inj hw hqb]
      exact ⟨x, y, hx, hy, rfl⟩
    · have hle : c ≤ n + 4 := by
        simp only [List.mem_cons, List.not_mem_nil, or_false] at hc
        rcases hc with rfl | rfl | rfl | rfl | rfl
        · exact Nat.le_refl _
        · exact Nat.le_add_right (n + 2) 2
        · exact Nat.le_add_right (n + 3) 1
        · exact Nat.le_add_right _ 4
        · exact Nat.le_add_right (n + 1) 3
      rw [upd_ne (neT hle)]
      exact (hf c hc).1
  done := by
    intro X hP hw hK hc i pins s σ H E I hf st hg
    subst hP hw hK
    obtain ⟨xs, ys, hqa, hqb, hl⟩ := hg
    obtain ⟨its, rv, p, hz⟩ := I.tuple hqa
    obtain ⟨jts, rw', p', hz'⟩ := I.tuple hqb
    obtain ⟨z1, z2, ⟨x0, y0, z3⟩, z4, z5⟩ := st
    have D : ZipApart (n + 4) (n + 2) (n + 3) n (n + 1) a b := PyProof.Rows.zipApart_new ha hb
    have l1 := rv.length
    have l2 := rw'.length
    refine zipT_end (I.ok.hd hc) D z1 z2 z4 (istup p) ?_ fun h' hk => ⟨rfl, ?_⟩
    · simp; omega
    · have fp : ∀ c ∈ [n + 4, n + 3, n, n + 1], FpOk X pins H c := fun c hc => hf c (by
        simp only [List.mem_cons, List.not_mem_nil, or_false] at hc ⊢
        rcases hc with e | e | e | e
        · exact .inl e
        · exact .inr (.inr (.inl e))
        · exact .inr (.inr (.inr (.inl e)))
        · exact .inr (.inr (.inr (.inr e))))
      have kk : ∀ c o, c ∉ [n + 4, n + 3, n, n + 1] → s.heap.get? c = some o → h'.get? c = some o := fun c o hc e => by
        simp only [List.mem_cons, List.not_mem_nil, or_false, not_or] at hc
        exact hk c o hc.1 hc.2.1 hc.2.2.1 hc.2.2.2 e
      have nit : ∀ c u, H c = some u → c ∉ [n + 4, n + 3, n, n + 1] := fun c u e z => by rw [(fp c z).1] at e; cases e
      refine I.step (g' := s.gens) (d' := s.drawn) (t' := s.toks) (ch := [n + 4, n + 3, n, n + 1]) (fun c hc => ⟨(fp c hc).2.2.2.1, (fp c hc).2.1, (fp c hc).2.2.2.2.1, (fp c hc).2.2.2.2.2⟩) (fun c o _ _ hc e _ => kk c o hc e) (fun c o _ _ hc e _ => ⟨o.slots, kk c o hc e⟩) (fun _ _ _ _ n => n)
        (fun c o hc e => ⟨o, kk c o hc e⟩) (fun _ _ e => e) (fun _ _ _ e => e) (fun _ ps e => ⟨#[], by rw [e]; simp⟩) (fun m hm => ?_) (fun c u e => ?_) I.bare
      · obtain ⟨ob, es, ep, ho, r⟩ := hm
        exact ⟨ob, es, ep, kk _ ob (fun z => (fp _ z).2.1 rfl) ho, r⟩
      · refine (I.hok c u e).stay (fun d v hd q => kk d v ?_ q) (fun _ e' => e') fun _ _ e' => e'
        rcases hd with z | z
        · rw [z]; exact nit c u e
        · exact nit d _ z
  self := fun _ _ _ _ _ st h => wpAny_pyIter_zip st.1 h
section
variable {prog : Program} {w : World} {A : Around} {E : Value → Shared → Prop} {s : Shared}
abbrev zT1 (h : Heap) (u : Addr) : Heap := h.push { cls := .type "tuple_iterator", data := .fields #[.ref u, .int 0 0] }
abbrev zT2 (h : Heap) (u v : Addr) : Heap := (zT1 h u).push { cls := .type "tuple_iterator", data := .fields #[.ref v, .int 0 0] }
abbrev zT3 (h : Heap) (u v : Addr) : Heap := (zT2 h u v).push { cls := .type "tuple", data := .seq #[.ref h.objs.size, .ref (zT1 h u).objs.size] }
abbrev zT4 (h : Heap) (u v : Addr) : Heap := (zT3 h u v).push { cls := .type "tuple", data := .seq #[.none, .none] }
abbrev zT5 (h : Heap) (u v : Addr) : Heap := (zT4 h u v).push { cls := .type "zip", data := .fields #[.none, .bool false, .bool false, .ref (zT2 h u v).objs.size, .ref (zT3 h u v).objs.size] }
theorem zipT_new (u v : Addr) (xs ys : Array Value) : Meets (Builtin.«zip.__new__» ⟨[.type "zip", .ref u, .ref v], []⟩) (fun _ R s => s.heap.IsTuple u xs ∧ s.heap.IsTuple v ys ∧ R (.ok (.ret (.ref (zT4 s.heap u v).objs.size))) { s with heap := zT5 s.heap u v }) :=
  .of_wp fun prog w A R s h => by
    obtain ⟨hp, g, d, tk, os⟩ := s; obtain ⟨t1, t2, q⟩ := h
    have sz := sub_zip
    have L1 : Heap.IsTuple (Shared.heap ⟨hp, g, d, tk, os⟩) u xs := t1
    have L2 : Heap.IsTuple (Shared.heap ⟨hp.push { cls := .type "tuple_iterator", data := .fields #[.ref u, .int 0 0] }, g, d, tk, os⟩) v ys := Heap.IsTuple.push t2 _
    wp_walk using wpAny_pyIter_tuple L1, wpAny_pyIter_tuple L2
    exact ⟨_, rfl, q⟩
theorem zipT_call {u v : Addr} {xs ys : Array Value} {Q : Value → Shared → Prop} (t1 : s.heap.IsTuple u xs) (t2 : s.heap.IsTuple v ys)
    (q : ∀ g, IsZip g (s.heap.objs.size + 4) (s.heap.objs.size + 2) (s.heap.objs.size + 3) .none → IsPair g (s.heap.objs.size + 2) (.ref s.heap.objs.size) (.ref (s.heap.objs.size + 1)) → IsPair g (s.heap.objs.size + 3) .none .none →
      g.IsTupleIter s.heap.objs.size u 0 → g.IsTupleIter (s.heap.objs.size + 1) v 0 → (∀ c o, s.heap.get? c = some o → g.get? c = some o) → Q (.ref (s.heap.objs.size + 4)) { s with heap := g }) :
    wpAny (model prog w) A (call (.type "zip") [.ref u, .ref v]) Q E s := by
  refine callType_new F.called_zip (by decide) (F.typeCall_zip_2 _ _) (F.newCall_zip_2 _ _) (fun obj => F.args_object_init_3 obj _ _) F.entry_zip_new (zipT_new u v xs ys) ⟨t1, t2, ?_⟩
  have y1 : (zT1 s.heap u).objs.size = s.heap.objs.size + 1 := Heap.size_push ..
  have y2 : (zT2 s.heap u v).objs.size = s.heap.objs.size + 2 := by rw [Heap.size_push, y1]
  have y3 : (zT3 s.heap u v).objs.size = s.heap.objs.size + 3 := by rw [Heap.size_push, y2]
  have y4 : (zT4 s.heap u v).objs.size = s.heap.objs.size + 4 := by rw [Heap.size_push, y3]
  have k5 : (zT5 s.heap u v).get? (zT4 s.heap u v).objs.size = some _ := Heap.get?_push_size _ rfl
  have k4 : (zT5 s.heap u v).get? (zT3 s.heap u v).objs.size = some _ := Heap.get?_push_of_some _ (Heap.get?_push_size _ rfl)
  have k3 : (zT5 s.heap u v).get? (zT2 s.heap u v).objs.size = some _ := Heap.get?_push_of_some _ (Heap.get?_push_of_some _ (Heap.get?_push_size _ rfl))
  have k2 : (zT5 s.heap u v).get? (zT1 s.heap u).objs.size = some _ := Heap.get?_push_of_some _ (Heap.get?_push_of_some _ (Heap.get?_push_of_some _ (Heap.get?_push_size _ rfl)))
  have k1 : (zT5 s.heap u v).get? s.heap.objs.size = some _ := Heap.get?_push_of_some _ (Heap.get?_push_of_some _ (Heap.get?_push_of_some _ (Heap.get?_push_of_some _ (Heap.get?_push_size _ rfl))))
  show _ ∧ _
  rw [y2, y3, y4] at k5
  rw [y1, y2] at k3
  rw [y3] at k4
  rw [y1] at k2
  refine ⟨by rw [y4]; exact ⟨_, k5, rfl⟩, ?_⟩
  rw [y4]
  exact q _ k5 k3 k4 ⟨_, k1, rfl, rfl⟩ ⟨_, k2, rfl, rfl⟩ fun c o z => Heap.get?_push_of_some _ (Heap.get?_push_of_some _ (Heap.get?_push_of_some _ (Heap.get?_push_of_some _ (Heap.get?_push_of_some _ z))))
end
section
variable {X : Cx} {elts : List Expr} {kt : Nat} {pt : Pos}
/-- zip(a, b) of two lists, or of two tuples -/
def iZipS (K : PySem.W.Frag) (ta : TA) : TI := fun σ H R => ta σ H fun vs H1 => ∃ a b, vs = [.ref a, .ref b] ∧ (((∃ xs, SqL K H1 a xs) ∧ (∃ ys, SqL K H1 b ys) ∧ R (Itz K a b) H1) ∨ ((∃ xs, SqT K H1 a xs) ∧ (∃ ys, SqT K H1 b ys) ∧ R (Itzt K a b) H1))
theorem pi_zipS {a b : Expr} {ta : TA} {p pos : Pos} (hg : Gl X "zip") (hm : X.mg "zip" = none) (ha : PA X [a, b] ta) (hs : starEach [a, b] X.env = [(false, eval a X.env), (false, eval b X.env)] := by rfl) (hs2 : starEach [b] X.env = [(false, eval b X.env)] := by rfl) :
    PI X (.Tuple elts kt pt) (.Call (.Name "zip" p) [a, b] [] pos) (iZipS X.K ta) := by
  intro pins s σ H R I h
  refine Call_ (ld_blt I hg hm (by rfl : bootBuiltins "zip" = some (.type "zip")) (PyProof.Rows.callWith_type1 (thn (ha pos pins s σ H _ I h) fun us s1 ⟨vs, H1, I1, r1, q1⟩ => ?_) (by rw [hs, hs2]) (by rw [hs2]; rfl)))
  obtain ⟨a, b, e, q⟩ := q1
  subst e
  obtain ⟨u, v, rfl, ru, rv⟩ := r1.two
  cases (show u = Value.ref a from ru)
  cases (show v = Value.ref b from rv)
  rcases q with ⟨⟨xs, ha⟩, ⟨ys, hb⟩, q⟩ | ⟨⟨xs, ha⟩, ⟨ys, hb⟩, q⟩
  · obtain ⟨its, _, p1, _⟩ := I1.list ha
    obtain ⟨jts, _, p2, _⟩ := I1.list hb
    have l1 : a < s1.heap.objs.size := let ⟨o, ho, _⟩ := p1.isList; Heap.lt_size ho
    have l2 : b < s1.heap.objs.size := let ⟨o, ho, _⟩ := p2.isList; Heap.lt_size ho
    refine call_zip_2 p1.isList p2.isList fun h' hz hTI hTO h1 h2 hsz hk => wpAny_pyIter_zip (s := { s1 with heap := h' }) hz ?_
    refine ⟨s1.heap.objs.size + 4, _, _, _, H1, rfl, I1.kept (t' := s1.toks) hk, turn_zip l1 l2, ⟨hz, hTI, ⟨_, _, hTO⟩, h1, h2⟩, fun c hc => ?_, q⟩
    have hle : s1.heap.objs.size ≤ c := by
      simp only [List.mem_cons, List.not_mem_nil, or_false] at hc
      rcases hc with rfl | rfl | rfl | rfl | rfl
      · exact Nat.le_add_right _ _
      · exact Nat.le_add_right _ _
      · exact Nat.le_add_right _ _
      · exact Nat.le_refl _
      · exact Nat.le_add_right _ _
    exact I1.fpOk hle (I1.hok.fresh hle)
  · obtain ⟨its, _, p1, _⟩ := I1.tuple ha
    obtain ⟨jts, _, p2, _⟩ := I1.tuple hb
    have l1 : a < s1.heap.objs.size := let ⟨o, ho, _⟩ := istup p1; Heap.lt_size ho
    have l2 : b < s1.heap.objs.size := let ⟨o, ho, _⟩ := istup p2; Heap.lt_size ho
    refine zipT_call (istup p1) (istup p2) fun h' hz hTI hTO h1 h2 hk => wpAny_pyIter_zip (s := { s1 with heap := h' }) hz ?_
    refine ⟨s1.heap.objs.size + 4, _, _, _, H1, rfl, I1.kept (t' := s1.toks) hk, turn_zipT l1 l2, ⟨hz, hTI, ⟨_, _, hTO⟩, h1, h2⟩, fun c hc => ?_, q⟩
    have hle : s1.heap.objs.size ≤ c := by
      simp only [List.mem_cons, List.not_mem_nil, or_false] at hc
      rcases hc with rfl | rfl | rfl | rfl | rfl
      · exact Nat.le_add_right _ _
      · exact Nat.le_add_right _ _
      · exact Nat.le_add_right _ _
      · exact Nat.le_refl _
      · exact Nat.le_add_right _ _
    exact I1.fpOk hle (I1.hok.fresh hle)
end
theorem rd_izipS {K : PySem.W.Frag} {σ : St} {H : Hp} {ta : TA} {R : It → Hp → Prop} (h : ta σ H fun vs H1 => ∃ a b, vs = [.ref a, .ref b] ∧ (((∃ xs, SqL K H1 a xs) ∧ (∃ ys, SqL K H1 b ys) ∧ R (Itz K a b) H1) ∨ ((∃ xs, SqT K H1 a xs) ∧ (∃ ys, SqT K H1 b ys) ∧ R (Itzt K a b) H1))) : iZipS K ta σ H R := h
theorem cutV_takeG {xs : List V} {k : Nat} : cutV xs none (some (k : Int)) = xs.take k := by
  unfold cutV
  rw [HT.sIx_none, HT.sIx_nat, List.drop_zero, Nat.sub_zero]
  rcases Nat.le_total k xs.length with h | h
  · rw [Nat.min_eq_left h]
  · rw [Nat.min_eq_right h, List.take_of_length_le (Nat.le_refl _), List.take_of_length_le h]
end L2

set_option Elab.async false
set_option maxRecDepth 100000
namespace L2
open PySem PySem.Spec PyProof.Rows
def rInsert : V → List V → Hp → VK → Prop := fun x vs H Q => ∃ l xs y, ∃ k : Nat, x = .ref l ∧ vs = [.int (k : Int), y] ∧ H l = some (.lst xs) ∧ k ≤ xs.length ∧ xs.length ≤ 1000 ∧ Q .non (upd H l (.lst (xs.take k ++ y :: xs.drop k)))
def rMax2 : List V → Hp → VK → Prop := fun xs H Q => ∃ i j, xs = [.int i, .int j] ∧ Q (.int (if j > i then j else i)) H
end L2

set_option Elab.async false
set_option linter.all false
set_option maxRecDepth 100000
namespace L2
open PySem PySem.Spec PyProof.Rows
section
variable {K : PySem.W.Frag} {σ : St} {H : Hp} {Q : VK} {te : TE} {cap : List (Option Nat)} {l : Addr}
end
end L2

set_option Elab.async false
set_option linter.all false
set_option maxRecDepth 100000
namespace L2
open PySem PySem.Spec PyProof.Rows
/-! ### enumerate of a list, unpacked into names -/
def Ite (K : PySem.W.Frag) (a : Addr) : It :=
  ⟨fun i H => ∃ xs x, SqL K H a xs ∧ xs[i]? = some x,
   fun i H v H' => ∃ T, v = .ref T ∧ H T = none ∧ ∀ xs, SqL K H a xs → ∃ x, xs[i]? = some x ∧ H' = upd H T (.tup [.int (i : Nat), x]),
   fun i H => ∃ xs, SqL K H a xs ∧ xs.length ≤ i⟩
section
variable {X : Cx} {elts : List Expr} {kt : Nat} {pt : Pos}
def iEnum (K : PySem.W.Frag) (ta : TA) : TI := fun σ H R => ta σ H fun vs H1 => ∃ a, vs = [.ref a] ∧ (∃ xs, SqL K H1 a xs) ∧ R (Ite K a) H1
end
theorem lay_ints : ∀ bs : List Int, PyData.canLayAll0 (bs.map PyData.int) = true
  | [] => rfl
  | _ :: r => by simp [PyData.canLayAll0, PyData.canLay0, lay_ints r]
theorem deep_ints : ∀ bs : List Int, PyData.depthAll (bs.map PyData.int) = 0
  | [] => rfl
  | _ :: r => by simp [PyData.depthAll, PyData.depth, deep_ints r]
end L2

set_option Elab.async false
set_option maxHeartbeats 4000000
set_option linter.all false
open PySem PySem.Spec PyProof.Rows
namespace L2
/-- C.m as a def of the class itself -/
structure ClsFn (K : PySem.W.Frag) (C : Addr) (m : Str) (f : Addr) : Prop where
  ga : PySem.W.specialIn K (.ref C) "__getattribute__" = some (some (.builtin "type.__getattribute__"))
  rd : PySem.W.readsIn K C (.type "type") = true
  at_ : PySem.W.findCls K (.ref C) (.type "type") m = some (.val (.ref f))
  kp : PySem.W.keepIn K (.ref f) = true
section
variable {X : Cx} {CX : CXT} {k : Nat} {f C : Addr} {fd : FuncData} {ps : List Str} {sp : Sp} {dvs : List V} {ds : List Value} {E : XK} {x m : Str} {p pos apos : Pos} {e o : Expr} {es : List Expr} {ta : TE} {t : TA}
end
end L2

set_option Elab.async false
set_option linter.all false
namespace L2
open PySem PySem.Spec PyProof.Rows
/-! ### readings under a name: the rest of a text is not written out at every step -/
theorem cutC {X : Cx} {s : Stmt} {ss : List Stmt} {r : TS} {C : TS → Prop} (d : PS X s r) (k : ∀ r', r' = r → ∃ ts, PSs X ss ts ∧ C (tSeq r' ts)) : ∃ ts, PSs X (s :: ss) ts ∧ C ts :=
  let ⟨_, h1, h2⟩ := k r rfl
  ⟨_, pss_cons d h1, h2⟩
theorem cutE {X : Cx} {s : Stmt} {r : TS} {C : TS → Prop} (d : PS X s r) (k : ∀ r', r' = r → C r') : ∃ ts, PSs X [s] ts ∧ C ts := ⟨_, pss_one d, k r rfl⟩
theorem rd_cut {r r' : TS} {D : Ends} {σ : St} {H : Hp} (e : r' = r) (h : r D σ H) : r' D σ H := e ▸ h
theorem rd_seqA {t u : TS} {D : Ends} {σ : St} {H : Hp} (k : ∀ u', u' = u → t { D with nx := u' D } σ H) : tSeq t u D σ H := k u rfl
theorem len1 {us : List Value} (h : us.length = 1) : ∃ a0, us = [a0] := match us, h with | [a0], _ => ⟨a0, rfl⟩
theorem len2 {us : List Value} (h : us.length = 2) : ∃ a0 a1, us = [a0, a1] := match us, h with | [a0, a1], _ => ⟨a0, a1, rfl⟩
theorem len3 {us : List Value} (h : us.length = 3) : ∃ a0 a1 a2, us = [a0, a1, a2] := match us, h with | [a0, a1, a2], _ => ⟨a0, a1, a2, rfl⟩
theorem len4 {us : List Value} (h : us.length = 4) : ∃ a0 a1 a2 a3, us = [a0, a1, a2, a3] := match us, h with | [a0, a1, a2, a3], _ => ⟨a0, a1, a2, a3, rfl⟩
end L2

set_option Elab.async false
set_option linter.all false
set_option maxRecDepth 100000
set_option maxHeartbeats 4000000
namespace L2
open PySem PySem.Spec PyProof.Rows
/-! ### lists of pairs as tables -/
section
variable {κ : Type} [DecidableEq κ]
def valV (kvs : List (κ × V)) (k : κ) : Option V := (kvs.find? fun kv => decide (kv.1 = k)).map (·.2)
/-- in its place, or at the end -/
def putK (kvs : List (κ × V)) (k : κ) (v : V) : List (κ × V) :=
  if (kvs.any fun kv => decide (kv.1 = k)) = true then kvs.map (fun kv => if kv.1 = k then (kv.1, v) else kv) else kvs ++ [(k, v)]
def dropK (kvs : List (κ × V)) (k : κ) : List (κ × V) := kvs.filter fun kv => decide (kv.1 ≠ k)



end


/-! ### a tracked dict, its keys ints and texts or tuples of these -/

/-- raw entries of a dict with tuple keys -/
abbrev KT (H : Hp) : List (List Key × V) → List (List Key × Addr × Value) → Prop := Paired fun p q => p.1 = q.1 ∧ H q.2.1 = some (.tup (p.1.map kV)) ∧ RelV p.2 q.2.2

section
variable {P : Program} {w : World} {H : Hp} {h : Heap} {a : Addr}
end

/-- what the dict at a holds at the key y -/
def DGet (H : Hp) (a : Addr) (y : V) (r : Option V) : Prop :=
  (∃ kvs k, Rd H a (.dK kvs) ∧ y = kV k ∧ r = valV kvs k) ∨ ∃ kvs k b, Rd H a (.dT kvs) ∧ y = .ref b ∧ H b = some (.tup (k.map kV)) ∧ r = valV kvs k
/-- the heap behind a[y] = v -/
def DPut (H : Hp) (a : Addr) (y v : V) (H' : Hp) : Prop :=
  (∃ kvs k, H a = some (.dK kvs) ∧ y = kV k ∧ kvs.length < sizeLine ∧ H' = upd H a (.dK (putK kvs k v))) ∨
  ∃ kvs k b, H a = some (.dT kvs) ∧ y = .ref b ∧ H b = some (.tup (k.map kV)) ∧ kvs.length < sizeLine ∧ H' = upd H a (.dT (putK kvs k v))


section
variable {X : Cx} {pins : List (Addr × Obj)} {σ : St} {H : Hp} {s : Shared} {a : Addr} {y v : V} {u r : Value} {o : Option V} {A : Around} {E : Value → Shared → Prop}


end

section
variable {X : Cx} {pins : List (Addr × Obj)} {σ : St} {H : Hp} {s : Shared} {a : Addr} {kvs : List (Key × V)} {k : Key} {u : Value} {A : Around} {E : Value → Shared → Prop}
end


/-! ### readings and rules -/
/-- the element of a subscription, not a slice -/
def NoSl (i : Expr) : Prop := ∀ ov iv, subscripted i false ov iv = operate [ov, iv] (getItem ov iv)


/-- d[y] -/
def tDGet (td ty : TE) : TE := fun σ H Q => td σ H fun x H1 => ty σ H1 fun y H2 => ∃ a v, x = .ref a ∧ DGet H2 a y (some v) ∧ Q v H2
/-- y in d, y not in d -/
def tDIn (ty td : TE) : TE := fun σ H Q => ty σ H fun y H1 => td σ H1 fun x H2 => ∃ a o, x = .ref a ∧ DGet H2 a y o ∧ Q (.bl o.isSome) H2
def tDNotIn (ty td : TE) : TE := fun σ H Q => ty σ H fun y H1 => td σ H1 fun x H2 => ∃ a o, x = .ref a ∧ DGet H2 a y o ∧ Q (.bl (!o.isSome)) H2
/-- d[y] = v -/
def sDPut (td ty tv : TE) : TS := fun D σ H => tv σ H fun v H1 => td σ H1 fun x H2 => ty σ H2 fun y H3 => ∃ a H4, x = .ref a ∧ DPut H3 a y v H4 ∧ D.nx σ H4
/-- d[y] op= v -/
def sDAug (td ty tv : TE) (rd : V → V → Hp → VK → Prop) : TS := fun D σ H => td σ H fun x H1 => ty σ H1 fun y H2 => ∃ a v, x = .ref a ∧ DGet H2 a y (some v) ∧
  tv σ H2 fun y2 H3 => rd v y2 H3 fun z H4 => ∃ H5, DPut H4 a y z H5 ∧ D.nx σ H5
/-- del d[y] -/
def sDDel (td ty : TE) : TS := fun D σ H => td σ H fun x H1 => ty σ H1 fun y H2 => ∃ a kvs k, x = .ref a ∧ H2 a = some (.dK kvs) ∧ y = kV k ∧ (valV kvs k).isSome = true ∧ D.nx σ (upd H2 a (.dK (dropK kvs k)))

section
variable {X : Cx} {o i e value : Expr} {pos pos' tpos : Pos} {td ty tv : TE}
end


/-! ### displays -/
/-- {}, to be a dict of the kind that is wanted -/
def tDNewK : TE := fun _ H Q => ∀ p, H p = none → Q (.ref p) (upd H p (.dK []))
def tDNewT : TE := fun _ H Q => ∀ p, H p = none → Q (.ref p) (upd H p (.dT []))
section
variable {X : Cx} {pos : Pos}
end

/-- the pairs of a display, from the left -/
def tPairs : List (TE × TE) → St → Hp → (List (V × V) → Hp → Prop) → Prop
  | [], _, H, Q => Q [] H
  | (tk, tv) :: r, σ, H, Q => tk σ H fun x H1 => tv σ H1 fun y H2 => tPairs r σ H2 fun ps H3 => Q ((x, y) :: ps) H3
abbrev VV : List (V × V) → List (Value × Value) → Prop := Paired fun p q => RelV p.1 q.1 ∧ RelV p.2 q.2
def PPs (X : Cx) (pos : Pos) (keys : List (Option Expr)) (values : List Expr) (trs : List (TE × TE)) : Prop :=
  ∀ (pins : List (Addr × Obj)) (s : Shared) (σ : St) (H : Hp) (Q : List (V × V) → Hp → Prop), Inv X pins σ H s → tPairs trs σ H Q →
    wpAny (model X.prog X.w) X.A (evalPairs (pairTrees keys values X.env pos)) (fun vs s' => ∃ ps H', Inv X pins σ H' s' ∧ VV ps vs ∧ Q ps H') X.xe s

def mergeK (kvs more : List (Key × V)) : List (Key × V) := more.foldl (fun acc kv => putK acc kv.1 kv.2) kvs
/-- {k: v, ..} with keys ints and texts; the new dict stands empty while the pairs are made -/
def tDisp (trs : List (TE × TE)) : TE := fun σ H Q => ∀ p, H p = none → tPairs trs σ (upd H p (.dK [])) fun ps H2 => H2 p = some (.dK []) ∧ ∃ kvs : List (Key × V), ps = kvs.map (fun kv => (kV kv.1, kv.2)) ∧ kvs.length ≤ 15 ∧ Q (.ref p) (upd H2 p (.dK (mergeK [] kvs)))


/-! ### methods -/
/-- a method call o.m(e) of a built-in, with one argument: what must be seen of the text -/
structure M1 (X : Cx) (o : Expr) (m : Str) (apos : Pos) (e : Expr) (cpos : Pos) : Prop where
  base : attributeBase o m X.env (eval o X.env) = eval o X.env
  few : ((backTo cpos (starEach [e] X.env)).all (fun x => !x.1) && (backToKw cpos (keywordEach [] X.env)).all (fun x => x.1.isSome)
    && decide (([e] : List Expr).length + ([] : List Keyword).length + (if ([] : List Keyword).isEmpty then 0 else 1) < 30)) = true
  line : (apos.endLine == cpos.line) = true
  trees : backTo cpos (starEach [e] X.env) = [(false, eval e X.env)]
structure M2 (X : Cx) (o : Expr) (m : Str) (apos : Pos) (e f : Expr) (cpos : Pos) : Prop where
  base : attributeBase o m X.env (eval o X.env) = eval o X.env
  few : ((backTo cpos (starEach [e, f] X.env)).all (fun x => !x.1) && (backToKw cpos (keywordEach [] X.env)).all (fun x => x.1.isSome)
    && decide (([e, f] : List Expr).length + ([] : List Keyword).length + (if ([] : List Keyword).isEmpty then 0 else 1) < 30)) = true
  line : (apos.endLine == cpos.line) = true
  trees : backTo cpos (starEach [e, f] X.env) = [(false, eval e X.env), (false, eval f X.env)]

/-- a is a dict, whatever its keys -/
def IsD (H : Hp) (a : Addr) : Prop := (∃ kvs, Rd H a (.dK kvs)) ∨ ∃ kvs, Rd H a (.dT kvs)

section
variable {X : Cx} {pins : List (Addr × Obj)} {σ : St} {H : Hp} {s : Shared} {a : Addr} {y d : V} {u r : Value} {o : Option V} {A : Around} {E : Value → Shared → Prop}
end

def tDGet1 (td ty : TE) : TE := fun σ H Q => td σ H fun x H1 => ∃ a, x = .ref a ∧ IsD H1 a ∧ ty σ H1 fun y H2 => ∃ o, DGet H2 a y o ∧ Q (o.getD .non) H2
def tDGet2 (td ty tx : TE) : TE := fun σ H Q => td σ H fun x H1 => ∃ a, x = .ref a ∧ IsD H1 a ∧ ty σ H1 fun y H2 => tx σ H2 fun z H3 => ∃ o, DGet H3 a y o ∧ Q (o.getD z) H3
/-- d.pop(k): there; d.pop(k, x): there or not -/
def tDPop1 (td ty : TE) : TE := fun σ H Q => td σ H fun x H1 => ∃ a, x = .ref a ∧ IsD H1 a ∧ ty σ H1 fun y H2 => ∃ kvs k v, H2 a = some (.dK kvs) ∧ y = kV k ∧ valV kvs k = some v ∧ Q v (upd H2 a (.dK (dropK kvs k)))
def tDPop2 (td ty tx : TE) : TE := fun σ H Q => td σ H fun x H1 => ∃ a, x = .ref a ∧ IsD H1 a ∧ ty σ H1 fun y H2 => tx σ H2 fun z H3 => ∃ kvs k, H3 a = some (.dK kvs) ∧ y = kV k ∧
  (∀ v, valV kvs k = some v → Q v (upd H3 a (.dK (dropK kvs k)))) ∧ (valV kvs k = none → Q z H3)
section
variable {X : Cx} {o e f : Expr} {apos cpos : Pos} {td ty tx : TE}
end

/-! ### dict(d): a copy -/
section
variable {X : Cx} {pins : List (Addr × Obj)} {σ : St} {H : Hp} {s : Shared} {a : Addr} {kvs : List (Key × V)} {A : Around} {E : Value → Shared → Prop}
end


section
variable {X : Cx} {pins : List (Addr × Obj)} {σ : St} {H : Hp} {s : Shared} {a : Addr} {y : V} {u : Value} {A : Around} {E : Value → Shared → Prop}
end
end L2

set_option Elab.async false
set_option linter.all false
set_option maxRecDepth 100000
set_option maxHeartbeats 4000000
namespace L2
open PySem PySem.Spec PyProof.Rows
/-! ### range with a step of two -/
def It2 (lo : Int) (n : Nat) : It := ⟨fun i _ => i < n, fun i H x H' => H' = H ∧ x = .int (lo + i * 2), fun i _ => n ≤ i⟩
/-- how many turns -/
def cnt2 (i j : Int) : Nat := ((j - i + 1) / 2).toNat
def iRng3 (ta : TA) : TI := fun σ H R => ta σ H fun vs H1 => ∃ i j : Int, vs = [.int i, .int j, .int 2] ∧ 0 ≤ i ∧ i ≤ j ∧ j < 2 ^ 40 ∧ R (It2 i (cnt2 i j)) H1
section
variable {X : Cx} {tg : Expr}
end
/-! ### an item of a list, by its number from nought -/
def rGetN (K : PySem.W.Frag) : V → V → Hp → VK → Prop := fun o i H Q => ∃ p xs j v, o = .ref p ∧ i = .int ((j : Nat) : Int) ∧ SqL K H p xs ∧ xs[j]? = some v ∧ Q v H
/-! ### dicts by pairs -/
/-- len(d) of a dict whose keys are tuples -/
def rLenT : List V → Hp → VK → Prop := fun xs H Q => ∃ p kvs, xs = [.ref p] ∧ H p = some (.dT kvs) ∧ Q (.int (kvs.length : Nat)) H
/-! ### a comprehension over enumerate of a list -/
end L2

set_option Elab.async false
set_option linter.all false
set_option maxRecDepth 100000
namespace L2
open PySem PySem.Spec PyProof.Rows
/-! ### comprehensions whose own names are cells (caught by a comprehension within) -/
/-- the context of such a block -/
def Cx.block2 (X : Cx) (scope : Scope) (N : List Str) (s : Shared) (H : Hp) (fp : List Addr) : Cx :=
  { X.block scope N s H fp with
    env := compEnvC scope (cellsFrom (s.heap.objs.size + 1) scope.names (closOf X.env.cells scope.names [])) s.heap.objs.size X.env
    fn := fun x => scope.names.any fun y => y.1 == x && y.2 == .cell }
structure CompOk2 (X : Cx) (scope : Scope) (N : List Str) (cap : List (Option Nat)) : Prop where
  kind : scope.kind = .function
  loc : (scope.names.all fun y => !(y.2 == .local) || (scope.names.lookup y.1 == some .local)) = true
  fre : (scope.names.all fun y => !(y.2 == .free) || isCl (X.env.kindOf y.1)) = true
  len : cap.length = N.length
  cap : ((cap.zip N).all fun p => match p.1 with | none => true | some j => (X.N[j]? == some p.2) && isCl (X.env.kindOf p.2) && isCl ((relabel scope X.env).names.lookup p.2) && !(scope.names.contains (p.2, NameKind.cell))) = true
section
variable {X : Cx} {pins : List (Addr × Obj)} {σ : St} {H : Hp} {s : Shared} {fp : List Addr} {scope : Scope} {N : List Str} {cap : List (Option Nat)}
end
section
variable {X : Cx} {elt tg iter : Expr} {ifs : List Expr} {scope : Scope} {pos : Pos} {N : List Str} {cap : List (Option Nat)} {wi : TI} {g : TG} {tt : TT} {te : TE}
end
end L2

set_option Elab.async false
set_option linter.all false
set_option maxRecDepth 100000
set_option maxHeartbeats 4000000
namespace L2
open PySem PySem.Spec PyProof.Rows
/-! ### list(reversed(xs)) -/
section
variable {prog : Program} {w : World} {A : Around} {E : Value → Shared → Prop} {s : Shared} {R : Result → Shared → Prop} {I : Addr} {fp wr : List Addr} {G : Array GenState → Array GenState → Prop} {n : Nat} {P : Nat → Value → Prop} {St : Nat → Shared → Prop}
end
/-- list(reversed(e)) -/
def tRevL (K : PySem.W.Frag) (te : TE) : TE := fun σ H Q => te σ H fun x H1 => ∃ p ys, x = .ref p ∧ SqL K H1 p ys ∧ ∀ l, H1 l = none → Q (.ref l) (upd H1 l (.lst ys.reverse))
def tSlR (K : PySem.W.Frag) (te : TE) (ts : TO) : TE := fun σ H Q => te σ H fun x H1 => ts σ H1 fun k H2 => k = some (-1) ∧ ∃ p ys, x = .ref p ∧ SqL K H2 p ys ∧ ∀ l, H2 l = none → Q (.ref l) (upd H2 l (.lst ys.reverse))
def rRev (K : PySem.W.Frag) (x : V) (H : Hp) (Q : VK) : Prop := ∃ p ys, x = .ref p ∧ SqL K H p ys ∧ ∀ l, H l = none → Q (.ref l) (upd H l (.lst ys.reverse))
section
variable {X : Cx}
end
end L2

set_option Elab.async false
set_option linter.all false
set_option maxHeartbeats 1000000
namespace NR
/-- sum of f i, i < n -/
def sm : Nat → (Nat → Int) → Int
  | 0, _ => 0
  | n + 1, f => sm n f + f n
def ib (p : Prop) [Decidable p] : Int := if p then 1 else 0
/-- a closed walk by turns along rows and columns, each row and each column gone one way -/
structure Orb (n : Nat) (e d : Int → Int) (X Y : Nat → Int) : Prop where
  pos : 0 < n
  he : ∀ y, e y = 1 ∨ e y = -1
  hd : ∀ x, d x = 1 ∨ d x = -1
  sx : ∀ i, X (i + 1) = X i + e (Y i)
  sy : ∀ i, Y (i + 1) = Y i + d (X (i + 1))
  cx : X n = X 0
  cy : Y n = Y 0
  dist : ∀ i k, i < n → k < n → X i = X k → Y i = Y k → i = k
section
variable {n : Nat} {e d : Int → Int} {X Y : Nat → Int}
def s1 (X Y : Nat → Int) (i k : Nat) : Int := ib (Y (i + 1) < Y (k + 1) ∨ (Y (i + 1) = Y (k + 1) ∧ X (i + 1) < X (k + 1)))
def s2 (X Y : Nat → Int) (i k : Nat) : Int := ib (Y i < Y k ∨ (Y i = Y k ∧ X (i + 1) < X (k + 1)))
/-- up and down -/
def Up (d : Int → Int) (X : Nat → Int) (i : Nat) : Prop := d (X (i + 1)) = 1
instance (d : Int → Int) (X : Nat → Int) (i : Nat) : Decidable (Up d X i) := inferInstanceAs (Decidable (_ = _))
end
end NR

set_option linter.all false
set_option Elab.async false
set_option maxHeartbeats 4000000
namespace Ts
open PySem PyProof.Rows
def gallop' : Bool → Keyed → Array Keyed → Nat → Nat → Nat → StateT SortSt Sem (Option Nat) := sortPriv% PySem.Builtin.gallop
def mergeLo' : Array Keyed → Array Keyed → StateT SortSt Sem (Array Keyed) := sortPriv% PySem.Builtin.mergeLo
def mergeHi' : Array Keyed → Array Keyed → StateT SortSt Sem (Array Keyed) := sortPriv% PySem.Builtin.mergeHi
/-- a strict order of which "not less" goes on -/
structure Less (lt : Keyed → Keyed → Bool) : Prop where
  asym : ∀ {x y}, lt x y = true → lt y x = false
  tr : ∀ {x y z}, lt y x = false → lt z y = false → lt z x = false
def Le (lt : Keyed → Keyed → Bool) (x y : Keyed) : Prop := lt y x = false
section
variable {M : Model} {A : Around} {E : Value → Shared → Prop} {s : Shared}
/-- items of S are compared, and nothing else happens -/
def Asks (M : Model) (A : Around) (E : Value → Shared → Prop) (s : Shared) (κ : SortKind) (S : Keyed → Prop) (lt : Keyed → Keyed → Bool) : Prop :=
  ∀ (x y : Keyed) (st : SortSt) (Q : Option Bool → SortSt → Prop), S x → S y → kindOf st = κ → Q (some (lt x y)) st → wpS M A E s (lt' x y) Q st
/-- what a gallop finds: how many items from a place on are beyond -/
structure Cut (b : Nat → Bool) (n k : Nat) : Prop where
  le : k ≤ n
  yes : ∀ i, i < k → b i = true
  no : ∀ i, k ≤ i → i < n → b i = false
end
end Ts

set_option linter.all false
set_option Elab.async false
set_option maxHeartbeats 4000000
namespace Ts
open PySem PyProof.Rows
section
variable {M : Model} {A : Around} {E : Value → Shared → Prop} {s : Shared}
end
/-- two sorted lists on their way into one -/
structure Mg (lt : Keyed → Keyed → Bool) (a b out : List Keyed) (ia ib : Nat) : Prop where
  perm : (out ++ (a.drop ia ++ b.drop ib)).Perm (a ++ b)
  srt : out.Pairwise (Le lt)
  le_ : ∀ x ∈ out, ∀ y ∈ a.drop ia ++ b.drop ib, Le lt x y
def Res (lt : Keyed → Keyed → Bool) (a b r : List Keyed) : Prop := r.Perm (a ++ b) ∧ r.Pairwise (Le lt)
/-- only the gallop's count differs -/
structure Sim (st st' : SortSt) : Prop where
  kind : kindOf st' = kindOf st
  arr : arrOf st' = arrOf st
  pend : pendingOf st' = pendingOf st
  failed : failedOf st' = failedOf st
end Ts

set_option linter.all false
set_option Elab.async false
set_option maxHeartbeats 4000000
namespace Ts
open PySem PyProof.Rows
abbrev CS1 := Option (Array Keyed) × Array Keyed × Nat × Nat × Nat
abbrev CS2 := Option (Array Keyed) × Array Keyed × Nat × Nat × Nat × Nat
abbrev CS3 := Option (Array Keyed) × Array Keyed × Nat × Nat × Nat × Nat × Nat
section
variable {M : Model} {A : Around} {E : Value → Shared → Prop} {s : Shared}
end
end Ts

set_option linter.all false
set_option Elab.async false
set_option maxHeartbeats 4000000
namespace Ts
open PySem PyProof.Rows
/-- two sorted lists on their way into one, from their ends -/
structure Mh (lt : Keyed → Keyed → Bool) (a b out : List Keyed) (na nb : Nat) : Prop where
  perm : (a.take na ++ b.take nb ++ out.reverse).Perm (a ++ b)
  srt : out.reverse.Pairwise (Le lt)
  le_ : ∀ x ∈ out, ∀ y ∈ a.take na ++ b.take nb, Le lt y x
abbrev CH1 := Option (Array Keyed) × Nat × Nat × Array Keyed × Nat
abbrev CH2 := Option (Array Keyed) × Nat × Nat × Array Keyed × Nat × Nat
abbrev CH3 := Option (Array Keyed) × Nat × Nat × Array Keyed × Nat × Nat × Nat
section
variable {M : Model} {A : Around} {E : Value → Shared → Prop} {s : Shared}
end
end Ts

set_option linter.all false
set_option Elab.async false
set_option maxHeartbeats 4000000
namespace Ts
open PySem PyProof.Rows
def seg (xs : Array Keyed) (i n : Nat) : List Keyed := (xs.toList.drop i).take n
section
variable {M : Model} {A : Around} {E : Value → Shared → Prop} {s : Shared}
/-- an array behind a change of one of its segments -/
def Chg (xs ys : Array Keyed) (i n : Nat) (m : List Keyed) : Prop := m.Perm (seg xs i n) ∧ ys.toList = xs.toList.take i ++ m ++ xs.toList.drop (i + n)
end
end Ts

set_option linter.all false
set_option Elab.async false
set_option maxHeartbeats 4000000
namespace Ts
open PySem PyProof.Rows
def at' (xs : Array Keyed) (i : Nat) : Keyed := (xs[i]?).getD (.none, .none)
/-- n items from a place on rise -/
def Up (lt : Keyed → Keyed → Bool) (xs : Array Keyed) (lo n : Nat) : Prop := ∀ p q, p ≤ q → q < n → Le lt (at' xs (lo + p)) (at' xs (lo + q))
def Down (lt : Keyed → Keyed → Bool) (xs : Array Keyed) (lo n : Nat) : Prop := ∀ p q, p ≤ q → q < n → Le lt (at' xs (lo + q)) (at' xs (lo + p))
/-- another order of the items from a place on -/
structure Keep (xs ys : Array Keyed) (lo : Nat) : Prop where
  perm : ys.Perm xs
  low : ∀ j, j < lo → ys[j]? = xs[j]?
section
variable {M : Model} {A : Around} {E : Value → Shared → Prop} {s : Shared}
/-- the state with another order of items from a place on -/
structure Re (st st' : SortSt) (lo : Nat) : Prop where
  kind : kindOf st' = kindOf st
  failed : failedOf st' = failedOf st
  pend : pendingOf st' = pendingOf st
  keep : Keep (arrOf st) (arrOf st') lo
end
end Ts

set_option linter.all false
set_option Elab.async false
set_option maxHeartbeats 4000000
namespace Ts
open PySem PyProof.Rows
/-- the last items are alike -/
def Alike (lt : Keyed → Keyed → Bool) (xs : Array Keyed) (lo n e : Nat) : Prop := ∀ p q, n ≤ p + (e + 1) → n ≤ q + (e + 1) → p < n → q < n → Le lt (at' xs (lo + p)) (at' xs (lo + q))
section
variable {M : Model} {A : Around} {E : Value → Shared → Prop} {s : Shared}
end
end Ts

set_option linter.all false
set_option Elab.async false
set_option maxHeartbeats 4000000
namespace Ts
open PySem PyProof.Rows
/-- sorted runs, one behind the other -/
def Runs (lt : Keyed → Keyed → Bool) (xs : Array Keyed) : Nat → List (Nat × Nat) → Nat → Prop
  | i, [], hi => i = hi
  | i, (s, n) :: ps, hi => s = i ∧ 1 ≤ n ∧ (seg xs s n).Pairwise (Le lt) ∧ Runs lt xs (i + n) ps hi
def kys (p : Array (Nat × Nat × Nat)) : List (Nat × Nat) := p.toList.map fun q => (q.1, q.2.1)
section
variable {M : Model} {A : Around} {E : Value → Shared → Prop} {s : Shared}
/-- what holds of the state all along -/
structure Inv (κ : SortKind) (lt : Keyed → Keyed → Bool) (a0 : Array Keyed) (st : SortSt) (lo : Nat) : Prop where
  kind : kindOf st = κ
  failed : failedOf st = none
  perm : (arrOf st).Perm a0
  runs : Runs lt (arrOf st) 0 (kys (pendingOf st)) lo
end
end Ts

set_option linter.all false
set_option Elab.async false
set_option maxHeartbeats 4000000
set_option maxRecDepth 100000
namespace Ts
open PySem PyProof.Rows PySem.W
section
variable {prog : Program} {w : World} {A : Around} {E : Value → Shared → Prop} {s : Shared}
/-- the kind that a sort finds for its keys, and that it can compare them, in every heap that keeps what stands -/
def Sorts (prog : Program) (w : World) (s : Shared) (a : Addr) (ks : List Value) (κ : SortKind) (S : Keyed → Prop) (lt : Keyed → Keyed → Bool) : Prop :=
  ∀ (A : Around) (E : Value → Shared → Prop) (h : Heap), (∀ b o, b ≠ a → s.heap.get? b = some o → h.get? b = some o) →
    (2 ≤ ks.length → ∀ Q, Q κ { s with heap := h } → wpAny (model prog w) A (keyKind' ks.toArray) Q E { s with heap := h }) ∧ Asks (model prog w) A E { s with heap := h } κ S lt
end
/-- pairs by their numbers, the first one first -/
def plt (p q : Int × Int) : Bool := decide (p.1 < q.1) || (decide (p.1 = q.1) && decide (p.2 < q.2))
def ple (p q : Int × Int) : Prop := p.1 < q.1 ∨ (p.1 = q.1 ∧ p.2 ≤ q.2)
section
variable {prog : Program} {w : World} {s : Shared}
/-- a pair of numbers at an address -/
def PairAt (h : Heap) (v : Value) (p : Int × Int) : Prop := ∃ b o t u n, v = .ref b ∧ h.get? b = some o ∧ o.cls = .type "tuple" ∧ o.data = .seq #[.int p.1 t, .int p.2 u] n
end
end Ts

set_option Elab.async false
set_option linter.all false
set_option maxRecDepth 100000
set_option maxHeartbeats 4000000
namespace L2
open PySem PySem.Spec PyProof.Rows
/-! ### sorted(xs), of numbers or of pairs of numbers -/
def PtV (H : Hp) (v : V) (p : Int × Int) : Prop := ∃ b, v = .ref b ∧ H b = some (.tup [.int p.1, .int p.2])
def rSort (K : PySem.W.Frag) (vs : List V) (H : Hp) (Q : VK) : Prop := ∃ a xs, vs = [.ref a] ∧ SqL K H a xs ∧
  ((∃ g : V → Int × Int, (∀ v ∈ xs, PtV H v (g v)) ∧ ∀ (l : Addr) (ys : List V), H l = none → ys.Perm xs → ys.Pairwise (fun x y => Ts.ple (g x) (g y)) → Q (.ref l) (upd H l (.lst ys))) ∨
   (∃ ns : List Int, xs = ns.map V.int ∧ ∀ (l : Addr) (ms : List Int), H l = none → ms.Perm ns → ms.Pairwise (· ≤ ·) → Q (.ref l) (upd H l (.lst (ms.map V.int)))))
def toV : Value → V
  | .ref b => .ref b
  | _ => .non
end L2

set_option linter.all false
set_option Elab.async false
set_option maxHeartbeats 4000000
namespace Sm
abbrev Pnt := Int × Int
/-- each point has at most two neighbours -/
structure Gr (nb : Pnt → List Pnt) : Prop where
  nd : ∀ a, (nb a).Nodup
  le2 : ∀ a, (nb a).length ≤ 2
  sym : ∀ {a b}, b ∈ nb a → a ∈ nb b
  irr : ∀ a, a ∉ nb a
/-- the other neighbours of b than a -/
def oth (nb : Pnt → List Pnt) (a b : Pnt) : List Pnt := (nb b).filter fun c => !decide (c = a)
/-- a walk goes on from a, b by the other neighbour -/
def Go (nb : Pnt → List Pnt) : Pnt → Pnt → List Pnt → Prop
  | _, _, [] => True
  | a, b, c :: l => oth nb a b = [c] ∧ Go nb b c l
/-- its last two points -/
def fin : Pnt → Pnt → List Pnt → Pnt × Pnt
  | a, b, [] => (a, b)
  | _, b, c :: l => fin b c l
section
variable {nb : Pnt → List Pnt}
/-- an open seam from its first point on -/
structure Open (nb : Pnt → List Pnt) (a b : Pnt) (l : List Pnt) : Prop where
  adj : b ∈ nb a
  go : Go nb a b l
  one : (nb a).length = 1
  stop : oth nb (fin a b l).1 (fin a b l).2 = []
  nd : (a :: b :: l).Nodup
/-- a round seam from one of its points on -/
structure Rnd (nb : Pnt → List Pnt) (a b : Pnt) (l : List Pnt) : Prop where
  adj : b ∈ nb a
  go : Go nb a b l
  stop : oth nb (fin a b l).1 (fin a b l).2 = [a]
  nd : (a :: b :: l).Nodup
/-- every neighbour of each of them is one of them -/
def Shut (nb : Pnt → List Pnt) (L : List Pnt) : Prop := ∀ x ∈ L, ∀ y ∈ nb x, y ∈ L
end
end Sm

set_option linter.all false
set_option Elab.async false
set_option maxHeartbeats 4000000
namespace Sm
section
variable {nb : Pnt → List Pnt}
/-- a seam as it is told -/
structure Told (nb : Pnt → List Pnt) (f : Bool) (L : List Pnt) : Prop where
  op : f = false → ∃ a b l, L = a :: b :: l ∧ Open nb a b l ∧ Ts.plt a (fin a b l).2 = true
  rd : f = true → ∃ a b l, L = a :: b :: l ∧ Rnd nb a b l ∧ (∀ x ∈ L, Ts.ple a x) ∧ b = (a.1 + 1, a.2)
/-- what a walk tells: it stops at an end, or comes back -/
structure Wlk (nb : Pnt → List Pnt) (a b : Pnt) (l : List Pnt) : Prop where
  adj : b ∈ nb a
  go : Go nb a b l
  nd : (a :: b :: l).Nodup
  stop : oth nb (fin a b l).1 (fin a b l).2 = [] ∨ oth nb (fin a b l).1 (fin a b l).2 = [a]
end
end Sm

set_option Elab.async false
set_option linter.all false
set_option maxRecDepth 100000
set_option maxHeartbeats 4000000
namespace Ts
open PySem PyProof.Rows PySem.W
section
variable {prog : Program} {w : World} {A : Around} {E : Value → Shared → Prop} {s : Shared}
/-- every pair of the list stands in the heap, at neither of two addresses -/
def AllPairs (h : Heap) (vs : List Value) (g : Value → Int × Int) (I S : Addr) : Prop := ∀ v ∈ vs, PairAt h v (g v) ∧ v ≠ .ref I ∧ v ≠ .ref S
end
end Ts
namespace L2
open PySem PySem.Spec PyProof.Rows
/-! ### min(xs) of pairs, x < y of pairs -/
def rMinP (K : PySem.W.Frag) (vs : List V) (H : Hp) (Q : VK) : Prop := ∃ a xs, vs = [.ref a] ∧ SqL K H a xs ∧ xs ≠ [] ∧ ∃ g : V → Int × Int, (∀ v ∈ xs, PtV H v (g v)) ∧ ∀ v ∈ xs, (∀ u ∈ xs, Ts.ple (g v) (g u)) → Q v H
def rLtP : R2 := fun x y H Q => ∃ p q, PtV H x p ∧ PtV H y q ∧ Q (.bl (Ts.plt p q)) H
section
variable {K : PySem.W.Frag} {σ : St} {H : Hp} {Q : VK} {te : TE} {tt : TT} {cap : List (Option Nat)} {l : Addr}
end
end L2

set_option Elab.async false
set_option linter.all false
set_option maxRecDepth 100000
set_option maxHeartbeats 4000000
namespace Ts
open PySem PyProof.Rows PySem.W
end Ts
namespace L2
open PySem PySem.Spec PyProof.Rows PySem.W
/-! ### sorted(xs, key=f), f one's own, its keys pairs of numbers -/
section
variable {X : Cx} {pins : List (Addr × Obj)} {σ : St} {H H1 H2 : Hp} {s0 s s' : Shared}
/-- a state behind another one, amid a builtin that calls functions -/
structure Amid (X : Cx) (H : Hp) (s0 : Shared) (H1 : Hp) (s : Shared) : Prop where
  os : s.os = s0.os
  un : Un (frs X.stack) [] H H1 s0.heap s.heap
  hok : HOk X.prog X.w H1 s.heap
  bare : AllBare s.gens
def rSortK (K : PySem.W.Frag) (sp : Sp) (x : V) (H : Hp) (Q : VK) : Prop := ∃ (a : Addr) (xs : List V) (g : V → Int × Int), x = .ref a ∧ SqL K H a xs ∧ (∀ v ∈ xs, ∃ b, v = .ref b) ∧
  (∀ v ∈ xs, ∀ (H1 : Hp) (Q1 : VK), Same H H1 → (∀ u H2, Same H1 H2 → PtV H2 u (g v) → Q1 u H2) → sp [v] H1 Q1 E0) ∧
  ∀ (l : Addr) (ys : List V) (H' : Hp), Same H H' → H l = none → H' l = some (.lst ys) → ys.Perm xs → ys.Pairwise (fun x y => Ts.ple (g x) (g y)) → Q (.ref l) H'
/-- sorted(e, key=f) -/
def tSortK (K : PySem.W.Frag) (sp : Sp) (te : TE) : TE := fun σ H Q => te σ H fun x H1 => rSortK K sp x H1 Q
end
end L2

set_option Elab.async false
set_option linter.all false
set_option maxHeartbeats 4000000
namespace Sm
/-! the steps of a seam -/
section
variable {nb : Pnt → List Pnt}
/-- the place before -/
def bef (L : List Pnt) (i : Nat) : Nat := if i = 0 then L.length - 1 else i - 1
end
end Sm

set_option Elab.async false
set_option linter.all false
set_option maxRecDepth 100000
set_option maxHeartbeats 4000000
namespace L2
open PySem PySem.Spec PyProof.Rows PySem.W
/-! ### d.setdefault(y, x) of a dict whose keys are tuples -/
section
variable {prog : Program} {w : World} {κ : Type} [DecidableEq κ] {kd : HeapKind prog w κ} {A : Around} {E : Value → Shared → Prop} {s : Shared} {d a : Addr} {xs : List (κ × Addr × Value)} {k : κ} {v : Value}
end
section
variable {X : Cx} {pins : List (Addr × Obj)} {σ : St} {H : Hp} {s : Shared} {a b : Addr} {z : V} {r : Value} {A : Around} {E : Value → Shared → Prop} {kvs : List (List Key × V)} {k : List Key}
end
def tDSetd (td ty tx : TE) : TE := fun σ H Q => td σ H fun x H1 => ∃ a, x = .ref a ∧ IsD H1 a ∧ ty σ H1 fun y H2 => tx σ H2 fun z H3 => ∃ kvs k b, y = .ref b ∧ H3 a = some (.dT kvs) ∧ H3 b = some (.tup (k.map kV)) ∧ kvs.length < sizeLine ∧
  (∀ v, valV kvs k = some v → Q v H3) ∧ (valV kvs k = none → Q z (upd H3 a (.dT (putK kvs k z))))
end L2

set_option Elab.async false
set_option linter.all false
set_option maxRecDepth 100000
set_option maxHeartbeats 4000000
namespace L2
open PySem PySem.Spec PyProof.Rows PySem.W
/-! ### min(xs), max(xs) of a list of ints -/
def rBestI (K : PySem.W.Frag) (mx : Bool) (vs : List V) (H : Hp) (Q : VK) : Prop := ∃ (a : Addr) (ns : List Int), vs = [.ref a] ∧ SqL K H a (ns.map V.int) ∧ ns ≠ [] ∧ ∀ m ∈ ns, (∀ n ∈ ns, if mx = true then n ≤ m else m ≤ n) → Q (.int m) H
section
variable {X : Cx} (K : PySem.W.Frag) (hK : X.K = K) (hc : X.calm = true)
include hK hc
end
end L2

set_option Elab.async false
set_option linter.all false
set_option maxHeartbeats 4000000
namespace NR
/-- a sum over the points of a grid -/
def grid (n m : Nat) (F : Int × Int → Int) : Int := sm n fun x => sm m fun y => F ((x : Int), (y : Int))
end NR
namespace Sm
end Sm

set_option Elab.async false
set_option linter.all false
set_option maxRecDepth 100000
set_option maxHeartbeats 4000000
namespace L2
open PySem PySem.Spec PyProof.Rows PySem.W
/-- x not in a list of data -/
def rNotInD : R2 := fun x y H Q => ∃ (ds : List PyData) (d : PyData), Rep H (.list ds) y ∧ Rep H d x ∧ PyData.canLayAll0 ds = true ∧ d.canLay0 = true ∧ d.depth ≤ 60 ∧ Q (.bl (!ds.any fun y => PyData.eqv y d)) H
end L2

set_option Elab.async false
set_option linter.all false
set_option maxHeartbeats 4000000
namespace Sm
section
variable {nb nb' : Pnt → List Pnt}
end
end Sm

set_option Elab.async false
set_option linter.all false
set_option maxRecDepth 100000
set_option maxHeartbeats 4000000
namespace L2
open PySem PySem.Spec PyProof.Rows
/-! comprehensions over zip, longer lists -/
theorem compW_zip5 {K : PySem.W.Frag} {σ : St} {H : Hp} {Q : VK} {te : TE} {l a b : Addr} {xs ys : List V} (F : Nat → V) (hx : H a = some (.lst xs)) (hy : H b = some (.lst ys)) (he : xs.length = ys.length) (hz : xs.length ≤ 5000) (hl : H l = none)
    (step : ∀ (i : Nat) x y H' (Q' : VK), xs[i]? = some x → ys[i]? = some y → Same H H' → (∀ H5, Same H' H5 → Q' (F i) H5) → te [some x, some y] H' Q')
    (fin : ∀ H', Same H H' → H' l = some (.lst ((List.range xs.length).map F)) → Q (.ref l) H') : CompW (Itz K a b) (gTup K 2 (gCons (gName 0) (gCons (gName 1) gNil))) tTrue te [none, none] l σ H Q := by
  refine ⟨xs.length, fun i zs σ' H' => zs = (List.range i).map F ∧ (∃ o o', σ' = [o, o']) ∧ Same H H' ∧ H' l = some (.lst zs), ⟨rfl, ⟨none, none, rfl⟩, Same.new hl, upd_same⟩, ?_, ?_⟩
  · rintro i zs σ' H' hi ⟨rfl, ⟨o, o', rfl⟩, s, e⟩
    refine ⟨⟨xs, ys, xs[i], ys[i]'(by omega), SqL.of (s _ _ hx), SqL.of (s _ _ hy), by simp [hi], by simp⟩, fun v H2 z => ?_⟩
    obtain ⟨T, rfl, hT, z⟩ := z
    obtain ⟨x, y, ex, ey, rfl⟩ := z xs ys (SqL.of (s _ _ hx)) (SqL.of (s _ _ hy))
    have sT := Same.new (o := HO.tup [x, y]) hT
    refine rd_gtup upd_same rfl (rd_gcons (rd_name (rd_gcons (rd_name (rd_gnil (rd_true (iteT ?_)))))))
    refine step i x y _ _ ex ey (s.trans sT) fun H5 s5 => ⟨s5 _ _ (sT _ _ e), ?_, ?_⟩
    · rw [List.length_map, List.length_range]
      exact Nat.lt_of_lt_of_le (by omega : i < 6000) (by decide)
    · refine ⟨?_, ⟨_, _, rfl⟩, ((s.trans sT).trans s5).later hl, upd_same⟩
      rw [List.range_succ, List.map_append]
      rfl
  · rintro zs σ' H' ⟨rfl, _, s, e⟩
    exact ⟨⟨xs, ys, SqL.of (s _ _ hx), SqL.of (s _ _ hy), .inl (Nat.le_refl _)⟩, fin H' s e⟩
theorem compW_zipT5 {K : PySem.W.Frag} {σ : St} {H : Hp} {Q : VK} {te : TE} {l a b : Addr} {xs ys : List V} (F : Nat → V) (hx : H a = some (.tup xs)) (hy : H b = some (.tup ys)) (he : xs.length = ys.length) (hz : xs.length ≤ 5000) (hl : H l = none)
    (step : ∀ (i : Nat) x y H' (Q' : VK), xs[i]? = some x → ys[i]? = some y → Same H H' → (∀ H5, Same H' H5 → Q' (F i) H5) → te [some x, some y] H' Q')
    (fin : ∀ H', Same H H' → H' l = some (.lst ((List.range xs.length).map F)) → Q (.ref l) H') : CompW (Itzt K a b) (gTup K 2 (gCons (gName 0) (gCons (gName 1) gNil))) tTrue te [none, none] l σ H Q := by
  refine ⟨xs.length, fun i zs σ' H' => zs = (List.range i).map F ∧ (∃ o o', σ' = [o, o']) ∧ Same H H' ∧ H' l = some (.lst zs), ⟨rfl, ⟨none, none, rfl⟩, Same.new hl, upd_same⟩, ?_, ?_⟩
  · rintro i zs σ' H' hi ⟨rfl, ⟨o, o', rfl⟩, s, e⟩
    refine ⟨⟨xs, ys, xs[i], ys[i]'(by omega), SqT.of (s _ _ hx), SqT.of (s _ _ hy), by simp [hi], by simp⟩, fun v H2 z => ?_⟩
    obtain ⟨T, rfl, hT, z⟩ := z
    obtain ⟨x, y, ex, ey, rfl⟩ := z xs ys (SqT.of (s _ _ hx)) (SqT.of (s _ _ hy))
    have sT := Same.new (o := HO.tup [x, y]) hT
    refine rd_gtup upd_same rfl (rd_gcons (rd_name (rd_gcons (rd_name (rd_gnil (rd_true (iteT ?_)))))))
    refine step i x y _ _ ex ey (s.trans sT) fun H5 s5 => ⟨s5 _ _ (sT _ _ e), ?_, ?_⟩
    · rw [List.length_map, List.length_range]
      exact Nat.lt_of_lt_of_le (by omega : i < 6000) (by decide)
    · refine ⟨?_, ⟨_, _, rfl⟩, ((s.trans sT).trans s5).later hl, upd_same⟩
      rw [List.range_succ, List.map_append]
      rfl
  · rintro zs σ' H' ⟨rfl, _, s, e⟩
    exact ⟨⟨xs, ys, SqT.of (s _ _ hx), SqT.of (s _ _ hy), Nat.le_refl _⟩, fin H' s e⟩
end L2

set_option Elab.async false
set_option linter.all false
set_option maxRecDepth 100000
set_option maxHeartbeats 4000000
namespace L2
open PySem PySem.Spec PyProof.Rows PySem.W
/-! ### many new objects at once -/
section
variable {X : Cx} {pins : List (Addr × Obj)} {σ : St} {H H' : Hp} {s : Shared} {h' : Heap}
end
/-! ### d.values(), d.items() -/
def ViewAt (T : String) (v d : Addr) (h : Heap) : Prop := ∃ o, h.get? v = some o ∧ o.cls = .type T ∧ o.data = .fields #[.ref d]
def ViewO (T : String) (v d : Addr) : HO := .ext (ViewAt T v d)
def rView (T : String) : V → List V → Hp → VK → Prop := fun x xs H Q => ∃ d kvs, x = .ref d ∧ xs = [] ∧ H d = some (.dK kvs) ∧ ∀ v, H v = none → Q (.ref v) (upd H v (ViewO T v d))
section
variable {X : Cx}
end
/-- list(d.values()) -/
def rListV : List V → Hp → VK → Prop := fun xs H Q => ∃ v d kvs, xs = [.ref v] ∧ H v = some (ViewO "dict_values" v d) ∧ H d = some (.dK kvs) ∧ ∀ l, H l = none → Q (.ref l) (upd H l (.lst (kvs.map (·.2))))
/-- pairs of a key and a value -/
def PwKV (H : Hp) (ys : List V) (kvs : List (Key × V)) : Prop := ys.length = kvs.length ∧ ∀ (i : Nat) y k x, ys[i]? = some y → kvs[i]? = some (k, x) → ∃ b, y = .ref b ∧ H b = some (.tup [kV k, x])
/-- list(d.items()) -/
def rListI : List V → Hp → VK → Prop := fun xs H Q => ∃ v d kvs, xs = [.ref v] ∧ H v = some (ViewO "dict_items" v d) ∧ H d = some (.dK kvs) ∧ ∀ l ys H', Same H H' → H l = none → H' l = some (.lst ys) → PwKV H' ys kvs → Q (.ref l) H'
/-! ### x in a list of data -/
def rInD : R2 := fun x y H Q => ∃ (ds : List PyData) (d : PyData), Rep H (.list ds) y ∧ Rep H d x ∧ PyData.canLayAll0 ds = true ∧ d.canLay0 = true ∧ d.depth ≤ 60 ∧ Q (.bl (ds.any fun y => PyData.eqv y d)) H
def rNinD : R2 := fun x y H Q => ∃ (ds : List PyData) (d : PyData), Rep H (.list ds) y ∧ Rep H d x ∧ PyData.canLayAll0 ds = true ∧ d.canLay0 = true ∧ d.depth ≤ 60 ∧ Q (.bl (!ds.any fun y => PyData.eqv y d)) H
end L2

set_option Elab.async false
set_option linter.all false
set_option maxRecDepth 100000
set_option maxHeartbeats 4000000
namespace L2
open PySem PySem.Spec PyProof.Rows PySem.W
/-! ### the keys of a dict, whatever they are -/
def RawAt (d : Addr) (es : Array DictEntry) (ep : Nat) (h : Heap) : Prop := ∃ o, h.get? d = some o ∧ o.ExactDict ∧ o.data = .dict es ep
section
variable {prog : Program} {w : World} {A : Around} {E : Value → Shared → Prop} {s : Shared} {d it : Addr} {es : Array DictEntry} {ep i n : Nat}
end
/-- list(d): the keys, tuples -/
def PwK (H : Hp) (ys : List V) (ks : List (List Key)) : Prop := ys.length = ks.length ∧ ∀ (i : Nat) y k, ys[i]? = some y → ks[i]? = some k → ∃ b, y = .ref b ∧ H b = some (.tup (k.map kV))
def rListD : List V → Hp → VK → Prop := fun xs H Q => ∃ d kvs, xs = [.ref d] ∧ H d = some (.dT kvs) ∧ ∀ l ys, H l = none → PwK H ys (kvs.map (·.1)) → Q (.ref l) (upd H l (.lst ys))
end L2

set_option Elab.async false
set_option linter.all false
set_option maxRecDepth 100000
set_option maxHeartbeats 4000000
namespace L2
open PySem PySem.Spec PyProof.Rows PySem.W
/-- {k: v}, k a tuple -/
def tDisp1 (tk tv : TE) : TE := fun σ H Q => ∀ p, H p = none → tk σ (upd H p (.dT [])) fun x H1 => tv σ H1 fun y H2 => ∃ b ks z, [(x, y)] = [(V.ref b, z)] ∧ H2 b = some (.tup (ks.map kV)) ∧ H2 p = some (.dT []) ∧ Q (.ref p) (upd H2 p (.dT [(ks, z)]))
end L2

set_option linter.all false
set_option Elab.async false
set_option maxHeartbeats 4000000
namespace Fm
abbrev Strip := List L2.Key
/-- two strips and a weight -/
abbrev Tie := Strip × Strip × Int
inductive Con (F : List Tie) : Strip → Strip → Prop
  | refl (a : Strip) : Con F a a
  | fwd {a b c : Strip} {w : Int} : Con F a b → (b, c, w) ∈ F → Con F a c
  | bwd {a b c : Strip} {w : Int} : Con F a b → (c, b, w) ∈ F → Con F a c
section
variable {F : List Tie} {v : Strip → Int} {G : Strip → Strip × Int} {D : List Strip}
/-- the weights are sums of values -/
def Sat (v : Strip → Int) (F : List Tie) : Prop := ∀ e ∈ F, e.2.2 = (v e.1 + v e.2.1) % 2
/-- the groups of the strips of D that the ties of F make -/
structure GrOk (D : List Strip) (F : List Tie) (v : Strip → Int) (G : Strip → Strip × Int) : Prop where
  lead : ∀ s ∈ D, ∀ t ∈ D, ((G s).1 = (G t).1 ↔ Con F s t)
  wt : ∀ s ∈ D, ∀ t ∈ D, Con F s t → ((G s).2 + (G t).2) % 2 = (v s + v t) % 2
def lone : Strip → Strip × Int := fun s => (s, 0)
def tieG (G : Strip → Strip × Int) (e : Tie) : Strip → Strip × Int := fun s =>
  if (G e.1).1 = (G e.2.1).1 then G s else if (G s).1 = (G e.2.1).1 then ((G e.1).1, ((G s).2 + ((G e.1).2 + (G e.2.1).2 + e.2.2) % 2) % 2) else G s
/-- ties one behind the other -/
def tiesG (F : List Tie) (G : Strip → Strip × Int) : Strip → Strip × Int := F.foldl tieG G
/-- what is met from a strip on, and the sums of the weights -/
structure Met (F : List Tie) (v : Strip → Int) (a : Strip) (kvs : List (Strip × Int)) : Prop where
  start : a ∈ kvs.map (·.1)
  con : ∀ k ∈ kvs, Con F a k.1 ∧ k.2 = (v a + v k.1) % 2
end
end Fm

set_option Elab.async false
set_option linter.all false
set_option maxRecDepth 100000
set_option maxHeartbeats 4000000
namespace L2
open PySem PySem.Spec PyProof.Rows PySem.W
/-! ### readings of dicts -/
def rDGet (x y : V) (H : Hp) (Q : VK) : Prop := ∃ a v, x = .ref a ∧ DGet H a y (some v) ∧ Q v H
def rIsD (x : V) (H : Hp) (q : Addr → Prop) : Prop := ∃ a, x = .ref a ∧ IsD H a ∧ q a
/-! ### keys compared -/
def keyD : Key → PyData
  | .inl i => .int i
  | .inr x => .str x
def KOk (a : List Key) : Prop := PyData.canLayAll0 (a.map keyD) = true
/-- a strip -/
def sx (i : Int) : List Key := [.inr "x", .inl i]
def sy (i : Int) : List Key := [.inr "y", .inl i]
def IsStrip (a : List Key) : Prop := ∃ i, a = sx i ∨ a = sy i
/-! ### keys of a changed table -/
/-- all but some addresses stay -/
def ButL (S : List Addr) (H H' : Hp) : Prop := ∀ b o, H b = some o → b ∉ S → H' b = some o
end L2

set_option Elab.async false
set_option linter.all false
set_option maxRecDepth 100000
set_option maxHeartbeats 4000000
namespace L2
open PySem PySem.Spec PyProof.Rows
/-! ### try with two clauses -/
def ETof2 (K : PySem.W.Frag) (S1 S2 : Addr) (i : Nat) (ts1 ts2 : TS) (D : Ends) : St → XK := fun σ cls _ H1 => ∃ C, cls = .ref C ∧ ((PySem.W.exmOne K (.ref C) (.ref S1) = some true ∧ ∀ e, H1 e = none → ts1 (Dh i D) (σ.set i (some (.ref e))) (upd H1 e (ExcO e C))) ∨
  (PySem.W.exmOne K (.ref C) (.ref S1) = some false ∧ PySem.W.exmOne K (.ref C) (.ref S2) = some true ∧ ∀ e, H1 e = none → ts2 (Dh i D) (σ.set i (some (.ref e))) (upd H1 e (ExcO e C))))
def tTry2 (K : PySem.W.Frag) (S1 S2 : Addr) (i : Nat) (tb : (St → XK) → TS) (ts1 ts2 : TS) : TS := fun D σ H => tb (ETof2 K S1 S2 i ts1 ts2 D) D σ H
end L2

set_option Elab.async false
set_option linter.all false
set_option maxRecDepth 100000
set_option maxHeartbeats 4000000
namespace L2
open PySem PySem.Spec PyProof.Rows PySem.W
/-! ### a dict by ints and texts while it is walked -/
def FzAt (P : Program) (w : World) (d : Addr) (kvs : List (Key × V)) (vs : List (Key × Value)) (ep : Nat) (h : Heap) : Prop := kvs.length ≤ sizeLine ∧ (d == sysModules) = false ∧ KV kvs vs ∧ h.DictAt (mixKind P w) d vs ep
def FzO (P : Program) (w : World) (d : Addr) (kvs : List (Key × V)) (vs : List (Key × Value)) (ep : Nat) : HO := .ext (FzAt P w d kvs vs ep)
def IsFz (P : Program) (w : World) (d : Addr) (kvs : List (Key × V)) (F : HO) : Prop := ∃ vs ep, F = FzO P w d kvs vs ep
section
variable {X : Cx} {pins : List (Addr × Obj)} {σ : St} {H : Hp} {s : Shared} {d : Addr} {kvs : List (Key × V)} {vs : List (Key × Value)} {ep : Nat}
end
def Thaw (P : Program) (w : World) (H1 H2 : Hp) : Prop := ∃ d kvs F, IsFz P w d kvs F ∧ H1 d = some F ∧ H2 = upd H1 d (.dK kvs)
def tThawE (P : Program) (w : World) (te : TE) : TE := fun σ H Q => te σ H fun v H1 => ∃ H2, Thaw P w H1 H2 ∧ Q v H2
def tThawS (P : Program) (w : World) (ts : TS) : TS := fun D σ H => ts { D with nx := fun σ1 H1 => ∃ H2, Thaw P w H1 H2 ∧ D.nx σ1 H2 } σ H
/-! ### for v in d.values() -/
def Itv (d : Addr) (F : HO) (kvs : List (Key × V)) : It :=
  ⟨fun i H => H d = some F ∧ i < kvs.length, fun i H x H' => H' = H ∧ ∃ k, kvs[i]? = some (k, x), fun i H => H d = some F ∧ kvs.length ≤ i⟩
def iVals (P : Program) (w : World) (tl : TE) : TI := fun σ H R => tl σ H fun x H1 => ∃ v d kvs, x = .ref v ∧ H1 v = some (ViewO "dict_values" v d) ∧ H1 d = some (.dK kvs) ∧ ∀ F, IsFz P w d kvs F → R (Itv d F kvs) (upd H1 d F)
/-! ### for k, v in d.items() -/
def Iti (d : Addr) (F : HO) (kvs : List (Key × V)) : It :=
  ⟨fun i H => H d = some F ∧ i < kvs.length, fun i H x H' => ∃ b k v, kvs[i]? = some (k, v) ∧ x = .ref b ∧ H b = none ∧ H' = upd H b (.tup [kV k, v]), fun i H => H d = some F ∧ kvs.length ≤ i⟩
def iItems (P : Program) (w : World) (tl : TE) : TI := fun σ H R => tl σ H fun x H1 => ∃ v d kvs, x = .ref v ∧ H1 v = some (ViewO "dict_items" v d) ∧ H1 d = some (.dK kvs) ∧ ∀ F, IsFz P w d kvs F → R (Iti d F kvs) (upd H1 d F)
end L2
namespace L2
open PySem PySem.Spec PyProof.Rows PySem.W
end L2
namespace L2
open PySem PySem.Spec PyProof.Rows PySem.W
section
variable {K : PySem.W.Frag} {H : Hp} {Q : VK}
theorem rd_slS {a : Addr} {xs : List V} {lo hi : Option Int} (h : H a = some (.lst xs)) (q : ∀ p H1, Same H H1 → H p = none → H1 p = some (.lst (cutV xs lo hi)) → Q (.ref p) H1) : rSlL K (.ref a) lo hi H Q := rd_slL h fun p n => q p _ (Same.new n) n upd_same
theorem rd_catS {a b : Addr} {xs zs : List V} (ha : H a = some (.lst xs)) (hb : H b = some (.lst zs)) (z : xs.length + zs.length ≤ sizeLine) (q : ∀ p H1, Same H H1 → H p = none → H1 p = some (.lst (xs ++ zs)) → Q (.ref p) H1) : rCat (.ref a) (.ref b) H Q := rd_cat ha hb z fun p n => q p _ (Same.new n) n upd_same
end
end L2

set_option Elab.async false
set_option linter.all false
set_option maxRecDepth 100000
set_option maxHeartbeats 4000000
namespace L2
open PySem PySem.Spec PyProof.Rows PySem.W
/-! ### xs.count(k) of ints -/
def rCountI : V → List V → Hp → VK → Prop := fun x vs H Q => ∃ (l : Addr) (ns : List Int) (k : Int), x = .ref l ∧ vs = [.int k] ∧ H l = some (.lst (ns.map V.int)) ∧ Q (.int (ns.count k : Nat)) H
theorem mt_countI {X : Cx} : MtM X "list.count" rCountI := by
  intro pins s σ H x vs v us Q I rx rv h
  obtain ⟨l, ns, k, rfl, rfl, hH, q⟩ := h
  cases rx
  obtain ⟨u, rfl, ru⟩ := rv.one
  obtain ⟨t, rfl⟩ := ru
  obtain ⟨z, its, n, r, hl, e⟩ := I.lstM hH
  refine count_list_ints ⟨_, e, rfl, n, rfl⟩ (intsAre_of r) ?_
  exact ⟨.int _, H, I.tok _, ⟨_, rfl⟩, q⟩
theorem rd_countI {H : Hp} {Q : VK} {l : Addr} {ns : List Int} {k : Int} (h : H l = some (.lst (ns.map V.int))) (q : Q (.int (ns.count k : Nat)) H) : rCountI (.ref l) [.int k] H Q := ⟨l, ns, k, rfl, rfl, h, q⟩
section
variable {K : PySem.W.Frag} {σ : St} {H : Hp} {Q : VK} {te : TE} {tt : TT} {cap : List (Option Nat)} {l : Addr}
/-- over a list, the outcome known -/
theorem compW_listL {a : Addr} {xs : List V} (ys : List V) (hy : ys.length = xs.length) (hs : SqL K H a xs) (hz : xs.length ≤ 1000) (hl : H l = none)
    (step : ∀ (i : Nat) x y o H' (Q' : VK), xs[i]? = some x → ys[i]? = some y → Same H H' → (∀ H5, Same H' H5 → Q' y H5) → te (((capS (none :: cap) σ).set 0 o).set 0 (some x)) H' Q')
    (fin : ∀ H', Same H H' → H' l = some (.lst ys) → Q (.ref l) H') : CompW (Itl K a) (gName 0) tTrue te (none :: cap) l σ H Q := by
  refine ⟨xs.length, fun i zs σ' H' => zs = ys.take i ∧ (∃ o, σ' = (capS (none :: cap) σ).set 0 o) ∧ Same H H' ∧ H' l = some (.lst zs), ⟨rfl, ⟨none, rfl⟩, Same.new hl, upd_same⟩, ?_, ?_⟩
  · rintro i zs σ' H' hi ⟨rfl, ⟨o, rfl⟩, s, e⟩
    refine ⟨⟨xs, xs[i], s.seq hs, by simp [hi]⟩, fun x H2 y => ?_⟩
    obtain ⟨e2, y⟩ := y
    subst e2
    have hx := y xs (s.seq hs)
    have hyi : i < ys.length := by omega
    refine rd_name (rd_true (iteT ?_))
    refine step i x ys[i] o H2 _ hx (List.getElem?_eq_getElem hyi) s fun H5 s5 => ⟨s5 _ _ e, ?_, ?_⟩
    · rw [List.length_take]
      exact small1000 (by omega)
    · exact ⟨List.take_append_getElem hyi, ⟨_, List.set_set ..⟩, (s.trans s5).later hl, upd_same⟩
  · rintro zs σ' H' ⟨rfl, _, s, e⟩
    rw [List.take_of_length_le (by omega)] at e
    exact ⟨⟨xs, s.seq hs, Nat.le_refl _⟩, fin H' s e⟩
/-- over a range with a test, items made as they go -/
theorem compW_rangeF {n : Nat} (p : Nat → Bool) (R : Nat → V → Hp → Prop) (hz : n ≤ 1000) (hl : H l = none) (mono : ∀ i v H1 H2, SameBut l H1 H2 → R i v H1 → R i v H2)
    (test : ∀ i o H' (Q' : Bool → Hp → Prop), i < n → Same H H' → (∀ H5, Same H' H5 → Q' (p i) H5) → tt (((capS (none :: cap) σ).set 0 o).set 0 (some (.int ((0 : Int) + (i : Nat))))) H' Q')
    (step : ∀ i o H' (Q' : VK), i < n → p i = true → Same H H' → (∃ ys, H' l = some (.lst ys)) → (∀ v H5, Same H' H5 → R i v H5 → Q' v H5) → te (((capS (none :: cap) σ).set 0 o).set 0 (some (.int ((0 : Int) + (i : Nat))))) H' Q')
    (fin : ∀ ys H', Same H H' → H' l = some (.lst ys) → ys.length = ((List.range n).filter p).length → (∀ (j : Nat) v, ys[j]? = some v → ∃ m, ((List.range n).filter p)[j]? = some m ∧ R m v H') → Q (.ref l) H') : CompW (Itr 0 n) (gName 0) tt te (none :: cap) l σ H Q := by
  refine ⟨n, fun i ys σ' H' => (ys.length = ((List.range i).filter p).length ∧ ∀ (j : Nat) v, ys[j]? = some v → ∃ m, ((List.range i).filter p)[j]? = some m ∧ R m v H') ∧ (∃ o, σ' = (capS (none :: cap) σ).set 0 o) ∧ Same H H' ∧ H' l = some (.lst ys), ⟨⟨rfl, fun j v e => by simp at e⟩, ⟨none, rfl⟩, Same.new hl, upd_same⟩, ?_, ?_⟩
  · rintro i ys σ' H' hi ⟨⟨ly, hR⟩, ⟨o, rfl⟩, s, e⟩
    refine ⟨hi, fun x H2 y => ?_⟩
    obtain ⟨e2, rfl⟩ := y
    subst e2
    have fl : ((List.range i).filter p).length ≤ i := Nat.le_trans (List.length_filter_le _ _) (by rw [List.length_range]; exact Nat.le_refl _)
    have rs : (List.range (i + 1)).filter p = (List.range i).filter p ++ (if p i = true then [i] else []) := by
      rw [List.range_succ, List.filter_append]
      congr 1
      cases hp : p i <;> simp [hp]
    refine rd_name (test i o H2 _ hi s fun H5 s5 => ?_)
    by_cases hp : p i = true
    · rw [if_pos hp]
      rw [if_pos hp] at rs
      refine step i o H5 _ hi hp (s.trans s5) ⟨ys, s5 _ _ e⟩ fun v H6 s6 r => ⟨s6 _ _ (s5 _ _ e), small1000 (by omega), ?_⟩
      have sb : SameBut l H6 (upd H6 l (.lst (ys ++ [v]))) := fun b u eb hb => by rw [upd_ne hb]; exact eb
      refine ⟨⟨by rw [rs, List.length_append, List.length_append, ly]; rfl, fun j u ej => ?_⟩, ⟨_, List.set_set ..⟩, ((s.trans s5).trans s6).later hl, upd_same⟩
      rw [rs]
      by_cases hj : j < ys.length
      · rw [List.getElem?_append_left hj] at ej
        obtain ⟨m, hm, q⟩ := hR j u ej
        exact ⟨m, by rw [List.getElem?_append_left (by omega)]; exact hm, mono m u _ _ sb (mono m u _ _ ((s5.trans s6).but l) q)⟩
      · rw [List.getElem?_append_right (by omega)] at ej
        have : j - ys.length = 0 := by
          have hh := (List.getElem?_eq_some_iff.mp ej).1
          rw [List.length_singleton] at hh
          omega
        rw [this] at ej
        cases ej
        exact ⟨i, by rw [List.getElem?_append_right (by omega), ← ly, this]; rfl, mono i _ _ _ sb r⟩
    · rw [if_neg hp]
      rw [if_neg hp, List.append_nil] at rs
      refine ⟨⟨by rw [rs]; exact ly, fun j u ej => ?_⟩, ⟨_, List.set_set ..⟩, s.trans s5, s5 _ _ e⟩
      obtain ⟨m, hm, q⟩ := hR j u ej
      exact ⟨m, by rw [rs]; exact hm, mono m u _ _ (s5.but l) q⟩
  · rintro ys σ' H' ⟨⟨ly, hR⟩, _, s, e⟩
    exact ⟨Nat.le_refl _, fin ys H' s e ly hR⟩
/-- over a list, each item a new object -/
theorem compW_listN {a : Addr} {xs : List V} (R : Nat → Addr → Hp → Prop) (hs : SqL K H a xs) (hz : xs.length ≤ 1000) (hl : H l = none) (mono : ∀ i b H1 H2, SameBut l H1 H2 → b ≠ l → R i b H1 → R i b H2)
    (step : ∀ (i : Nat) x o H' (Q' : VK), xs[i]? = some x → Same H H' → (∀ b H5, Same H' H5 → H' b = none → (∃ u, H5 b = some u) → R i b H5 → Q' (.ref b) H5) → te (((capS (none :: cap) σ).set 0 o).set 0 (some x)) H' Q')
    (fin : ∀ (as : List Addr) H', Same H H' → H' l = some (.lst (as.map V.ref)) → as.length = xs.length → as.Nodup → (∀ (i : Nat) b, as[i]? = some b → b ≠ l ∧ H b = none ∧ R i b H') → Q (.ref l) H') : CompW (Itl K a) (gName 0) tTrue te (none :: cap) l σ H Q := by
  refine ⟨xs.length, fun i ys σ' H' => (∃ as : List Addr, ys = as.map V.ref ∧ as.length = i ∧ as.Nodup ∧ ∀ (j : Nat) b, as[j]? = some b → b ≠ l ∧ H b = none ∧ (∃ u, H' b = some u) ∧ R j b H') ∧ (∃ o, σ' = (capS (none :: cap) σ).set 0 o) ∧ Same H H' ∧ H' l = some (.lst ys), ⟨⟨[], rfl, rfl, List.nodup_nil, fun j b e => by simp at e⟩, ⟨none, rfl⟩, Same.new hl, upd_same⟩, ?_, ?_⟩
  · rintro i ys σ' H' hi ⟨⟨as, rfl, la, nd, hR⟩, ⟨o, rfl⟩, s, e⟩
    refine ⟨⟨xs, xs[i], s.seq hs, by simp [hi]⟩, fun x H2 y => ?_⟩
    obtain ⟨e2, y⟩ := y
    subst e2
    have hx := y xs (s.seq hs)
    refine rd_name (rd_true (iteT ?_))
    refine step i x o H2 _ hx s fun b H5 s5 nb hb r => ⟨s5 _ _ e, by rw [List.length_map]; exact small1000 (by omega), ?_⟩
    have bl : b ≠ l := (ne_of_none e nb).symm
    have sb : SameBut l H5 (upd H5 l (.lst (as.map V.ref ++ [.ref b]))) := fun c u eb hc => by rw [upd_ne hc]; exact eb
    have nb0 : H b = none := by
      cases z : H b with
      | none => rfl
      | some u => rw [s _ _ z] at nb; cases nb
    have nm : b ∉ as := fun hm => by
      obtain ⟨j, hj⟩ := List.mem_iff_getElem?.mp hm
      obtain ⟨_, _, ⟨u, hu⟩, _⟩ := hR j b hj
      rw [hu] at nb
      cases nb
    refine ⟨⟨as ++ [b], by rw [List.map_append]; rfl, by rw [List.length_append, la]; rfl, ?_, fun j c ej => ?_⟩, ⟨_, List.set_set ..⟩, (s.trans s5).later hl, upd_same⟩
    · rw [List.nodup_append]
      exact ⟨nd, by simp, fun c hc d hd e => nm (by rw [← List.mem_singleton.mp hd, ← e]; exact hc)⟩
    · by_cases hj : j < as.length
      · rw [List.getElem?_append_left hj] at ej
        obtain ⟨q1, q2, ⟨u, hu⟩, q3⟩ := hR j c ej
        exact ⟨q1, q2, ⟨u, sb _ _ (s5 _ _ hu) q1⟩, mono j c _ _ sb q1 (mono j c _ _ (s5.but l) q1 q3)⟩
      · rw [List.getElem?_append_right (by omega)] at ej
        have hj0 : j - as.length = 0 := by
          have hh := (List.getElem?_eq_some_iff.mp ej).1
          rw [List.length_singleton] at hh
          omega
        have hji : j = i := by omega
        rw [hj0] at ej
        cases ej
        subst hji
        obtain ⟨u, hu⟩ := hb
        exact ⟨bl, nb0, ⟨u, sb _ _ hu bl⟩, mono j b _ _ sb bl r⟩
  · rintro ys σ' H' ⟨⟨as, rfl, la, nd, hR⟩, _, s, e⟩
    exact ⟨⟨xs, s.seq hs, Nat.le_of_eq rfl⟩, fin as H' s e la nd fun i b h => ⟨(hR i b h).1, (hR i b h).2.1, (hR i b h).2.2.2⟩⟩
end
/-! ### tables of rows that stand apart, new to H0 -/
structure TblF (H0 H : Hp) (l : Addr) (rows : List (List Int)) : Prop where
  nl : H0 l = none
  ob : ∃ as : List Addr, H l = some (.lst (as.map V.ref)) ∧ as.length = rows.length ∧ as.Nodup ∧ (∀ a ∈ as, H0 a = none) ∧ ∀ (i : Nat) a r, as[i]? = some a → rows[i]? = some r → a ≠ l ∧ H a = some (.lst (r.map V.int))
theorem TblF.tbl {H0 H : Hp} {l : Addr} {rows : List (List Int)} (h : TblF H0 H l rows) : TblAt H l rows := by
  obtain ⟨as, h1, h2, _, _, h3⟩ := h.ob
  exact ⟨as, h1, h2, h3⟩
theorem TblF.mono {H0 H H' : Hp} {l : Addr} {rows : List (List Int)} (s : Same H H') (h : TblF H0 H l rows) : TblF H0 H' l rows := by
  obtain ⟨as, h1, h2, nd, h4, h3⟩ := h.ob
  exact ⟨h.nl, as, s _ _ h1, h2, nd, h4, fun i a r e1 e2 => ⟨(h3 i a r e1 e2).1, s _ _ (h3 i a r e1 e2).2⟩⟩
/-- a row is written -/
theorem TblF.set {H0 H : Hp} {l : Addr} {rows : List (List Int)} {i : Nat} (h : TblF H0 H l rows) (hi : i < rows.length) (r' : List Int) : ∃ (as : List Addr) (a : Addr), H l = some (.lst (as.map V.ref)) ∧ (as.map V.ref)[i]? = some (.ref a) ∧ H a = some (.lst ((rows.getD i []).map V.int)) ∧ H0 a = none ∧ a ≠ l ∧ TblF H0 (upd H a (.lst (r'.map V.int))) l (rows.set i r') := by
  obtain ⟨as, h1, h2, nd, h4, h3⟩ := h.ob
  have hia : i < as.length := by omega
  have er : rows[i]? = some (rows.getD i []) := by rw [List.getD_eq_getElem?_getD, List.getElem?_eq_getElem hi]; rfl
  obtain ⟨nl, ha⟩ := h3 i as[i] _ (List.getElem?_eq_getElem hia) er
  refine ⟨as, as[i], h1, by rw [List.getElem?_map, List.getElem?_eq_getElem hia]; rfl, ha, h4 _ (List.getElem_mem hia), nl, ⟨h.nl, as, by rw [upd_ne nl.symm]; exact h1, by rw [List.length_set]; exact h2, nd, h4, fun j b r e1 e2 => ?_⟩⟩
  rw [List.getElem?_set] at e2
  by_cases hj : i = j
  · rw [if_pos hj] at e2
    subst hj
    rw [if_pos hi] at e2
    cases e2
    rw [List.getElem?_eq_getElem hia] at e1
    cases e1
    exact ⟨nl, upd_same⟩
  · rw [if_neg hj] at e2
    obtain ⟨n2, q⟩ := h3 j b r e1 e2
    refine ⟨n2, ?_⟩
    rw [upd_ne fun z => hj ?_]
    · exact q
    · obtain ⟨hjl, ejb⟩ := List.getElem?_eq_some_iff.mp e1
      rw [← ejb] at z
      exact ((List.getElem_inj nd).mp z).symm
/-- another row in the place of one -/
theorem TblF.put {H0 H : Hp} {l b : Addr} {rows : List (List Int)} {i : Nat} (h : TblF H0 H l rows) (hi : i < rows.length) {r' : List Int} (hb : H b = some (.lst (r'.map V.int))) (nb : b ≠ l) : ∃ as : List Addr, H l = some (.lst (as.map V.ref)) ∧ as.length = rows.length ∧ TblAt (upd H l (.lst ((as.map V.ref).set i (.ref b)))) l (rows.set i r') := by
  obtain ⟨as, h1, h2, nd, h4, h3⟩ := h.ob
  refine ⟨as, h1, h2, ⟨as.set i b, by rw [upd_same, List.map_set], by rw [List.length_set, List.length_set]; exact h2, fun j c r e1 e2 => ?_⟩⟩
  rw [List.getElem?_set] at e1 e2
  by_cases hj : i = j
  · rw [if_pos hj] at e1 e2
    subst hj
    rw [if_pos (by omega)] at e1
    rw [if_pos hi] at e2
    cases e1
    cases e2
    exact ⟨nb, by rw [upd_ne nb]; exact hb⟩
  · rw [if_neg hj] at e1 e2
    obtain ⟨n2, q⟩ := h3 j c r e1 e2
    exact ⟨n2, by rw [upd_ne n2]; exact q⟩
end L2
namespace L2
open PySem PySem.Spec PyProof.Rows PySem.W
theorem rd_rng2 {σ : St} {H : Hp} {ta : TA} {R : It → Hp → Prop} (h : ta σ H fun vs H1 => ∃ i j : Int, vs = [.int i, .int j] ∧ (-(2 ^ 62) ≤ i ∧ i < 2 ^ 62 ∧ -(2 ^ 62) ≤ j ∧ j < 2 ^ 62) ∧ R (Itr i (j - i).toNat) H1) : iRng2 ta σ H R := h
theorem rd_repS {H : Hp} {Q : VK} {l : Addr} {k : Int} {xs : List V} (h : H l = some (.lst xs)) (h0 : -(2 ^ 63) ≤ k) (h1 : k < 2 ^ 63) (hz : xs.length * k.toNat ≤ sizeLine) (q : ∀ p H1, Same H H1 → H p = none → H1 p = some (.lst (List.replicate k.toNat xs).flatten) → Q (.ref p) H1) : rRep (.ref l) (.int k) H Q :=
  ⟨l, k, xs, rfl, rfl, h, h0, h1, hz, fun p n => q p _ (Same.new n) n upd_same⟩
end L2

set_option Elab.async false
set_option maxHeartbeats 4000000
set_option linter.all false
set_option maxRecDepth 100000
namespace My
open PySem PySem.Spec PyProof.Rows L2
def top (i : Nat) : Stmt := PySem.Challenge.pw_sashiko_k22_even_blocks.main.body.getD i (.Pass ⟨0, 0, 0, 0⟩)
abbrev s_isnumber : Stmt := (top 12)
abbrev s_isbelow : Stmt := (top 13)
abbrev s_isbit : Stmt := (top 14)
abbrev s_allbits : Stmt := (top 15)
abbrev s_isside : Stmt := (top 16)
abbrev s_needtable : Stmt := (top 22)
abbrev s_iseven : Stmt := (top 23)
abbrev s_evenblocks : Stmt := (top 24)
abbrev s_clothof : Stmt := (top 26)
abbrev s_Lmarks : Stmt := (top 28)
abbrev s_Ldraws : Stmt := (top 29)
abbrev s_Lsewn : Stmt := (top 30)
abbrev s_Ltable : Stmt := (top 31)
abbrev s_Lbits : Stmt := (top 32)
abbrev s_Lrow : Stmt := (top 33)
abbrev s_Lplan : Stmt := (top 34)
abbrev s_Lspots : Stmt := (top 35)
abbrev s_Leven : Stmt := (top 36)
abbrev s_Lsame : Stmt := (top 37)
abbrev s_Ldue : Stmt := (top 38)
abbrev s_Ltried : Stmt := (top 39)
abbrev s_Lmisshapen : Stmt := (top 40)
abbrev s_law : Stmt := (top 41)
theorem sc_isnumber : FnScope ["value"] ["value"] (defScope s_isnumber) := ⟨rfl, rfl, rfl, by decide +kernel, rfl, by decide +kernel, by decide +kernel⟩
theorem sc_isbelow : FnScope ["value", "bound"] ["value", "bound"] (defScope s_isbelow) := ⟨rfl, rfl, rfl, by decide +kernel, rfl, by decide +kernel, by decide +kernel⟩
theorem sc_isbit : FnScope ["value"] ["value"] (defScope s_isbit) := ⟨rfl, rfl, rfl, by decide +kernel, rfl, by decide +kernel, by decide +kernel⟩
theorem sc_allbits : FnScope ["values"] ["values"] (defScope s_allbits) := ⟨rfl, rfl, rfl, by decide +kernel, rfl, by decide +kernel, by decide +kernel⟩
theorem sc_isside : FnScope ["count"] ["count"] (defScope s_isside) := ⟨rfl, rfl, rfl, by decide +kernel, rfl, by decide +kernel, by decide +kernel⟩
theorem sc_needtable : FnScope ["table", "lengths"] ["table"] (defScope s_needtable) := ⟨rfl, rfl, rfl, by decide +kernel, rfl, by decide +kernel, by decide +kernel⟩
theorem sc_iseven : FnScope ["table", "x", "y"] ["table", "x", "y"] (defScope s_iseven) := ⟨rfl, rfl, rfl, by decide +kernel, rfl, by decide +kernel, by decide +kernel⟩
theorem sc_evenblocks : FnScope ["table", "found", "y"] ["table"] (defScope s_evenblocks) := ⟨rfl, rfl, rfl, by decide +kernel, rfl, by decide +kernel, by decide +kernel⟩
theorem sc_clothof : FnScope ["table", "blocks", "first"] ["table"] (defScope s_clothof) := ⟨rfl, rfl, rfl, by decide +kernel, rfl, by decide +kernel, by decide +kernel⟩
theorem sc_Lmarks : FnScope ["_law_e"] ["_law_e"] (defScope s_Lmarks) := ⟨rfl, rfl, rfl, by decide +kernel, rfl, by decide +kernel, by decide +kernel⟩
theorem sc_Ldraws : FnScope ["_law_script", "_law_many", "_law_rows", "_law_mix", "_law_cell", "_law_rest"] ["_law_script", "_law_many"] (defScope s_Ldraws) := ⟨rfl, rfl, rfl, by decide +kernel, rfl, by decide +kernel, by decide +kernel⟩
theorem sc_Lsewn : FnScope ["_law_plan_here", "_law_way", "_law_k", "_law_step", "_law_bits_here"] ["_law_plan_here", "_law_way", "_law_k", "_law_step"] (defScope s_Lsewn) := ⟨rfl, rfl, rfl, by decide +kernel, rfl, by decide +kernel, by decide +kernel⟩
theorem sc_Ltable : FnScope ["_law_plan_here", "_law_table_here", "_law_left", "_law_y", "_law_row_here", "_law_k"] ["_law_plan_here"] (defScope s_Ltable) := ⟨rfl, rfl, rfl, by decide +kernel, rfl, by decide +kernel, by decide +kernel⟩
theorem sc_Lbits : FnScope ["_law_number", "_law_many", "_law_row_here", "_law_k"] ["_law_number", "_law_many"] (defScope s_Lbits) := ⟨rfl, rfl, rfl, by decide +kernel, rfl, by decide +kernel, by decide +kernel⟩
theorem sc_Lrow : FnScope ["_law_some", "_law_many", "_law_raw", "_law_row_here"] ["_law_some", "_law_many"] (defScope s_Lrow) := ⟨rfl, rfl, rfl, by decide +kernel, rfl, by decide +kernel, by decide +kernel⟩
theorem sc_Lplan : FnScope ["_law_some", "_law_wide", "_law_tall"] ["_law_some"] (defScope s_Lplan) := ⟨rfl, rfl, rfl, by decide +kernel, rfl, by decide +kernel, by decide +kernel⟩
theorem sc_Lspots : FnScope ["_law_some", "_law_table_here", "_law_many", "_law_k", "_law_x", "_law_y"] ["_law_some", "_law_table_here", "_law_many"] (defScope s_Lspots) := ⟨rfl, rfl, rfl, by decide +kernel, rfl, by decide +kernel, by decide +kernel⟩
theorem sc_Leven : FnScope ["_law_table_here", "_law_found", "_law_y", "_law_x", "_law_four"] ["_law_table_here"] (defScope s_Leven) := ⟨rfl, rfl, rfl, by decide +kernel, rfl, by decide +kernel, by decide +kernel⟩
theorem sc_Lsame : FnScope ["_law_told", "_law_due_here"] ["_law_told", "_law_due_here"] (defScope s_Lsame) := ⟨rfl, rfl, rfl, by decide +kernel, rfl, by decide +kernel, by decide +kernel⟩
theorem sc_Ldue : FnScope ["_law_word", "_law_words"] ["_law_word"] (defScope s_Ldue) := ⟨rfl, rfl, rfl, by decide +kernel, rfl, by decide +kernel, by decide +kernel⟩
theorem sc_Ltried : FnScope ["_law_table_here", "_law_door", "_law_marks_here", "_law_e"] ["_law_table_here", "_law_door"] (defScope s_Ltried) := ⟨rfl, rfl, rfl, by decide +kernel, rfl, by decide +kernel, by decide +kernel⟩
theorem sc_Lmisshapen : FnScope ["_law_some", "_law_table_here", "_law_way", "_law_at"] ["_law_some", "_law_table_here"] (defScope s_Lmisshapen) := ⟨rfl, rfl, rfl, by decide +kernel, rfl, by decide +kernel, by decide +kernel⟩
theorem sc_law : FnScope ["_law_script", "_law_some", "_law_table_here", "_law_due_here", "_law_handed", "_law_turn", "_law_found", "_law_spoilt", "_law_bad", "_law_door"] ["_law_script"] (defScope s_law) := ⟨rfl, rfl, rfl, by decide +kernel, rfl, by decide +kernel, by decide +kernel⟩
set_option genInjectivity false in
set_option genSizeOf false in
structure Ad where
  f_isnumber : Addr
  d_isnumber : FuncData
  f_isbelow : Addr
  d_isbelow : FuncData
  f_isbit : Addr
  d_isbit : FuncData
  f_allbits : Addr
  d_allbits : FuncData
  f_isside : Addr
  d_isside : FuncData
  f_needtable : Addr
  d_needtable : FuncData
  f_iseven : Addr
  d_iseven : FuncData
  f_evenblocks : Addr
  d_evenblocks : FuncData
  f_clothof : Addr
  d_clothof : FuncData
  f_Lmarks : Addr
  d_Lmarks : FuncData
  f_Ldraws : Addr
  d_Ldraws : FuncData
  f_Lsewn : Addr
  d_Lsewn : FuncData
  f_Ltable : Addr
  d_Ltable : FuncData
  f_Lbits : Addr
  d_Lbits : FuncData
  f_Lrow : Addr
  d_Lrow : FuncData
  f_Lplan : Addr
  d_Lplan : FuncData
  f_Lspots : Addr
  d_Lspots : FuncData
  f_Leven : Addr
  d_Leven : FuncData
  f_Lsame : Addr
  d_Lsame : FuncData
  f_Ldue : Addr
  d_Ldue : FuncData
  f_Ltried : Addr
  d_Ltried : FuncData
  f_Lmisshapen : Addr
  d_Lmisshapen : FuncData
  f_law : Addr
  d_law : FuncData
  a_SewError : Addr
  a_BadSize : Addr
  a_BadBit : Addr
  a_NoCell : Addr
  a_NoLine : Addr
  a_NoStep : Addr
  a_NoPoint : Addr
  tk_LONGEST_SIDE : Tok
structure Txt (K : PySem.W.Frag) (mg : Str → Option Value) (t : Ad) : Prop where
  F_isnumber : Fun K "is_number" "is_number" s_isnumber t.f_isnumber t.d_isnumber
  b_isnumber : Binds K t.d_isnumber ["value"] []
  mg_isnumber : mg "is_number" = some (.ref t.f_isnumber)
  F_isbelow : Fun K "is_below" "is_below" s_isbelow t.f_isbelow t.d_isbelow
  b_isbelow : Binds K t.d_isbelow ["value", "bound"] []
  mg_isbelow : mg "is_below" = some (.ref t.f_isbelow)
  F_isbit : Fun K "is_bit" "is_bit" s_isbit t.f_isbit t.d_isbit
  b_isbit : Binds K t.d_isbit ["value"] []
  mg_isbit : mg "is_bit" = some (.ref t.f_isbit)
  F_allbits : Fun K "all_bits" "all_bits" s_allbits t.f_allbits t.d_allbits
  b_allbits : Binds K t.d_allbits ["values"] []
  mg_allbits : mg "all_bits" = some (.ref t.f_allbits)
  F_isside : Fun K "is_side" "is_side" s_isside t.f_isside t.d_isside
  b_isside : Binds K t.d_isside ["count"] []
  mg_isside : mg "is_side" = some (.ref t.f_isside)
  F_needtable : Fun K "need_table" "need_table" s_needtable t.f_needtable t.d_needtable
  b_needtable : Binds K t.d_needtable ["table"] []
  mg_needtable : mg "need_table" = some (.ref t.f_needtable)
  F_iseven : Fun K "is_even" "is_even" s_iseven t.f_iseven t.d_iseven
  b_iseven : Binds K t.d_iseven ["table", "x", "y"] []
  mg_iseven : mg "is_even" = some (.ref t.f_iseven)
  F_evenblocks : Fun K "even_blocks" "even_blocks" s_evenblocks t.f_evenblocks t.d_evenblocks
  b_evenblocks : Binds K t.d_evenblocks ["table"] []
  mg_evenblocks : mg "even_blocks" = some (.ref t.f_evenblocks)
  F_clothof : Fun K "cloth_of" "cloth_of" s_clothof t.f_clothof t.d_clothof
  b_clothof : Binds K t.d_clothof ["table"] []
  mg_clothof : mg "cloth_of" = some (.ref t.f_clothof)
  F_Lmarks : Fun K "_law_marks" "_law_marks" s_Lmarks t.f_Lmarks t.d_Lmarks
  b_Lmarks : Binds K t.d_Lmarks ["_law_e"] []
  mg_Lmarks : mg "_law_marks" = some (.ref t.f_Lmarks)
  F_Ldraws : Fun K "_law_draws" "_law_draws" s_Ldraws t.f_Ldraws t.d_Ldraws
  b_Ldraws : Binds K t.d_Ldraws ["_law_script", "_law_many"] []
  mg_Ldraws : mg "_law_draws" = some (.ref t.f_Ldraws)
  F_Lsewn : Fun K "_law_sewn" "_law_sewn" s_Lsewn t.f_Lsewn t.d_Lsewn
  b_Lsewn : Binds K t.d_Lsewn ["_law_plan_here", "_law_way", "_law_k", "_law_step"] []
  mg_Lsewn : mg "_law_sewn" = some (.ref t.f_Lsewn)
  F_Ltable : Fun K "_law_table" "_law_table" s_Ltable t.f_Ltable t.d_Ltable
  b_Ltable : Binds K t.d_Ltable ["_law_plan_here"] []
  mg_Ltable : mg "_law_table" = some (.ref t.f_Ltable)
  F_Lbits : Fun K "_law_bits" "_law_bits" s_Lbits t.f_Lbits t.d_Lbits
  b_Lbits : Binds K t.d_Lbits ["_law_number", "_law_many"] []
  mg_Lbits : mg "_law_bits" = some (.ref t.f_Lbits)
  F_Lrow : Fun K "_law_row" "_law_row" s_Lrow t.f_Lrow t.d_Lrow
  b_Lrow : Binds K t.d_Lrow ["_law_some", "_law_many"] []
  mg_Lrow : mg "_law_row" = some (.ref t.f_Lrow)
  F_Lplan : Fun K "_law_plan" "_law_plan" s_Lplan t.f_Lplan t.d_Lplan
  b_Lplan : Binds K t.d_Lplan ["_law_some"] []
  mg_Lplan : mg "_law_plan" = some (.ref t.f_Lplan)
  F_Lspots : Fun K "_law_spots" "_law_spots" s_Lspots t.f_Lspots t.d_Lspots
  b_Lspots : Binds K t.d_Lspots ["_law_some", "_law_table_here", "_law_many"] []
  mg_Lspots : mg "_law_spots" = some (.ref t.f_Lspots)
  F_Leven : Fun K "_law_even" "_law_even" s_Leven t.f_Leven t.d_Leven
  b_Leven : Binds K t.d_Leven ["_law_table_here"] []
  mg_Leven : mg "_law_even" = some (.ref t.f_Leven)
  F_Lsame : Fun K "_law_same" "_law_same" s_Lsame t.f_Lsame t.d_Lsame
  b_Lsame : Binds K t.d_Lsame ["_law_told", "_law_due_here"] []
  mg_Lsame : mg "_law_same" = some (.ref t.f_Lsame)
  F_Ldue : Fun K "_law_due" "_law_due" s_Ldue t.f_Ldue t.d_Ldue
  b_Ldue : Binds K t.d_Ldue ["_law_word"] []
  mg_Ldue : mg "_law_due" = some (.ref t.f_Ldue)
  F_Ltried : Fun K "_law_tried" "_law_tried" s_Ltried t.f_Ltried t.d_Ltried
  b_Ltried : Binds K t.d_Ltried ["_law_table_here", "_law_door"] []
  mg_Ltried : mg "_law_tried" = some (.ref t.f_Ltried)
  F_Lmisshapen : Fun K "_law_misshapen" "_law_misshapen" s_Lmisshapen t.f_Lmisshapen t.d_Lmisshapen
  b_Lmisshapen : Binds K t.d_Lmisshapen ["_law_some", "_law_table_here"] []
  mg_Lmisshapen : mg "_law_misshapen" = some (.ref t.f_Lmisshapen)
  F_law : Fun K "law" "law" s_law t.f_law t.d_law
  b_law : Binds K t.d_law ["_law_script"] []
  mg_law : mg "law" = some (.ref t.f_law)
  mg_SewError : mg "SewError" = some (.ref t.a_SewError)
  mg_BadSize : mg "BadSize" = some (.ref t.a_BadSize)
  mg_BadBit : mg "BadBit" = some (.ref t.a_BadBit)
  mg_NoCell : mg "NoCell" = some (.ref t.a_NoCell)
  mg_NoLine : mg "NoLine" = some (.ref t.a_NoLine)
  mg_NoStep : mg "NoStep" = some (.ref t.a_NoStep)
  mg_NoPoint : mg "NoPoint" = some (.ref t.a_NoPoint)
  x_BadSize : PySem.W.excIn K t.a_BadSize [.type "ValueError", .type "Exception", .type "BaseException", .type "object"] "ValueError.__new__" = true
  xi_BadSize : ExcIn K t.a_BadSize
  cat_BadSize : PySem.W.exmOne K (.ref t.a_BadSize) (.ref t.a_SewError) = some true
  kt_BadSize_BadSize : PySem.W.kitOne K (.ref t.a_BadSize) (.ref t.a_BadSize) = some true
  kt_BadSize_BadBit : PySem.W.kitOne K (.ref t.a_BadSize) (.ref t.a_BadBit) = some false
  kt_BadSize_NoCell : PySem.W.kitOne K (.ref t.a_BadSize) (.ref t.a_NoCell) = some false
  kt_BadSize_NoLine : PySem.W.kitOne K (.ref t.a_BadSize) (.ref t.a_NoLine) = some false
  kt_BadSize_NoStep : PySem.W.kitOne K (.ref t.a_BadSize) (.ref t.a_NoStep) = some false
  kt_BadSize_NoPoint : PySem.W.kitOne K (.ref t.a_BadSize) (.ref t.a_NoPoint) = some false
  kv_BadSize : PySem.W.kitOne K (.ref t.a_BadSize) (.type "ValueError") = some true
  x_BadBit : PySem.W.excIn K t.a_BadBit [.type "ValueError", .type "Exception", .type "BaseException", .type "object"] "ValueError.__new__" = true
  xi_BadBit : ExcIn K t.a_BadBit
  cat_BadBit : PySem.W.exmOne K (.ref t.a_BadBit) (.ref t.a_SewError) = some true
  kt_BadBit_BadSize : PySem.W.kitOne K (.ref t.a_BadBit) (.ref t.a_BadSize) = some false
  kt_BadBit_BadBit : PySem.W.kitOne K (.ref t.a_BadBit) (.ref t.a_BadBit) = some true
  kt_BadBit_NoCell : PySem.W.kitOne K (.ref t.a_BadBit) (.ref t.a_NoCell) = some false
  kt_BadBit_NoLine : PySem.W.kitOne K (.ref t.a_BadBit) (.ref t.a_NoLine) = some false
  kt_BadBit_NoStep : PySem.W.kitOne K (.ref t.a_BadBit) (.ref t.a_NoStep) = some false
  kt_BadBit_NoPoint : PySem.W.kitOne K (.ref t.a_BadBit) (.ref t.a_NoPoint) = some false
  kv_BadBit : PySem.W.kitOne K (.ref t.a_BadBit) (.type "ValueError") = some true
  mg_LONGEST_SIDE : mg "LONGEST_SIDE" = some (.int 40 t.tk_LONGEST_SIDE)
  no_isinstance : mg "isinstance" = none
  no_int : mg "int" = none
  no_bool : mg "bool" = none
  no_all : mg "all" = none
  no_len : mg "len" = none
  no_tuple : mg "tuple" = none
  no_list : mg "list" = none
  no_range : mg "range" = none
  no_abs : mg "abs" = none
  no_sum : mg "sum" = none
  no_min : mg "min" = none
  no_str : mg "str" = none
  no_zip : mg "zip" = none
  no_ValueError : mg "ValueError" = none
theorem txt_mk {K : PySem.W.Frag} {h : Heap} {mg : Str → Option Value} (X : K.In h) (G : h.Ns mainGlobals mg) {f_isnumber : Addr} {od_isnumber an_isnumber : Option Addr} {sl_isnumber : Array (Option Value)} {oc_isnumber kV_isnumber dc_isnumber pm_isnumber cd_isnumber ct_isnumber : Value} {f_isbelow : Addr} {od_isbelow an_isbelow : Option Addr} {sl_isbelow : Array (Option Value)} {oc_isbelow kV_isbelow dc_isbelow pm_isbelow cd_isbelow ct_isbelow : Value} {f_isbit : Addr} {od_isbit an_isbit : Option Addr} {sl_isbit : Array (Option Value)} {oc_isbit kV_isbit dc_isbit pm_isbit cd_isbit ct_isbit : Value} {f_allbits : Addr} {od_allbits an_allbits : Option Addr} {sl_allbits : Array (Option Value)} {oc_allbits kV_allbits dc_allbits pm_allbits cd_allbits ct_allbits : Value} {f_isside : Addr} {od_isside an_isside : Option Addr} {sl_isside : Array (Option Value)} {oc_isside kV_isside dc_isside pm_isside cd_isside ct_isside : Value} {f_needtable : Addr} {od_needtable an_needtable : Option Addr} {sl_needtable : Array (Option Value)} {oc_needtable kV_needtable dc_needtable pm_needtable cd_needtable ct_needtable : Value} {f_iseven : Addr} {od_iseven an_iseven : Option Addr} {sl_iseven : Array (Option Value)} {oc_iseven kV_iseven dc_iseven pm_iseven cd_iseven ct_iseven : Value} {f_evenblocks : Addr} {od_evenblocks an_evenblocks : Option Addr} {sl_evenblocks : Array (Option Value)} {oc_evenblocks kV_evenblocks dc_evenblocks pm_evenblocks cd_evenblocks ct_evenblocks : Value} {f_clothof : Addr} {od_clothof an_clothof : Option Addr} {sl_clothof : Array (Option Value)} {oc_clothof kV_clothof dc_clothof pm_clothof cd_clothof ct_clothof : Value} {f_Lmarks : Addr} {od_Lmarks an_Lmarks : Option Addr} {sl_Lmarks : Array (Option Value)} {oc_Lmarks kV_Lmarks dc_Lmarks pm_Lmarks cd_Lmarks ct_Lmarks : Value} {f_Ldraws : Addr} {od_Ldraws an_Ldraws : Option Addr} {sl_Ldraws : Array (Option Value)} {oc_Ldraws kV_Ldraws dc_Ldraws pm_Ldraws cd_Ldraws ct_Ldraws : Value} {f_Lsewn : Addr} {od_Lsewn an_Lsewn : Option Addr} {sl_Lsewn : Array (Option Value)} {oc_Lsewn kV_Lsewn dc_Lsewn pm_Lsewn cd_Lsewn ct_Lsewn : Value} {f_Ltable : Addr} {od_Ltable an_Ltable : Option Addr} {sl_Ltable : Array (Option Value)} {oc_Ltable kV_Ltable dc_Ltable pm_Ltable cd_Ltable ct_Ltable : Value} {f_Lbits : Addr} {od_Lbits an_Lbits : Option Addr} {sl_Lbits : Array (Option Value)} {oc_Lbits kV_Lbits dc_Lbits pm_Lbits cd_Lbits ct_Lbits : Value} {f_Lrow : Addr} {od_Lrow an_Lrow : Option Addr} {sl_Lrow : Array (Option Value)} {oc_Lrow kV_Lrow dc_Lrow pm_Lrow cd_Lrow ct_Lrow : Value} {f_Lplan : Addr} {od_Lplan an_Lplan : Option Addr} {sl_Lplan : Array (Option Value)} {oc_Lplan kV_Lplan dc_Lplan pm_Lplan cd_Lplan ct_Lplan : Value} {f_Lspots : Addr} {od_Lspots an_Lspots : Option Addr} {sl_Lspots : Array (Option Value)} {oc_Lspots kV_Lspots dc_Lspots pm_Lspots cd_Lspots ct_Lspots : Value} {f_Leven : Addr} {od_Leven an_Leven : Option Addr} {sl_Leven : Array (Option Value)} {oc_Leven kV_Leven dc_Leven pm_Leven cd_Leven ct_Leven : Value} {f_Lsame : Addr} {od_Lsame an_Lsame : Option Addr} {sl_Lsame : Array (Option Value)} {oc_Lsame kV_Lsame dc_Lsame pm_Lsame cd_Lsame ct_Lsame : Value} {f_Ldue : Addr} {od_Ldue an_Ldue : Option Addr} {sl_Ldue : Array (Option Value)} {oc_Ldue kV_Ldue dc_Ldue pm_Ldue cd_Ldue ct_Ldue : Value} {f_Ltried : Addr} {od_Ltried an_Ltried : Option Addr} {sl_Ltried : Array (Option Value)} {oc_Ltried kV_Ltried dc_Ltried pm_Ltried cd_Ltried ct_Ltried : Value} {f_Lmisshapen : Addr} {od_Lmisshapen an_Lmisshapen : Option Addr} {sl_Lmisshapen : Array (Option Value)} {oc_Lmisshapen kV_Lmisshapen dc_Lmisshapen pm_Lmisshapen cd_Lmisshapen ct_Lmisshapen : Value} {f_law : Addr} {od_law an_law : Option Addr} {sl_law : Array (Option Value)} {oc_law kV_law dc_law pm_law cd_law ct_law : Value} {C_SewError : Addr} {C_BadSize : Addr} {C_BadBit : Addr} {C_NoCell : Addr} {C_NoLine : Addr} {C_NoStep : Addr} {C_NoPoint : Addr} {tk_LONGEST_SIDE : Tok}
    (a_isnumber : PySem.W.nsIn K mainGlobals "is_number" = some (some (.ref f_isnumber)))
    (l_isnumber : K.lookup f_isnumber = some ⟨oc_isnumber, od_isnumber, .func (PySem.W.fnOf "is_number" "is_number" (defArgs s_isnumber) (defBody s_isnumber) (defScope s_isnumber) .none kV_isnumber dc_isnumber pm_isnumber an_isnumber cd_isnumber ct_isnumber), sl_isnumber⟩)
    (c_isnumber : PySem.W.codeIn K cd_isnumber "is_number" = true)
    (k_isnumber : PySem.W.keepIn K (.ref f_isnumber) = true)
    (a_isbelow : PySem.W.nsIn K mainGlobals "is_below" = some (some (.ref f_isbelow)))
    (l_isbelow : K.lookup f_isbelow = some ⟨oc_isbelow, od_isbelow, .func (PySem.W.fnOf "is_below" "is_below" (defArgs s_isbelow) (defBody s_isbelow) (defScope s_isbelow) .none kV_isbelow dc_isbelow pm_isbelow an_isbelow cd_isbelow ct_isbelow), sl_isbelow⟩)
    (c_isbelow : PySem.W.codeIn K cd_isbelow "is_below" = true)
    (k_isbelow : PySem.W.keepIn K (.ref f_isbelow) = true)
    (a_isbit : PySem.W.nsIn K mainGlobals "is_bit" = some (some (.ref f_isbit)))
    (l_isbit : K.lookup f_isbit = some ⟨oc_isbit, od_isbit, .func (PySem.W.fnOf "is_bit" "is_bit" (defArgs s_isbit) (defBody s_isbit) (defScope s_isbit) .none kV_isbit dc_isbit pm_isbit an_isbit cd_isbit ct_isbit), sl_isbit⟩)
    (c_isbit : PySem.W.codeIn K cd_isbit "is_bit" = true)
    (k_isbit : PySem.W.keepIn K (.ref f_isbit) = true)
    (a_allbits : PySem.W.nsIn K mainGlobals "all_bits" = some (some (.ref f_allbits)))
    (l_allbits : K.lookup f_allbits = some ⟨oc_allbits, od_allbits, .func (PySem.W.fnOf "all_bits" "all_bits" (defArgs s_allbits) (defBody s_allbits) (defScope s_allbits) .none kV_allbits dc_allbits pm_allbits an_allbits cd_allbits ct_allbits), sl_allbits⟩)
    (c_allbits : PySem.W.codeIn K cd_allbits "all_bits" = true)
    (k_allbits : PySem.W.keepIn K (.ref f_allbits) = true)
    (a_isside : PySem.W.nsIn K mainGlobals "is_side" = some (some (.ref f_isside)))
    (l_isside : K.lookup f_isside = some ⟨oc_isside, od_isside, .func (PySem.W.fnOf "is_side" "is_side" (defArgs s_isside) (defBody s_isside) (defScope s_isside) .none kV_isside dc_isside pm_isside an_isside cd_isside ct_isside), sl_isside⟩)
    (c_isside : PySem.W.codeIn K cd_isside "is_side" = true)
    (k_isside : PySem.W.keepIn K (.ref f_isside) = true)
    (a_needtable : PySem.W.nsIn K mainGlobals "need_table" = some (some (.ref f_needtable)))
    (l_needtable : K.lookup f_needtable = some ⟨oc_needtable, od_needtable, .func (PySem.W.fnOf "need_table" "need_table" (defArgs s_needtable) (defBody s_needtable) (defScope s_needtable) .none kV_needtable dc_needtable pm_needtable an_needtable cd_needtable ct_needtable), sl_needtable⟩)
    (c_needtable : PySem.W.codeIn K cd_needtable "need_table" = true)
    (k_needtable : PySem.W.keepIn K (.ref f_needtable) = true)
    (a_iseven : PySem.W.nsIn K mainGlobals "is_even" = some (some (.ref f_iseven)))
    (l_iseven : K.lookup f_iseven = some ⟨oc_iseven, od_iseven, .func (PySem.W.fnOf "is_even" "is_even" (defArgs s_iseven) (defBody s_iseven) (defScope s_iseven) .none kV_iseven dc_iseven pm_iseven an_iseven cd_iseven ct_iseven), sl_iseven⟩)
    (c_iseven : PySem.W.codeIn K cd_iseven "is_even" = true)
    (k_iseven : PySem.W.keepIn K (.ref f_iseven) = true)
    (a_evenblocks : PySem.W.nsIn K mainGlobals "even_blocks" = some (some (.ref f_evenblocks)))
    (l_evenblocks : K.lookup f_evenblocks = some ⟨oc_evenblocks, od_evenblocks, .func (PySem.W.fnOf "even_blocks" "even_blocks" (defArgs s_evenblocks) (defBody s_evenblocks) (defScope s_evenblocks) .none kV_evenblocks dc_evenblocks pm_evenblocks an_evenblocks cd_evenblocks ct_evenblocks), sl_evenblocks⟩)
    (c_evenblocks : PySem.W.codeIn K cd_evenblocks "even_blocks" = true)
    (k_evenblocks : PySem.W.keepIn K (.ref f_evenblocks) = true)
    (a_clothof : PySem.W.nsIn K mainGlobals "cloth_of" = some (some (.ref f_clothof)))
    (l_clothof : K.lookup f_clothof = some ⟨oc_clothof, od_clothof, .func (PySem.W.fnOf "cloth_of" "cloth_of" (defArgs s_clothof) (defBody s_clothof) (defScope s_clothof) .none kV_clothof dc_clothof pm_clothof an_clothof cd_clothof ct_clothof), sl_clothof⟩)
    (c_clothof : PySem.W.codeIn K cd_clothof "cloth_of" = true)
    (k_clothof : PySem.W.keepIn K (.ref f_clothof) = true)
    (a_Lmarks : PySem.W.nsIn K mainGlobals "_law_marks" = some (some (.ref f_Lmarks)))
    (l_Lmarks : K.lookup f_Lmarks = some ⟨oc_Lmarks, od_Lmarks, .func (PySem.W.fnOf "_law_marks" "_law_marks" (defArgs s_Lmarks) (defBody s_Lmarks) (defScope s_Lmarks) .none kV_Lmarks dc_Lmarks pm_Lmarks an_Lmarks cd_Lmarks ct_Lmarks), sl_Lmarks⟩)
    (c_Lmarks : PySem.W.codeIn K cd_Lmarks "_law_marks" = true)
    (k_Lmarks : PySem.W.keepIn K (.ref f_Lmarks) = true)
    (a_Ldraws : PySem.W.nsIn K mainGlobals "_law_draws" = some (some (.ref f_Ldraws)))
    (l_Ldraws : K.lookup f_Ldraws = some ⟨oc_Ldraws, od_Ldraws, .func (PySem.W.fnOf "_law_draws" "_law_draws" (defArgs s_Ldraws) (defBody s_Ldraws) (defScope s_Ldraws) .none kV_Ldraws dc_Ldraws pm_Ldraws an_Ldraws cd_Ldraws ct_Ldraws), sl_Ldraws⟩)
    (c_Ldraws : PySem.W.codeIn K cd_Ldraws "_law_draws" = true)
    (k_Ldraws : PySem.W.keepIn K (.ref f_Ldraws) = true)
    (a_Lsewn : PySem.W.nsIn K mainGlobals "_law_sewn" = some (some (.ref f_Lsewn)))
    (l_Lsewn : K.lookup f_Lsewn = some ⟨oc_Lsewn, od_Lsewn, .func (PySem.W.fnOf "_law_sewn" "_law_sewn" (defArgs s_Lsewn) (defBody s_Lsewn) (defScope s_Lsewn) .none kV_Lsewn dc_Lsewn pm_Lsewn an_Lsewn cd_Lsewn ct_Lsewn), sl_Lsewn⟩)
    (c_Lsewn : PySem.W.codeIn K cd_Lsewn "_law_sewn" = true)
    (k_Lsewn : PySem.W.keepIn K (.ref f_Lsewn) = true)
    (a_Ltable : PySem.W.nsIn K mainGlobals "_law_table" = some (some (.ref f_Ltable)))
    (l_Ltable : K.lookup f_Ltable = some ⟨oc_Ltable, od_Ltable, .func (PySem.W.fnOf "_law_table" "_law_table" (defArgs s_Ltable) (defBody s_Ltable) (defScope s_Ltable) .none kV_Ltable dc_Ltable pm_Ltable an_Ltable cd_Ltable ct_Ltable), sl_Ltable⟩)
    (c_Ltable : PySem.W.codeIn K cd_Ltable "_law_table" = true)
    (k_Ltable : PySem.W.keepIn K (.ref f_Ltable) = true)
    (a_Lbits : PySem.W.nsIn K mainGlobals "_law_bits" = some (some (.ref f_Lbits)))
    (l_Lbits : K.lookup f_Lbits = some ⟨oc_Lbits, od_Lbits, .func (PySem.W.fnOf "_law_bits" "_law_bits" (defArgs s_Lbits) (defBody s_Lbits) (defScope s_Lbits) .none kV_Lbits dc_Lbits pm_Lbits an_Lbits cd_Lbits ct_Lbits), sl_Lbits⟩)
    (c_Lbits : PySem.W.codeIn K cd_Lbits "_law_bits" = true)
    (k_Lbits : PySem.W.keepIn K (.ref f_Lbits) = true)
    (a_Lrow : PySem.W.nsIn K mainGlobals "_law_row" = some (some (.ref f_Lrow)))
    (l_Lrow : K.lookup f_Lrow = some ⟨oc_Lrow, od_Lrow, .func (PySem.W.fnOf "_law_row" "_law_row" (defArgs s_Lrow) (defBody s_Lrow) (defScope s_Lrow) .none kV_Lrow dc_Lrow pm_Lrow an_Lrow cd_Lrow ct_Lrow), sl_Lrow⟩)
    (c_Lrow : PySem.W.codeIn K cd_Lrow "_law_row" = true)
    (k_Lrow : PySem.W.keepIn K (.ref f_Lrow) = true)
    (a_Lplan : PySem.W.nsIn K mainGlobals "_law_plan" = some (some (.ref f_Lplan)))
    (l_Lplan : K.lookup f_Lplan = some ⟨oc_Lplan, od_Lplan, .func (PySem.W.fnOf "_law_plan" "_law_plan" (defArgs s_Lplan) (defBody s_Lplan) (defScope s_Lplan) .none kV_Lplan dc_Lplan pm_Lplan an_Lplan cd_Lplan ct_Lplan), sl_Lplan⟩)
    (c_Lplan : PySem.W.codeIn K cd_Lplan "_law_plan" = true)
    (k_Lplan : PySem.W.keepIn K (.ref f_Lplan) = true)
    (a_Lspots : PySem.W.nsIn K mainGlobals "_law_spots" = some (some (.ref f_Lspots)))
    (l_Lspots : K.lookup f_Lspots = some ⟨oc_Lspots, od_Lspots, .func (PySem.W.fnOf "_law_spots" "_law_spots" (defArgs s_Lspots) (defBody s_Lspots) (defScope s_Lspots) .none kV_Lspots dc_Lspots pm_Lspots an_Lspots cd_Lspots ct_Lspots), sl_Lspots⟩)
    (c_Lspots : PySem.W.codeIn K cd_Lspots "_law_spots" = true)
    (k_Lspots : PySem.W.keepIn K (.ref f_Lspots) = true)
    (a_Leven : PySem.W.nsIn K mainGlobals "_law_even" = some (some (.ref f_Leven)))
    (l_Leven : K.lookup f_Leven = some ⟨oc_Leven, od_Leven, .func (PySem.W.fnOf "_law_even" "_law_even" (defArgs s_Leven) (defBody s_Leven) (defScope s_Leven) .none kV_Leven dc_Leven pm_Leven an_Leven cd_Leven ct_Leven), sl_Leven⟩)
    (c_Leven : PySem.W.codeIn K cd_Leven "_law_even" = true)
    (k_Leven : PySem.W.keepIn K (.ref f_Leven) = true)
    (a_Lsame : PySem.W.nsIn K mainGlobals "_law_same" = some (some (.ref f_Lsame)))
    (l_Lsame : K.lookup f_Lsame = some ⟨oc_Lsame, od_Lsame, .func (PySem.W.fnOf "_law_same" "_law_same" (defArgs s_Lsame) (defBody s_Lsame) (defScope s_Lsame) .none kV_Lsame dc_Lsame pm_Lsame an_Lsame cd_Lsame ct_Lsame), sl_Lsame⟩)
    (c_Lsame : PySem.W.codeIn K cd_Lsame "_law_same" = true)
    (k_Lsame : PySem.W.keepIn K (.ref f_Lsame) = true)
    (a_Ldue : PySem.W.nsIn K mainGlobals "_law_due" = some (some (.ref f_Ldue)))
    (l_Ldue : K.lookup f_Ldue = some ⟨oc_Ldue, od_Ldue, .func (PySem.W.fnOf "_law_due" "_law_due" (defArgs s_Ldue) (defBody s_Ldue) (defScope s_Ldue) .none kV_Ldue dc_Ldue pm_Ldue an_Ldue cd_Ldue ct_Ldue), sl_Ldue⟩)
    (c_Ldue : PySem.W.codeIn K cd_Ldue "_law_due" = true)
    (k_Ldue : PySem.W.keepIn K (.ref f_Ldue) = true)
    (a_Ltried : PySem.W.nsIn K mainGlobals "_law_tried" = some (some (.ref f_Ltried)))
    (l_Ltried : K.lookup f_Ltried = some ⟨oc_Ltried, od_Ltried, .func (PySem.W.fnOf "_law_tried" "_law_tried" (defArgs s_Ltried) (defBody s_Ltried) (defScope s_Ltried) .none kV_Ltried dc_Ltried pm_Ltried an_Ltried cd_Ltried ct_Ltried), sl_Ltried⟩)
    (c_Ltried : PySem.W.codeIn K cd_Ltried "_law_tried" = true)
    (k_Ltried : PySem.W.keepIn K (.ref f_Ltried) = true)
    (a_Lmisshapen : PySem.W.nsIn K mainGlobals "_law_misshapen" = some (some (.ref f_Lmisshapen)))
    (l_Lmisshapen : K.lookup f_Lmisshapen = some ⟨oc_Lmisshapen, od_Lmisshapen, .func (PySem.W.fnOf "_law_misshapen" "_law_misshapen" (defArgs s_Lmisshapen) (defBody s_Lmisshapen) (defScope s_Lmisshapen) .none kV_Lmisshapen dc_Lmisshapen pm_Lmisshapen an_Lmisshapen cd_Lmisshapen ct_Lmisshapen), sl_Lmisshapen⟩)
    (c_Lmisshapen : PySem.W.codeIn K cd_Lmisshapen "_law_misshapen" = true)
    (k_Lmisshapen : PySem.W.keepIn K (.ref f_Lmisshapen) = true)
    (a_law : PySem.W.nsIn K mainGlobals "law" = some (some (.ref f_law)))
    (l_law : K.lookup f_law = some ⟨oc_law, od_law, .func (PySem.W.fnOf "law" "law" (defArgs s_law) (defBody s_law) (defScope s_law) .none kV_law dc_law pm_law an_law cd_law ct_law), sl_law⟩)
    (c_law : PySem.W.codeIn K cd_law "law" = true)
    (k_law : PySem.W.keepIn K (.ref f_law) = true)
    (aX_SewError : PySem.W.nsIn K mainGlobals "SewError" = some (some (.ref C_SewError)))
    (aX_BadSize : PySem.W.nsIn K mainGlobals "BadSize" = some (some (.ref C_BadSize)))
    (aX_BadBit : PySem.W.nsIn K mainGlobals "BadBit" = some (some (.ref C_BadBit)))
    (aX_NoCell : PySem.W.nsIn K mainGlobals "NoCell" = some (some (.ref C_NoCell)))
    (aX_NoLine : PySem.W.nsIn K mainGlobals "NoLine" = some (some (.ref C_NoLine)))
    (aX_NoStep : PySem.W.nsIn K mainGlobals "NoStep" = some (some (.ref C_NoStep)))
    (aX_NoPoint : PySem.W.nsIn K mainGlobals "NoPoint" = some (some (.ref C_NoPoint)))
    (bb : PySem.W.subIn K (.ref C_SewError) (.type "BaseException") = some true)
    (bm : PySem.W.mroIn K C_SewError (.type "object") = some true)
    (bt : PySem.W.typeIn K (.ref C_SewError) = some (.type "type"))
    (ogs : PySem.W.specialIn K (.builtin "object.__class__") "__get__" = some (some (.builtin "getset_descriptor.__get__")))
    (otk : PySem.W.takesIn K (.builtin "object.__class__") = some true)
    (x_BadSize : PySem.W.excIn K C_BadSize [.type "ValueError", .type "Exception", .type "BaseException", .type "object"] "ValueError.__new__" = true)
    (ga_BadSize : PySem.W.findIn K (.ref C_BadSize) "__getattribute__" = some (some (.builtin "BaseException.__getattribute__")))
    (gt_BadSize : PySem.W.findIn K (.ref C_BadSize) "__getattr__" = some none)
    (gc_BadSize : PySem.W.findIn K (.ref C_BadSize) "__class__" = some (some (.builtin "object.__class__")))
    (go_BadSize : PySem.W.mroIn K C_BadSize (.type "object") = some true)
    (gb_BadSize : PySem.W.mroIn K C_BadSize (.type "BaseException") = some true)
    (sb_BadSize : PySem.W.subIn K (.ref C_BadSize) (.ref C_SewError) = some true)
    (kt_BadSize_BadSize : PySem.W.kitOne K (.ref C_BadSize) (.ref C_BadSize) = some true)
    (kt_BadSize_BadBit : PySem.W.kitOne K (.ref C_BadSize) (.ref C_BadBit) = some false)
    (kt_BadSize_NoCell : PySem.W.kitOne K (.ref C_BadSize) (.ref C_NoCell) = some false)
    (kt_BadSize_NoLine : PySem.W.kitOne K (.ref C_BadSize) (.ref C_NoLine) = some false)
    (kt_BadSize_NoStep : PySem.W.kitOne K (.ref C_BadSize) (.ref C_NoStep) = some false)
    (kt_BadSize_NoPoint : PySem.W.kitOne K (.ref C_BadSize) (.ref C_NoPoint) = some false)
    (kv_BadSize : PySem.W.kitOne K (.ref C_BadSize) (.type "ValueError") = some true)
    (x_BadBit : PySem.W.excIn K C_BadBit [.type "ValueError", .type "Exception", .type "BaseException", .type "object"] "ValueError.__new__" = true)
    (ga_BadBit : PySem.W.findIn K (.ref C_BadBit) "__getattribute__" = some (some (.builtin "BaseException.__getattribute__")))
    (gt_BadBit : PySem.W.findIn K (.ref C_BadBit) "__getattr__" = some none)
    (gc_BadBit : PySem.W.findIn K (.ref C_BadBit) "__class__" = some (some (.builtin "object.__class__")))
    (go_BadBit : PySem.W.mroIn K C_BadBit (.type "object") = some true)
    (gb_BadBit : PySem.W.mroIn K C_BadBit (.type "BaseException") = some true)
    (sb_BadBit : PySem.W.subIn K (.ref C_BadBit) (.ref C_SewError) = some true)
    (kt_BadBit_BadSize : PySem.W.kitOne K (.ref C_BadBit) (.ref C_BadSize) = some false)
    (kt_BadBit_BadBit : PySem.W.kitOne K (.ref C_BadBit) (.ref C_BadBit) = some true)
    (kt_BadBit_NoCell : PySem.W.kitOne K (.ref C_BadBit) (.ref C_NoCell) = some false)
    (kt_BadBit_NoLine : PySem.W.kitOne K (.ref C_BadBit) (.ref C_NoLine) = some false)
    (kt_BadBit_NoStep : PySem.W.kitOne K (.ref C_BadBit) (.ref C_NoStep) = some false)
    (kt_BadBit_NoPoint : PySem.W.kitOne K (.ref C_BadBit) (.ref C_NoPoint) = some false)
    (kv_BadBit : PySem.W.kitOne K (.ref C_BadBit) (.type "ValueError") = some true)
    (v_LONGEST_SIDE : PySem.W.nsIn K mainGlobals "LONGEST_SIDE" = some (some (.int 40 tk_LONGEST_SIDE)))
    (z_isinstance : PySem.W.nsIn K mainGlobals "isinstance" = some none)
    (z_int : PySem.W.nsIn K mainGlobals "int" = some none)
    (z_bool : PySem.W.nsIn K mainGlobals "bool" = some none)
    (z_all : PySem.W.nsIn K mainGlobals "all" = some none)
    (z_len : PySem.W.nsIn K mainGlobals "len" = some none)
    (z_tuple : PySem.W.nsIn K mainGlobals "tuple" = some none)
    (z_list : PySem.W.nsIn K mainGlobals "list" = some none)
    (z_range : PySem.W.nsIn K mainGlobals "range" = some none)
    (z_abs : PySem.W.nsIn K mainGlobals "abs" = some none)
    (z_sum : PySem.W.nsIn K mainGlobals "sum" = some none)
    (z_min : PySem.W.nsIn K mainGlobals "min" = some none)
    (z_str : PySem.W.nsIn K mainGlobals "str" = some none)
    (z_zip : PySem.W.nsIn K mainGlobals "zip" = some none)
    (z_ValueError : PySem.W.nsIn K mainGlobals "ValueError" = some none) : ∃ t : Ad, Txt K mg t ∧ (∀ (s : Shared) (v : Value), BindsTo s t.d_law ⟨[v], []⟩ [("_law_script", v)]) :=
  ⟨{ f_isnumber := f_isnumber, d_isnumber := PySem.W.fnOf "is_number" "is_number" (defArgs s_isnumber) (defBody s_isnumber) (defScope s_isnumber) .none kV_isnumber dc_isnumber pm_isnumber an_isnumber cd_isnumber ct_isnumber, f_isbelow := f_isbelow, d_isbelow := PySem.W.fnOf "is_below" "is_below" (defArgs s_isbelow) (defBody s_isbelow) (defScope s_isbelow) .none kV_isbelow dc_isbelow pm_isbelow an_isbelow cd_isbelow ct_isbelow, f_isbit := f_isbit, d_isbit := PySem.W.fnOf "is_bit" "is_bit" (defArgs s_isbit) (defBody s_isbit) (defScope s_isbit) .none kV_isbit dc_isbit pm_isbit an_isbit cd_isbit ct_isbit, f_allbits := f_allbits, d_allbits := PySem.W.fnOf "all_bits" "all_bits" (defArgs s_allbits) (defBody s_allbits) (defScope s_allbits) .none kV_allbits dc_allbits pm_allbits an_allbits cd_allbits ct_allbits, f_isside := f_isside, d_isside := PySem.W.fnOf "is_side" "is_side" (defArgs s_isside) (defBody s_isside) (defScope s_isside) .none kV_isside dc_isside pm_isside an_isside cd_isside ct_isside, f_needtable := f_needtable, d_needtable := PySem.W.fnOf "need_table" "need_table" (defArgs s_needtable) (defBody s_needtable) (defScope s_needtable) .none kV_needtable dc_needtable pm_needtable an_needtable cd_needtable ct_needtable, f_iseven := f_iseven, d_iseven := PySem.W.fnOf "is_even" "is_even" (defArgs s_iseven) (defBody s_iseven) (defScope s_iseven) .none kV_iseven dc_iseven pm_iseven an_iseven cd_iseven ct_iseven, f_evenblocks := f_evenblocks, d_evenblocks := PySem.W.fnOf "even_blocks" "even_blocks" (defArgs s_evenblocks) (defBody s_evenblocks) (defScope s_evenblocks) .none kV_evenblocks dc_evenblocks pm_evenblocks an_evenblocks cd_evenblocks ct_evenblocks, f_clothof := f_clothof, d_clothof := PySem.W.fnOf "cloth_of" "cloth_of" (defArgs s_clothof) (defBody s_clothof) (defScope s_clothof) .none kV_clothof dc_clothof pm_clothof an_clothof cd_clothof ct_clothof, f_Lmarks := f_Lmarks, d_Lmarks := PySem.W.fnOf "_law_marks" "_law_marks" (defArgs s_Lmarks) (defBody s_Lmarks) (defScope s_Lmarks) .none kV_Lmarks dc_Lmarks pm_Lmarks an_Lmarks cd_Lmarks ct_Lmarks, f_Ldraws := f_Ldraws, d_Ldraws := PySem.W.fnOf "_law_draws" "_law_draws" (defArgs s_Ldraws) (defBody s_Ldraws) (defScope s_Ldraws) .none kV_Ldraws dc_Ldraws pm_Ldraws an_Ldraws cd_Ldraws ct_Ldraws, f_Lsewn := f_Lsewn, d_Lsewn := PySem.W.fnOf "_law_sewn" "_law_sewn" (defArgs s_Lsewn) (defBody s_Lsewn) (defScope s_Lsewn) .none kV_Lsewn dc_Lsewn pm_Lsewn an_Lsewn cd_Lsewn ct_Lsewn, f_Ltable := f_Ltable, d_Ltable := PySem.W.fnOf "_law_table" "_law_table" (defArgs s_Ltable) (defBody s_Ltable) (defScope s_Ltable) .none kV_Ltable dc_Ltable pm_Ltable an_Ltable cd_Ltable ct_Ltable, f_Lbits := f_Lbits, d_Lbits := PySem.W.fnOf "_law_bits" "_law_bits" (defArgs s_Lbits) (defBody s_Lbits) (defScope s_Lbits) .none kV_Lbits dc_Lbits pm_Lbits an_Lbits cd_Lbits ct_Lbits, f_Lrow := f_Lrow, d_Lrow := PySem.W.fnOf "_law_row" "_law_row" (defArgs s_Lrow) (defBody s_Lrow) (defScope s_Lrow) .none kV_Lrow dc_Lrow pm_Lrow an_Lrow cd_Lrow ct_Lrow, f_Lplan := f_Lplan, d_Lplan := PySem.W.fnOf "_law_plan" "_law_plan" (defArgs s_Lplan) (defBody s_Lplan) (defScope s_Lplan) .none kV_Lplan dc_Lplan pm_Lplan an_Lplan cd_Lplan ct_Lplan, f_Lspots := f_Lspots, d_Lspots := PySem.W.fnOf "_law_spots" "_law_spots" (defArgs s_Lspots) (defBody s_Lspots) (defScope s_Lspots) .none kV_Lspots dc_Lspots pm_Lspots an_Lspots cd_Lspots ct_Lspots, f_Leven := f_Leven, d_Leven := PySem.W.fnOf "_law_even" "_law_even" (defArgs s_Leven) (defBody s_Leven) (defScope s_Leven) .none kV_Leven dc_Leven pm_Leven an_Leven cd_Leven ct_Leven, f_Lsame := f_Lsame, d_Lsame := PySem.W.fnOf "_law_same" "_law_same" (defArgs s_Lsame) (defBody s_Lsame) (defScope s_Lsame) .none kV_Lsame dc_Lsame pm_Lsame an_Lsame cd_Lsame ct_Lsame, f_Ldue := f_Ldue, d_Ldue := PySem.W.fnOf "_law_due" "_law_due" (defArgs s_Ldue) (defBody s_Ldue) (defScope s_Ldue) .none kV_Ldue dc_Ldue pm_Ldue an_Ldue cd_Ldue ct_Ldue, f_Ltried := f_Ltried, d_Ltried := PySem.W.fnOf "_law_tried" "_law_tried" (defArgs s_Ltried) (defBody s_Ltried) (defScope s_Ltried) .none kV_Ltried dc_Ltried pm_Ltried an_Ltried cd_Ltried ct_Ltried, f_Lmisshapen := f_Lmisshapen, d_Lmisshapen := PySem.W.fnOf "_law_misshapen" "_law_misshapen" (defArgs s_Lmisshapen) (defBody s_Lmisshapen) (defScope s_Lmisshapen) .none kV_Lmisshapen dc_Lmisshapen pm_Lmisshapen an_Lmisshapen cd_Lmisshapen ct_Lmisshapen, f_law := f_law, d_law := PySem.W.fnOf "law" "law" (defArgs s_law) (defBody s_law) (defScope s_law) .none kV_law dc_law pm_law an_law cd_law ct_law, a_SewError := C_SewError, a_BadSize := C_BadSize, a_BadBit := C_BadBit, a_NoCell := C_NoCell, a_NoLine := C_NoLine, a_NoStep := C_NoStep, a_NoPoint := C_NoPoint, tk_LONGEST_SIDE := tk_LONGEST_SIDE }, ⟨fun_mk (st := s_isnumber) l_isnumber c_isnumber k_isnumber, (fun_mk (st := s_isnumber) l_isnumber c_isnumber k_isnumber).binds (ps := ["value"]) fun _ _ _ _ _ _ us hl => (by obtain ⟨_, rfl⟩ := len1 hl; rfl), PySem.W.mg_of X G a_isnumber, fun_mk (st := s_isbelow) l_isbelow c_isbelow k_isbelow, (fun_mk (st := s_isbelow) l_isbelow c_isbelow k_isbelow).binds (ps := ["value", "bound"]) fun _ _ _ _ _ _ us hl => (by obtain ⟨_, _, rfl⟩ := len2 hl; rfl), PySem.W.mg_of X G a_isbelow, fun_mk (st := s_isbit) l_isbit c_isbit k_isbit, (fun_mk (st := s_isbit) l_isbit c_isbit k_isbit).binds (ps := ["value"]) fun _ _ _ _ _ _ us hl => (by obtain ⟨_, rfl⟩ := len1 hl; rfl), PySem.W.mg_of X G a_isbit, fun_mk (st := s_allbits) l_allbits c_allbits k_allbits, (fun_mk (st := s_allbits) l_allbits c_allbits k_allbits).binds (ps := ["values"]) fun _ _ _ _ _ _ us hl => (by obtain ⟨_, rfl⟩ := len1 hl; rfl), PySem.W.mg_of X G a_allbits, fun_mk (st := s_isside) l_isside c_isside k_isside, (fun_mk (st := s_isside) l_isside c_isside k_isside).binds (ps := ["count"]) fun _ _ _ _ _ _ us hl => (by obtain ⟨_, rfl⟩ := len1 hl; rfl), PySem.W.mg_of X G a_isside, fun_mk (st := s_needtable) l_needtable c_needtable k_needtable, (fun_mk (st := s_needtable) l_needtable c_needtable k_needtable).binds (ps := ["table"]) fun _ _ _ _ _ _ us hl => (by obtain ⟨_, rfl⟩ := len1 hl; rfl), PySem.W.mg_of X G a_needtable, fun_mk (st := s_iseven) l_iseven c_iseven k_iseven, (fun_mk (st := s_iseven) l_iseven c_iseven k_iseven).binds (ps := ["table", "x", "y"]) fun _ _ _ _ _ _ us hl => (by obtain ⟨_, _, _, rfl⟩ := len3 hl; rfl), PySem.W.mg_of X G a_iseven, fun_mk (st := s_evenblocks) l_evenblocks c_evenblocks k_evenblocks, (fun_mk (st := s_evenblocks) l_evenblocks c_evenblocks k_evenblocks).binds (ps := ["table"]) fun _ _ _ _ _ _ us hl => (by obtain ⟨_, rfl⟩ := len1 hl; rfl), PySem.W.mg_of X G a_evenblocks, fun_mk (st := s_clothof) l_clothof c_clothof k_clothof, (fun_mk (st := s_clothof) l_clothof c_clothof k_clothof).binds (ps := ["table"]) fun _ _ _ _ _ _ us hl => (by obtain ⟨_, rfl⟩ := len1 hl; rfl), PySem.W.mg_of X G a_clothof, fun_mk (st := s_Lmarks) l_Lmarks c_Lmarks k_Lmarks, (fun_mk (st := s_Lmarks) l_Lmarks c_Lmarks k_Lmarks).binds (ps := ["_law_e"]) fun _ _ _ _ _ _ us hl => (by obtain ⟨_, rfl⟩ := len1 hl; rfl), PySem.W.mg_of X G a_Lmarks, fun_mk (st := s_Ldraws) l_Ldraws c_Ldraws k_Ldraws, (fun_mk (st := s_Ldraws) l_Ldraws c_Ldraws k_Ldraws).binds (ps := ["_law_script", "_law_many"]) fun _ _ _ _ _ _ us hl => (by obtain ⟨_, _, rfl⟩ := len2 hl; rfl), PySem.W.mg_of X G a_Ldraws, fun_mk (st := s_Lsewn) l_Lsewn c_Lsewn k_Lsewn, (fun_mk (st := s_Lsewn) l_Lsewn c_Lsewn k_Lsewn).binds (ps := ["_law_plan_here", "_law_way", "_law_k", "_law_step"]) fun _ _ _ _ _ _ us hl => (by obtain ⟨_, _, _, _, rfl⟩ := len4 hl; rfl), PySem.W.mg_of X G a_Lsewn, fun_mk (st := s_Ltable) l_Ltable c_Ltable k_Ltable, (fun_mk (st := s_Ltable) l_Ltable c_Ltable k_Ltable).binds (ps := ["_law_plan_here"]) fun _ _ _ _ _ _ us hl => (by obtain ⟨_, rfl⟩ := len1 hl; rfl), PySem.W.mg_of X G a_Ltable, fun_mk (st := s_Lbits) l_Lbits c_Lbits k_Lbits, (fun_mk (st := s_Lbits) l_Lbits c_Lbits k_Lbits).binds (ps := ["_law_number", "_law_many"]) fun _ _ _ _ _ _ us hl => (by obtain ⟨_, _, rfl⟩ := len2 hl; rfl), PySem.W.mg_of X G a_Lbits, fun_mk (st := s_Lrow) l_Lrow c_Lrow k_Lrow, (fun_mk (st := s_Lrow) l_Lrow c_Lrow k_Lrow).binds (ps := ["_law_some", "_law_many"]) fun _ _ _ _ _ _ us hl => (by obtain ⟨_, _, rfl⟩ := len2 hl; rfl), PySem.W.mg_of X G a_Lrow, fun_mk (st := s_Lplan) l_Lplan c_Lplan k_Lplan, (fun_mk (st := s_Lplan) l_Lplan c_Lplan k_Lplan).binds (ps := ["_law_some"]) fun _ _ _ _ _ _ us hl => (by obtain ⟨_, rfl⟩ := len1 hl; rfl), PySem.W.mg_of X G a_Lplan, fun_mk (st := s_Lspots) l_Lspots c_Lspots k_Lspots, (fun_mk (st := s_Lspots) l_Lspots c_Lspots k_Lspots).binds (ps := ["_law_some", "_law_table_here", "_law_many"]) fun _ _ _ _ _ _ us hl => (by obtain ⟨_, _, _, rfl⟩ := len3 hl; rfl), PySem.W.mg_of X G a_Lspots, fun_mk (st := s_Leven) l_Leven c_Leven k_Leven, (fun_mk (st := s_Leven) l_Leven c_Leven k_Leven).binds (ps := ["_law_table_here"]) fun _ _ _ _ _ _ us hl => (by obtain ⟨_, rfl⟩ := len1 hl; rfl), PySem.W.mg_of X G a_Leven, fun_mk (st := s_Lsame) l_Lsame c_Lsame k_Lsame, (fun_mk (st := s_Lsame) l_Lsame c_Lsame k_Lsame).binds (ps := ["_law_told", "_law_due_here"]) fun _ _ _ _ _ _ us hl => (by obtain ⟨_, _, rfl⟩ := len2 hl; rfl), PySem.W.mg_of X G a_Lsame, fun_mk (st := s_Ldue) l_Ldue c_Ldue k_Ldue, (fun_mk (st := s_Ldue) l_Ldue c_Ldue k_Ldue).binds (ps := ["_law_word"]) fun _ _ _ _ _ _ us hl => (by obtain ⟨_, rfl⟩ := len1 hl; rfl), PySem.W.mg_of X G a_Ldue, fun_mk (st := s_Ltried) l_Ltried c_Ltried k_Ltried, (fun_mk (st := s_Ltried) l_Ltried c_Ltried k_Ltried).binds (ps := ["_law_table_here", "_law_door"]) fun _ _ _ _ _ _ us hl => (by obtain ⟨_, _, rfl⟩ := len2 hl; rfl), PySem.W.mg_of X G a_Ltried, fun_mk (st := s_Lmisshapen) l_Lmisshapen c_Lmisshapen k_Lmisshapen, (fun_mk (st := s_Lmisshapen) l_Lmisshapen c_Lmisshapen k_Lmisshapen).binds (ps := ["_law_some", "_law_table_here"]) fun _ _ _ _ _ _ us hl => (by obtain ⟨_, _, rfl⟩ := len2 hl; rfl), PySem.W.mg_of X G a_Lmisshapen, fun_mk (st := s_law) l_law c_law k_law, (fun_mk (st := s_law) l_law c_law k_law).binds (ps := ["_law_script"]) fun _ _ _ _ _ _ us hl => (by obtain ⟨_, rfl⟩ := len1 hl; rfl), PySem.W.mg_of X G a_law, PySem.W.mg_of X G aX_SewError, PySem.W.mg_of X G aX_BadSize, PySem.W.mg_of X G aX_BadBit, PySem.W.mg_of X G aX_NoCell, PySem.W.mg_of X G aX_NoLine, PySem.W.mg_of X G aX_NoStep, PySem.W.mg_of X G aX_NoPoint, x_BadSize, ⟨ga_BadSize, gt_BadSize, gc_BadSize, ogs, otk, go_BadSize, gb_BadSize⟩, exm_of bb bm bt sb_BadSize, kt_BadSize_BadSize, kt_BadSize_BadBit, kt_BadSize_NoCell, kt_BadSize_NoLine, kt_BadSize_NoStep, kt_BadSize_NoPoint, kv_BadSize, x_BadBit, ⟨ga_BadBit, gt_BadBit, gc_BadBit, ogs, otk, go_BadBit, gb_BadBit⟩, exm_of bb bm bt sb_BadBit, kt_BadBit_BadSize, kt_BadBit_BadBit, kt_BadBit_NoCell, kt_BadBit_NoLine, kt_BadBit_NoStep, kt_BadBit_NoPoint, kv_BadBit, PySem.W.mg_of X G v_LONGEST_SIDE, PySem.W.mg_none_of X G z_isinstance, PySem.W.mg_none_of X G z_int, PySem.W.mg_none_of X G z_bool, PySem.W.mg_none_of X G z_all, PySem.W.mg_none_of X G z_len, PySem.W.mg_none_of X G z_tuple, PySem.W.mg_none_of X G z_list, PySem.W.mg_none_of X G z_range, PySem.W.mg_none_of X G z_abs, PySem.W.mg_none_of X G z_sum, PySem.W.mg_none_of X G z_min, PySem.W.mg_none_of X G z_str, PySem.W.mg_none_of X G z_zip, PySem.W.mg_none_of X G z_ValueError⟩, fun s v => .of_eq rfl⟩
local macro_rules | `(tactic| walk_at "rd1") => `(tactic| first
  | ((with_reducible refine' rd_var (v := ?kv) ?ke ?kh); (case ke => exact rfl))
  | (with_reducible refine rd_seqA fun _ _ => ?_) | (with_reducible refine rd_asg ?_) | (with_reducible refine rd_name ?_) | (with_reducible refine rd_ret ?_) | (with_reducible refine rd_retN ?_) | (with_reducible refine rd_drop ?_)
  | (with_reducible refine rd_ifS ?_) | (with_reducible refine rd_tB ?_) | (with_reducible refine rd_tTest ?_) | (with_reducible refine rd_exbl ?_) | (with_reducible refine rd_c ?_) | (with_reducible refine rd_op ?_) | (with_reducible refine rd_un ?_)
  | (with_reducible refine rd_andV ?_) | (with_reducible refine rd_orV ?_) | (with_reducible refine rd_notV ?_) | (with_reducible refine rd_and ?_) | (with_reducible refine rd_or ?_) | (with_reducible refine rd_not ?_) | (with_reducible refine rd_if ?_) | (with_reducible refine rd_true ?_)
  | (with_reducible refine rd_I0 ?_) | (with_reducible refine rd_U ?_) | (with_reducible refine rd_eqI ?_) | (with_reducible refine rd_neI ?_) | (with_reducible refine rd_eqS ?_) | (with_reducible refine rd_eqB ?_) | (with_reducible refine rd_neB ?_)
  | (with_reducible refine rd_chain ?_) | (with_reducible refine rd_call ?_) | (with_reducible refine rd_nil ?_) | (with_reducible refine rd_cons ?_) | (with_reducible refine rd_CB ?_) | (with_reducible refine rd_tup ?_) | (with_reducible refine rd_lst ?_)
  | (with_reducible refine rd_next ?_) | ((with_reducible refine' rd_aug (x := ?kv) ?ke ?kh); (case ke => exact rfl)) | (with_reducible refine rd_ipI ?_) | (with_reducible refine rd_gcons ?_) | (with_reducible refine rd_gnil ?_) | (with_reducible refine rd_gsub ?_) | (with_reducible refine rd_sfld ?_) | (with_reducible refine rd_while ?_) | (with_reducible refine rd_comp ?_) | (with_reducible refine rd_fld ?_) | (with_reducible refine rd_meth ?_) | (with_reducible refine rd_make ?_) | (with_reducible refine rd_raise ?_) | (with_reducible refine rd_try ?_) | (with_reducible refine rd_callS ?_) | (with_reducible refine rd_methS ?_) | (with_reducible refine rd_makeS ?_) | (with_reducible refine rd_bm ?_) | (with_reducible refine rd_bm0 ?_) | (with_reducible refine rd_sl ?_) | (with_reducible refine rd_nopart ?_) | (with_reducible refine rd_part ?_) | (with_reducible refine rd_exint ?_) | (with_reducible refine rd_exref ?_)
  | (with_reducible refine rd_abs ?_) | (with_reducible refine rd_min2 ?_) | (with_reducible refine rd_max2 ?_) | (with_reducible refine rd_intB ?_) | (with_reducible refine rd_for ?_) | (with_reducible refine rd_rng1 ?_) | (with_reducible refine rd_ilist ?_) | (with_reducible refine rd_itup ?_) | (with_reducible refine rd_izipS ?_) | (with_reducible refine iteT ?_) | (with_reducible refine iteF ?_) | (with_reducible refine if_true_do ?_) | (with_reducible refine iteNN ?_) | (with_reducible refine iteTA ?_) | (with_reducible refine iteFA ?_) | ((with_reducible refine' rd_cut (r := ?kr) ?ke ?kh); (case ke => assumption)) | (dsimp only))
local macro_rules | `(tactic| walk_at "rd") => `(tactic| repeat walk_at "rd1")

section
variable {P : Program} {w : World} {K : PySem.W.Frag} {mg : Str → Option Value} {base : Heap} {t : Ad}
def isBit (i : Int) : Bool := decide (0 ≤ i) && decide (i < 2)
def sp_isnumber : Sp := fun vs H Q _ => ∃ i, vs = [.int i] ∧ Q (.bl true) H
theorem ok_isnumber (T : Txt K mg t) : FnOk P w K mg base CX0 1 t.f_isnumber t.d_isnumber ["value"] sp_isnumber := by
  refine T.F_isnumber.ok sc_isnumber (fun vs H Q E h => ?_) (fun cdv A outer s H vs Q E hr h => ?_)
  · obtain ⟨i, rfl, _⟩ := h; rfl
  · obtain ⟨i, rfl, k⟩ := h
    refine ⟨_, (pss_one (ps_ret (pe_and (pe_callB (cI_isinstK K rfl) rfl T.no_isinstance (by rfl) (pa_cons (pv 0) (pa_cons (pe_bltn (v := .ty "int") rfl T.no_int (by rfl : bootBuiltins "int" = some (.type "int")) rfl) pa_nil))) (pe_one (pe_not (pe_callB (cI_isinstK K rfl) rfl T.no_isinstance (by rfl) (pa_cons (pv 0) (pa_cons (pe_bltn (v := .ty "bool") rfl T.no_bool (by rfl : bootBuiltins "bool" = some (.type "bool")) rfl) pa_nil)))))))), ?_⟩
    walk_at "rd"
    refine rd_isi (.int i) kit_ii ?_
    walk_at "rd"
    refine rd_isi (.int i) kit_ib ?_
    walk_at "rd"
    exact k
def sp_isbelow : Sp := fun vs H Q _ => ∃ i b, vs = [.int i, .int b] ∧ Q (.bl (decide (0 ≤ i) && decide (i < b))) H
theorem ok_isbelow (T : Txt K mg t) : FnOk P w K mg base CX0 2 t.f_isbelow t.d_isbelow ["value", "bound"] sp_isbelow := by
  have G_isnumber := ok_isnumber (P := P) (w := w) (base := base) T
  refine T.F_isbelow.ok sc_isbelow (fun vs H Q E h => ?_) (fun cdv A outer s H vs Q E hr h => ?_)
  · obtain ⟨i, b, rfl, _⟩ := h; rfl
  · obtain ⟨i, b, rfl, k⟩ := h
    refine ⟨_, (pss_one (ps_ret (pe_and (pe_call G_isnumber (hr.mono (by first | decide | omega)) rfl T.mg_isnumber T.F_isnumber.kp T.b_isnumber .nil pass0 (pa_cons (pv 0) pa_nil)) (pe_one (pe_chain op_le op_lt pe_int (pv 0) (pv 1)))))), ?_⟩
    walk_at "rd"
    refine ⟨i, rfl, ?_⟩
    walk_at "rd"
    refine ite2 (fun h0 => ?_) (fun h0 => ?_)
    · walk_at "rd"
      rw [h0] at k
      exact k
    · rw [Bool.not_eq_true] at h0
      rw [h0] at k
      exact k
def sp_isbit : Sp := fun vs H Q _ => ∃ i, vs = [.int i] ∧ Q (.bl (isBit i)) H
theorem ok_isbit (T : Txt K mg t) : FnOk P w K mg base CX0 3 t.f_isbit t.d_isbit ["value"] sp_isbit := by
  have G_isbelow := ok_isbelow (P := P) (w := w) (base := base) T
  refine T.F_isbit.ok sc_isbit (fun vs H Q E h => ?_) (fun cdv A outer s H vs Q E hr h => ?_)
  · obtain ⟨i, rfl, _⟩ := h; rfl
  · obtain ⟨i, rfl, k⟩ := h
    refine ⟨_, (pss_one (ps_ret (pe_call G_isbelow (hr.mono (by first | decide | omega)) rfl T.mg_isbelow T.F_isbelow.kp T.b_isbelow .nil pass0 (pa_cons (pv 0) (pa_cons pe_int pa_nil))))), ?_⟩
    walk_at "rd"
    exact ⟨i, 2, rfl, k⟩
/-- a side's length -/
def isSide (n : Int) : Bool := decide (0 < n) && decide (n < 41)
def sp_isside : Sp := fun vs H Q _ => ∃ i, vs = [.int i] ∧ Q (.bl (isSide i)) H
theorem ok_isside (T : Txt K mg t) : FnOk P w K mg base CX0 3 t.f_isside t.d_isside ["count"] sp_isside := by
  have G_isbelow := ok_isbelow (P := P) (w := w) (base := base) T
  refine T.F_isside.ok sc_isside (fun vs H Q E h => ?_) (fun cdv A outer s H vs Q E hr h => ?_)
  · obtain ⟨i, rfl, _⟩ := h; rfl
  · obtain ⟨i, rfl, k⟩ := h
    refine ⟨_, (pss_one (ps_ret (pe_and (pe_call G_isbelow (hr.mono (by first | decide | omega)) rfl T.mg_isbelow T.F_isbelow.kp T.b_isbelow .nil pass0 (pa_cons (pv 0) (pa_cons (pe_op op_add (pe_glob (v := .int 40) rfl T.mg_LONGEST_SIDE ⟨_, rfl⟩) pe_int) pa_nil))) (pe_one (pe_cmpR op_gt (pv 0) pe_int (nomark _)))))), ?_⟩
    walk_at "rd"
    refine ⟨i, _, rfl, ?_⟩
    walk_at "rd"
    refine ite2 (fun h0 => ?_) (fun h0 => ?_)
    · walk_at "rd"
      have e : isSide i = decide (0 < i) := by
        rw [Bool.and_eq_true, decide_eq_true_eq, decide_eq_true_eq] at h0
        unfold isSide
        rw [decide_eq_true (by omega : i < 41), Bool.and_true]
      rw [e] at k
      exact k
    · have e : isSide i = false := by
        rw [Bool.and_eq_true, decide_eq_true_eq, decide_eq_true_eq] at h0
        unfold isSide
        by_cases hi : 0 < i
        · rw [decide_eq_false (by omega : ¬ i < 41), Bool.and_false]
        · rw [decide_eq_false hi, Bool.false_and]
      rw [e] at k
      exact k
end

section
variable {P : Program} {w : World} {K : PySem.W.Frag} {mg : Str → Option Value} {base : Heap} {t : Ad}
def sp_allbits : Sp := fun vs H Q _ => ∃ (p : Addr) (ns : List Int), vs = [.ref p] ∧ H p = some (.lst (ns.map V.int)) ∧ ns.length ≤ 1000 ∧ ∀ H', Same H H' → Q (.bl (ns.all isBit)) H'
theorem ok_allbits (T : Txt K mg t) : FnOk P w K mg base CX0 4 t.f_allbits t.d_allbits ["values"] sp_allbits := by
  have G_isbit := ok_isbit (P := P) (w := w) (base := base) T
  refine T.F_allbits.ok sc_allbits (fun vs H Q E h => ?_) (fun cdv A outer s H vs Q E hr h => ?_)
  · obtain ⟨p, ns, rfl, _⟩ := h; rfl
  · obtain ⟨p, ns, rfl, hp, hl, k⟩ := h
    refine ⟨_, (pss_one (ps_ret (pe_callB (cI_allK K rfl rfl) rfl T.no_all (by rfl) (pa_cons (pe_comp (N := ["value"]) (cap := [none]) rfl ⟨rfl, rfl, rfl, rfl, rfl, rfl⟩ (pi_list (pv 0)) (fun _ _ _ => (pg_name (i := 0) (show (["value"] : List Str).Nodup by decide +kernel) rfl (Or.inl rfl))) (fun _ _ _ => pts_nil) (fun _ _ _ => (pe_call G_isbit (hr.mono (by first | decide | omega)) rfl T.mg_isbit T.F_isbit.kp T.b_isbit .nil pass0 (pa_cons (pv 0) pa_nil)))) pa_nil)))), ?_⟩
    walk_at "rd"
    refine ⟨⟨_, SqL.of hp⟩, fun l hn => ?_⟩
    refine compW_list (fun v => match v with | .int i => .bl (isBit i) | _ => .non) (SqL.of hp) (by rw [List.length_map]; exact hl) hn (fun x o H' Q' hx s1 q => ?_) (fun H' s1 e => ?_)
    · obtain ⟨i, _, rfl⟩ := List.mem_map.mp hx
      walk_at "rd"
      exact ⟨i, rfl, q H' (Same.refl _)⟩
    · walk_at "rd"
      have e' : H' l = some (.lst ((ns.map isBit).map V.bl)) := by rw [e, List.map_map, List.map_map]; rfl
      refine rd_all e' ?_
      rw [List.all_map]
      exact k H' s1
end

def Bits (l : List Int) : Prop := l.length ≤ 39 ∧ ∀ z ∈ l, z = 0 ∨ z = 1

def colr (s : Int) (cs rs : List Int) (x y : Int) : Int := (s + ((cs.take x.toNat).sum + (rs.take y.toNat).sum + x * y)) % 2
def IsWay (w : Str) (cs rs bs : List Int) : Prop := (w = "col" ∧ bs = cs) ∨ (w = "row" ∧ bs = rs)

section
variable {P : Program} {w : World} {K : PySem.W.Frag} {mg : Str → Option Value} {base : Heap} {t : Ad}
theorem bits_sum {l : List Int} (h : ∀ z ∈ l, z = 0 ∨ z = 1) : 0 ≤ l.sum ∧ l.sum ≤ l.length := by
  induction l with
  | nil => exact ⟨Int.le_refl 0, Int.le_refl 0⟩
  | cons z r ih =>
    have := ih fun y hy => h y (List.mem_cons_of_mem _ hy)
    rw [List.sum_cons, List.length_cons]
    rcases h z List.mem_cons_self with rfl | rfl <;> omega
theorem bits_small {l : List Int} (h : ∀ z ∈ l, z = 0 ∨ z = 1) (hl : l.length ≤ 1000) : SmallSum l := fun k hk => by
  refine ⟨?_, fun n hn => ?_⟩
  · have := bits_sum (l := l.take k) fun z hz => h z (List.mem_of_mem_take hz)
    rw [List.length_take] at this
    unfold InLong
    omega
  · unfold InLong
    rcases h n hn with rfl | rfl <;> decide
end


section
variable {P : Program} {w : World} {K : PySem.W.Frag} {mg : Str → Option Value} {base : Heap} {t : Ad}
/-! the law's own helpers: what is drawn -/
def Sm (z : Int) : Prop := -1000000000000000000 < z ∧ z < 1000000000000000000
theorem sm_snoc {zs : List Int} {z : Int} (h : ∀ y ∈ zs, Sm y) (hz : Sm z) : ∀ y ∈ zs ++ [z], Sm y := fun y hy => by
  rcases List.mem_append.mp hy with q | q
  · exact h y q
  · rw [List.mem_singleton.mp q]; exact hz
theorem sm_mod (r : Int) {m : Int} (h0 : 0 < m) (h1 : m ≤ 1000003) : Sm (r % m) := by
  have := Int.emod_nonneg r (by omega : m ≠ 0)
  have := Int.emod_lt_of_pos r h0
  unfold Sm; omega
def sp_Ldraws (K : PySem.W.Frag) : Sp := fun vs H Q _ => ∃ (a : Addr) (m : Nat) (ns : List Int), vs = [.ref a, .int m] ∧ SqL K H a (ns.map V.int) ∧ ns.length ≤ 63 ∧ m ≤ 200 ∧
  ∀ (l : Addr) (zs : List Int) (H' : Hp), Same H H' → H' l = some (.lst (zs.map V.int)) → m ≤ zs.length → zs.length ≤ 300 → (∀ z ∈ zs, Sm z) → Q (.ref l) H'
theorem map_snoc (zs : List Int) (z : Int) : zs.map V.int ++ [V.int z] = (zs ++ [z]).map V.int := by simp
theorem ok_Ldraws (T : Txt K mg t) : FnOk P w K mg base CX0 1 t.f_Ldraws t.d_Ldraws ["_law_script", "_law_many"] (sp_Ldraws K) := by
  refine T.F_Ldraws.ok sc_Ldraws (fun vs H Q E h => ?_) (fun cdv A outer s H vs Q E hr h => ?_)
  · obtain ⟨a, m, ns, rfl, _⟩ := h; rfl
  · obtain ⟨a, m, ns, rfl, hS, hl, hm, k⟩ := h
    refine cutC (ps_set (i := 2) sc_Ldraws.nd rfl (Or.inl rfl) (pe_lst pa_nil)) fun _ _ => cutC (ps_set (i := 3) sc_Ldraws.nd rfl (Or.inl rfl) pe_int) fun _ _ => cutC (ps_for PassesOwn.never rfl (pi_list (pv 0)) (pg_name (i := 4) sc_Ldraws.nd rfl (Or.inl rfl)) (pss_cons (ps_set (i := 3) sc_Ldraws.nd rfl (Or.inl rfl) (pe_op op_mod (pe_op op_add (pe_op op_mul (pv 3) pe_int) (pv 4)) pe_int)) (pss_cons (ps_set (i := 5) sc_Ldraws.nd rfl (Or.inl rfl) (pe_callB cI_abs rfl T.no_abs (by rfl) (pa_cons (pv 4) pa_nil))) (pss_cons (ps_if (pt_cmpR op_lt (pv 5) (pe_op op_pow pe_int pe_int) (nomark _)) (pss_cons (ps_expr (pe_bm PySem.F.plainAttrs_list PySem.F.slot_list_append PySem.F.type_list_append mt_append (pv 2) (pa_cons (pv 4) pa_nil))) (pss_one (ps_set (i := 5) sc_Ldraws.nd rfl (Or.inl rfl) pe_int))) pss_nil) (pss_one (ps_while PassesOwn.never (PW.pt (pw_and (pt_cmpR op_gt (pv 5) pe_int (nomark _)) (pw_and1 (pt_cmpR op_lt (pe_callB (cI_lenK K rfl) rfl T.no_len (by rfl) (pa_cons (pv 2) pa_nil)) (pv 1) (nomark _))))) (pss_cons (ps_expr (pe_bm PySem.F.plainAttrs_list PySem.F.slot_list_append PySem.F.type_list_append mt_append (pv 2) (pa_cons (pe_op op_mod (pv 5) pe_int) pa_nil))) (pss_one (ps_set (i := 5) sc_Ldraws.nd rfl (Or.inl rfl) (pe_op op_fdiv (pv 5) pe_int)))))))))) fun _ _ => cutC (ps_while PassesOwn.never (pt_cmpR op_lt (pe_callB (cI_lenK K rfl) rfl T.no_len (by rfl) (pa_cons (pv 2) pa_nil)) (pv 1) (nomark _)) (pss_cons (ps_set (i := 3) sc_Ldraws.nd rfl (Or.inl rfl) (pe_op op_mod (pe_op op_add (pe_op op_mul (pv 3) pe_int) pe_int) pe_int)) (pss_one (ps_expr (pe_bm PySem.F.plainAttrs_list PySem.F.slot_list_append PySem.F.type_list_append mt_append (pv 2) (pa_cons (pe_op op_mod (pe_op op_mul (pv 3) (pv 3)) pe_int) pa_nil)))))) fun _ _ => cutE (ps_ret (pv 2)) fun _ _ => ?_
    walk_at "rd"
    refine ⟨Nat.zero_le _, fun l hn => ?_⟩
    walk_at "rd"
    have hz : ∀ {zs : List Int}, zs.length ≤ 300 → (zs.map V.int).length < sizeLine := fun h => by rw [List.length_map]; exact small1000 (by omega)
    refine ⟨⟨_, (Same.new hn).seq hS⟩, forW_list (K := K) (a := a) (xs := ns.map V.int) (fun i σ' H' => ∃ (zs : List Int) (mix : Int) (c r : Option V), σ' = [some (.ref a), some (.int m), some (.ref l), some (.int mix), c, r] ∧ Same H H' ∧ H' l = some (.lst (zs.map V.int)) ∧ zs.length ≤ i + m ∧ ∀ z ∈ zs, Sm z)
      ⟨[], 1, none, none, rfl, Same.new hn, upd_same, Nat.zero_le _, fun z hz => by cases hz⟩ (fun i σ' H' _ ⟨_, _, _, _, _, s, _⟩ => s.seq hS) ?_ ?_⟩
    · rintro i y σ' H' hi ⟨zs, mix, c, r, rfl, s1, e1, lz, sm⟩
      have hil : i < ns.length := by have := (List.getElem?_eq_some_iff.mp hi).1; rwa [List.length_map] at this
      obtain ⟨z, rfl⟩ : ∃ z, y = V.int z := by
        rw [List.getElem?_map] at hi
        cases e : ns[i]? with
        | none => rw [e] at hi; cases hi
        | some z => rw [e] at hi; exact ⟨z, (Option.some.inj hi).symm⟩
      walk_at "rd"
      refine rd_I (.inr ⟨by decide, by decide⟩) ?_
      walk_at "rd"
      refine rd_I (by decide) ?_
      walk_at "rd"
      refine rd_I ⟨by decide, by decide, by decide⟩ ?_
      walk_at "rd"
      refine ite2 (fun hc => ?_) (fun _ => ?_)
      · have hc := of_decide_eq_true hc
        have hcz : Sm z := by
          unfold Sm
          have e18 : (10 : Int) ^ 18 = 1000000000000000000 := by decide
          by_cases hz0 : z < 0
          · rw [if_pos hz0] at hc; change -z < (10 : Int) ^ 18 at hc; omega
          · rw [if_neg hz0] at hc; change z < (10 : Int) ^ 18 at hc; omega
        walk_at "rd"
        refine rd_bmL e1 ?_
        walk_at "rd"
        refine rd_append e1 (hz (by omega)) ?_
        rw [map_snoc]
        walk_at "rd"
        refine ⟨fun n σ' H' => ∃ (zs : List Int) (mix : Int) (r : Int), σ' = [some (.ref a), some (.int m), some (.ref l), some (.int mix), some (.int z), some (.int r)] ∧ Same H H' ∧ H' l = some (.lst (zs.map V.int)) ∧ zs.length ≤ i + 1 + m ∧ n = m - zs.length ∧ ∀ z ∈ zs, Sm z,
          ⟨_, zs ++ [z], _, _, rfl, s1.later hn, upd_same, by rw [List.length_append, List.length_singleton]; omega, rfl, sm_snoc sm hcz⟩, ?_⟩
        rintro n σ' H' ⟨zs, mix, r, rfl, s1, e1, lz, rfl, sm⟩
        walk_at "rd"
        refine ite2 (fun _ => ?_) (fun _ => ?_)
        · walk_at "rd"
          refine rd_lenL e1 ?_
          walk_at "rd"
          rw [List.length_map]
          refine ite2 (fun h2 => ?_) (fun h2 => ?_)
          · have h2 := of_decide_eq_true h2
            refine ⟨fun σ' H' => ∃ (zs' : List Int) (mix : Int) (r : Int), σ' = [some (.ref a), some (.int m), some (.ref l), some (.int mix), some (.int z), some (.int r)] ∧ Same H H' ∧ H' l = some (.lst (zs'.map V.int)) ∧ zs'.length = zs.length + 1 ∧ ∀ z ∈ zs', Sm z, ?_, ?_⟩
            · rintro σ' H' ⟨zs', mix, r, rfl, s1, e1, lz', sm'⟩
              exact ⟨m - zs'.length, by omega, zs', mix, r, rfl, s1, e1, by omega, rfl, sm'⟩
            · walk_at "rd"
              refine rd_bmL e1 ?_
              walk_at "rd"
              refine rd_I (by decide) ?_
              walk_at "rd"
              refine rd_append e1 (hz (by omega)) ?_
              rw [map_snoc]
              walk_at "rd"
              refine rd_I ⟨by decide, by decide⟩ ?_
              walk_at "rd"
              exact ⟨zs ++ [r % 1000003], mix, _, rfl, s1.later hn, upd_same, by rw [List.length_append, List.length_singleton], sm_snoc sm (sm_mod r (by decide) (by decide))⟩
          · walk_at "rd"
            exact ⟨zs, mix, _, _, rfl, s1, e1, lz, sm⟩
        · walk_at "rd"
          exact ⟨zs, mix, _, _, rfl, s1, e1, lz, sm⟩
      · walk_at "rd"
        refine ⟨fun n σ' H' => ∃ (zs : List Int) (mix : Int) (r : Int), σ' = [some (.ref a), some (.int m), some (.ref l), some (.int mix), some (.int z), some (.int r)] ∧ Same H H' ∧ H' l = some (.lst (zs.map V.int)) ∧ zs.length ≤ i + 1 + m ∧ n = m - zs.length ∧ ∀ z ∈ zs, Sm z,
          ⟨_, zs, _, _, rfl, s1, e1, by omega, rfl, sm⟩, ?_⟩
        rintro n σ' H' ⟨zs, mix, r, rfl, s1, e1, lz, rfl, sm⟩
        walk_at "rd"
        refine ite2 (fun _ => ?_) (fun _ => ?_)
        · walk_at "rd"
          refine rd_lenL e1 ?_
          walk_at "rd"
          rw [List.length_map]
          refine ite2 (fun h2 => ?_) (fun h2 => ?_)
          · have h2 := of_decide_eq_true h2
            refine ⟨fun σ' H' => ∃ (zs' : List Int) (mix : Int) (r : Int), σ' = [some (.ref a), some (.int m), some (.ref l), some (.int mix), some (.int z), some (.int r)] ∧ Same H H' ∧ H' l = some (.lst (zs'.map V.int)) ∧ zs'.length = zs.length + 1 ∧ ∀ z ∈ zs', Sm z, ?_, ?_⟩
            · rintro σ' H' ⟨zs', mix, r, rfl, s1, e1, lz', sm'⟩
              exact ⟨m - zs'.length, by omega, zs', mix, r, rfl, s1, e1, by omega, rfl, sm'⟩
            · walk_at "rd"
              refine rd_bmL e1 ?_
              walk_at "rd"
              refine rd_I (by decide) ?_
              walk_at "rd"
              refine rd_append e1 (hz (by omega)) ?_
              rw [map_snoc]
              walk_at "rd"
              refine rd_I ⟨by decide, by decide⟩ ?_
              walk_at "rd"
              exact ⟨zs ++ [r % 1000003], mix, _, rfl, s1.later hn, upd_same, by rw [List.length_append, List.length_singleton], sm_snoc sm (sm_mod r (by decide) (by decide))⟩
          · walk_at "rd"
            exact ⟨zs, mix, _, _, rfl, s1, e1, lz, sm⟩
        · walk_at "rd"
          exact ⟨zs, mix, _, _, rfl, s1, e1, lz, sm⟩
    · rintro σ' H' ⟨zs, mix, c, r, rfl, s1, e1, lz, sm⟩
      rw [List.length_map] at lz
      walk_at "rd"
      refine ⟨fun n σ' H' => ∃ (zs : List Int) (mix : Int), σ' = [some (.ref a), some (.int m), some (.ref l), some (.int mix), c, r] ∧ (-(2 ^ 64) < mix ∧ mix < 2 ^ 64 ∨ True) ∧ Same H H' ∧ H' l = some (.lst (zs.map V.int)) ∧ zs.length ≤ 300 ∧ n = m - zs.length ∧ ∀ z ∈ zs, Sm z,
        ⟨_, zs, mix, rfl, .inr trivial, s1, e1, by omega, rfl, sm⟩, ?_⟩
      rintro n σ' H' ⟨zs, mix, rfl, _, s1, e1, lz, rfl, sm⟩
      walk_at "rd"
      refine rd_lenL e1 ?_
      walk_at "rd"
      rw [List.length_map]
      refine ite2 (fun h2 => ?_) (fun h2 => ?_)
      · have h2 := of_decide_eq_true h2
        refine ⟨fun σ' H' => ∃ (zs' : List Int) (mix : Int), σ' = [some (.ref a), some (.int m), some (.ref l), some (.int mix), c, r] ∧ Same H H' ∧ H' l = some (.lst (zs'.map V.int)) ∧ zs'.length = zs.length + 1 ∧ ∀ z ∈ zs', Sm z, ?_, ?_⟩
        · rintro σ' H' ⟨zs', mix, rfl, s1, e1, lz', sm'⟩
          exact ⟨m - zs'.length, by omega, zs', mix, rfl, .inr trivial, s1, e1, by omega, rfl, sm'⟩
        · walk_at "rd"
          refine rd_I (.inr ⟨by decide, by decide⟩) ?_
          walk_at "rd"
          refine rd_I (by decide) ?_
          walk_at "rd"
          refine rd_bmL e1 ?_
          walk_at "rd"
          refine rd_I (.inl ⟨by omega, by omega⟩) ?_
          walk_at "rd"
          refine rd_I (by decide) ?_
          walk_at "rd"
          refine rd_append e1 (hz (by omega)) ?_
          rw [map_snoc]
          walk_at "rd"
          exact ⟨zs ++ [_], _, rfl, s1.later hn, upd_same, by rw [List.length_append, List.length_singleton], sm_snoc sm (sm_mod _ (by decide) (by decide))⟩
      · have h2 : ¬ ((zs.length : Int) < m) := fun z => h2 (decide_eq_true z)
        walk_at "rd"
        exact k l zs H' s1 e1 (by omega) (by omega) sm
end

section
variable {P : Program} {w : World} {K : PySem.W.Frag} {mg : Str → Option Value} {base : Heap} {t : Ad}
def sp_Lbits : Sp := fun vs H Q _ => ∃ (n : Int) (m : Nat), vs = [.int n, .int m] ∧ m ≤ 100 ∧ ∀ (l : Addr) (bs : List Int) (H' : Hp), Same H H' → H' l = some (.lst (bs.map V.int)) → bs.length = m → (∀ z ∈ bs, z = 0 ∨ z = 1) → Q (.ref l) H'
theorem emod_le {a b : Int} (ha : 0 ≤ a) (hb : 0 < b) : a % b ≤ a := by
  obtain ⟨m, rfl⟩ := Int.eq_ofNat_of_zero_le ha
  obtain ⟨n, rfl⟩ := Int.eq_ofNat_of_zero_le (Int.le_of_lt hb)
  rw [← Int.natCast_emod]
  exact Int.ofNat_le.mpr (Nat.mod_le _ _)
theorem mod2 (n : Int) : n % 2 = 0 ∨ n % 2 = 1 := by omega
theorem ok_Lbits (T : Txt K mg t) : FnOk P w K mg base CX0 1 t.f_Lbits t.d_Lbits ["_law_number", "_law_many"] sp_Lbits := by
  refine T.F_Lbits.ok sc_Lbits (fun vs H Q E h => ?_) (fun cdv A outer s H vs Q E hr h => ?_)
  · obtain ⟨n, m, rfl, _⟩ := h; rfl
  · obtain ⟨n, m, rfl, hm, k⟩ := h
    refine cutC (ps_set (i := 2) sc_Lbits.nd rfl (Or.inl rfl) (pe_lst pa_nil)) fun _ _ => cutC (ps_for PassesOwn.never rfl (pi_range1 rfl T.no_range (pa_cons (pv 1) pa_nil)) (pg_name (i := 3) sc_Lbits.nd rfl (Or.inl rfl)) (pss_cons (ps_expr (pe_bm PySem.F.plainAttrs_list PySem.F.slot_list_append PySem.F.type_list_append mt_append (pv 2) (pa_cons (pe_op op_mod (pv 0) pe_int) pa_nil))) (pss_one (ps_set (i := 0) sc_Lbits.nd rfl (Or.inl rfl) (pe_op op_fdiv (pv 0) pe_int))))) fun _ _ => cutE (ps_ret (pv 2)) fun _ _ => ?_
    walk_at "rd"
    refine ⟨Nat.zero_le _, fun l hn => ?_⟩
    walk_at "rd"
    refine ⟨m, rfl, by omega, by omega, ?_⟩
    rw [Int.toNat_natCast]
    refine forW_range (fun i σ' H' => ∃ (n : Int) (bs : List Int) (c : Option V), σ' = [some (.int n), some (.int m), some (.ref l), c] ∧ Same H H' ∧ H' l = some (.lst (bs.map V.int)) ∧ bs.length = i ∧ ∀ z ∈ bs, z = 0 ∨ z = 1)
      ⟨n, [], none, rfl, Same.new hn, upd_same, rfl, fun z hz => by cases hz⟩ ?_ ?_
    · rintro i σ' H' hi ⟨n, bs, c, rfl, s1, e1, lb, hb⟩
      walk_at "rd"
      refine rd_bmL e1 ?_
      walk_at "rd"
      refine rd_I (by decide) ?_
      walk_at "rd"
      refine rd_append e1 (by rw [List.length_map]; exact small1000 (by omega)) ?_
      rw [map_snoc]
      walk_at "rd"
      refine rd_I ⟨by decide, by decide⟩ ?_
      walk_at "rd"
      refine ⟨_, bs ++ [n % 2], _, rfl, s1.later hn, upd_same, by rw [List.length_append, List.length_singleton]; omega, fun z hz => ?_⟩
      rcases List.mem_append.mp hz with h | h
      · exact hb z h
      · rw [List.mem_singleton.mp h]; exact mod2 n
    · rintro σ' H' ⟨n, bs, c, rfl, s1, e1, lb, hb⟩
      walk_at "rd"
      exact k l bs H' s1 e1 lb hb
def sp_Lrow : Sp := fun vs H Q _ => ∃ (a : Addr) (m : Nat) (zs : List Int), vs = [.ref a, .int m] ∧ H a = some (.lst (zs.map V.int)) ∧ 4 ≤ zs.length ∧ m ≤ 100 ∧ ∀ (l : Addr) (bs : List Int) (H' : Hp), Same H H' → H' l = some (.lst (bs.map V.int)) → bs.length = m → (∀ z ∈ bs, z = 0 ∨ z = 1) → Q (.ref l) H'
theorem ok_Lrow (T : Txt K mg t) : FnOk P w K mg base CX0 2 t.f_Lrow t.d_Lrow ["_law_some", "_law_many"] sp_Lrow := by
  have G_Lbits := ok_Lbits (P := P) (w := w) (base := base) T
  refine T.F_Lrow.ok sc_Lrow (fun vs H Q E h => ?_) (fun cdv A outer s H vs Q E hr h => ?_)
  · obtain ⟨a, m, zs, rfl, _⟩ := h; rfl
  · obtain ⟨a, m, zs, rfl, ha, hl, hm, k⟩ := h
    refine cutC (ps_set (i := 2) sc_Lrow.nd rfl (Or.inl rfl) (pe_op op_add (pe_op op_add (pe_ix (ix_listK K rfl) (pv 0) pe_int (fun _ _ => rfl)) (pe_op op_mul pe_int (pe_ix (ix_listK K rfl) (pv 0) pe_int (fun _ _ => rfl)))) (pe_op op_mul (pe_op op_mul pe_int pe_int) (pe_ix (ix_listK K rfl) (pv 0) pe_int (fun _ _ => rfl))))) fun _ _ => cutC (ps_if (pt_cmpR op_eq (pe_op op_mod (pe_ix (ix_listK K rfl) (pv 0) pe_int (fun _ _ => rfl)) pe_int) pe_int (nomark _)) (pss_one (ps_set (i := 2) sc_Lrow.nd rfl (Or.inl rfl) (pe_un un_neg (pe_op op_mod (pe_ix (ix_listK K rfl) (pv 0) pe_int (fun _ _ => rfl)) pe_int)))) pss_nil) fun _ _ => cutC (ps_set (i := 3) sc_Lrow.nd rfl (Or.inr rfl) (pe_call G_Lbits (hr.mono (by first | decide | omega)) rfl T.mg_Lbits T.F_Lbits.kp T.b_Lbits .nil pass0 (pa_cons (pv 2) (pa_cons (pv 1) pa_nil)))) fun _ _ => cutC (ps_if (pt_cmpR op_eq (pe_op op_mod (pe_ix (ix_listK K rfl) (pv 0) pe_int (fun _ _ => rfl)) pe_int) pe_int (nomark _)) (pss_one (ps_set (i := 3) sc_Lrow.nd rfl (Or.inr rfl) (pe_comp (N := ["_law_k", "_law_row_here", "_law_some"]) (cap := [none, some 3, some 0]) rfl ⟨rfl, rfl, rfl, rfl, rfl, rfl⟩ (pi_range1 rfl T.no_range (pa_cons (pv 1) pa_nil)) (fun _ _ _ => (pg_name (i := 0) (show (["_law_k", "_law_row_here", "_law_some"] : List Str).Nodup by decide +kernel) rfl (Or.inl rfl))) (fun _ _ _ => pts_nil) (fun _ _ _ => (pe_ix (ix_listK K rfl) (pv 1) (pe_op op_mod (pv 0) (pe_op op_add pe_int (pe_op op_mod (pe_ix (ix_listK K rfl) (pv 2) pe_int (fun _ _ => rfl)) pe_int))) (fun _ _ => rfl)))))) pss_nil) fun _ _ => cutE (ps_ret (pv 3)) fun _ _ => ?_
    have I0 : atI (zs.map V.int) 0 = _ := atI_ints (by decide) (by omega)
    have I1 : atI (zs.map V.int) 1 = _ := atI_ints (by decide) (by omega)
    have I2 : atI (zs.map V.int) 2 = _ := atI_ints (by decide) (by omega)
    have I3 : atI (zs.map V.int) 3 = _ := atI_ints (by decide) (by omega)
    generalize zs.getD (0 : Int).toNat 0 = z0 at I0
    generalize zs.getD (1 : Int).toNat 0 = z1 at I1
    generalize zs.getD (2 : Int).toNat 0 = z2 at I2
    generalize zs.getD (3 : Int).toNat 0 = z3 at I3
    -- behind the raw number: the bits, and the pattern
    walk_at "rd"
    refine rd_ixL (SqL.of ha) I0 ?_
    walk_at "rd"
    refine rd_ixL (SqL.of ha) I1 ?_
    walk_at "rd"
    refine rd_I (.inl ⟨by decide, by decide⟩) ?_
    walk_at "rd"
    refine rd_I (.inl ⟨by decide, by decide⟩) ?_
    walk_at "rd"
    refine rd_ixL (SqL.of ha) I2 ?_
    walk_at "rd"
    refine rd_I (.inl ⟨by decide, by decide⟩) ?_
    walk_at "rd"
    refine rd_ixL (SqL.of ha) I3 ?_
    walk_at "rd"
    refine rd_I (by decide) ?_
    walk_at "rd"
    refine ite2 (fun _ => ?_) (fun _ => ?_)
    · walk_at "rd"
      refine rd_ixL (SqL.of ha) I0 ?_
      walk_at "rd"
      refine rd_I (by decide) ?_
      walk_at "rd"
      refine ⟨_, m, rfl, hm, fun l bs H1 s1 e1 lb hb => ?_⟩
      walk_at "rd"
      refine rd_ixL (SqL.of (s1 _ _ ha)) I3 ?_
      walk_at "rd"
      refine rd_I (by decide) ?_
      walk_at "rd"
      refine ite2 (fun _ => ?_) (fun _ => ?_)
      · walk_at "rd"
        refine ⟨m, rfl, by omega, by omega, fun l2 hn => ?_⟩
        rw [Int.toNat_natCast]
        refine compW_range (fun i => .int (bs.getD (((0 : Int) + (i : Nat)) % (1 + z1 % 4)).toNat 0)) (by omega) hn (fun i o H' Q' hi s2 q => ?_) (fun H' s2 e2 => ?_)
        · walk_at "rd"
          refine rd_ixL (SqL.of (s2 _ _ (s1 _ _ ha))) I1 ?_
          walk_at "rd"
          refine rd_I (by decide) ?_
          walk_at "rd"
          have p1 : 0 < 1 + z1 % 4 := by omega
          refine rd_I p1 ?_
          walk_at "rd"
          have q0 := Int.emod_nonneg ((0 : Int) + (i : Nat)) (by omega : 1 + z1 % 4 ≠ 0)
          have q1 : ((0 : Int) + (i : Nat)) % (1 + z1 % 4) ≤ (0 : Int) + (i : Nat) := emod_le (by omega) (by omega)
          refine rd_ixL (SqL.of (s2 _ _ e1)) (atI_ints q0 (by omega)) ?_
          exact q H' (Same.refl _)
        · walk_at "rd"
          refine k l2 ((List.range m).map fun i => bs.getD (((0 : Int) + (i : Nat)) % (1 + z1 % 4)).toNat 0) H' (s1.trans s2) (by rw [e2, List.map_map]; rfl) (by rw [List.length_map, List.length_range]) fun z hz => ?_
          obtain ⟨i, hi, rfl⟩ := List.mem_map.mp hz
          have hi := List.mem_range.mp hi
          have q0 := Int.emod_nonneg ((0 : Int) + (i : Nat)) (by omega : 1 + z1 % 4 ≠ 0)
          have q1 : ((0 : Int) + (i : Nat)) % (1 + z1 % 4) ≤ (0 : Int) + (i : Nat) := emod_le (by omega) (by omega)
          exact hb _ (L2.getD_mem (by omega))
      · walk_at "rd"
        exact k l bs H1 s1 e1 lb hb
    · walk_at "rd"
      refine ⟨_, m, rfl, hm, fun l bs H1 s1 e1 lb hb => ?_⟩
      walk_at "rd"
      refine rd_ixL (SqL.of (s1 _ _ ha)) I3 ?_
      walk_at "rd"
      refine rd_I (by decide) ?_
      walk_at "rd"
      refine ite2 (fun _ => ?_) (fun _ => ?_)
      · walk_at "rd"
        refine ⟨m, rfl, by omega, by omega, fun l2 hn => ?_⟩
        rw [Int.toNat_natCast]
        refine compW_range (fun i => .int (bs.getD (((0 : Int) + (i : Nat)) % (1 + z1 % 4)).toNat 0)) (by omega) hn (fun i o H' Q' hi s2 q => ?_) (fun H' s2 e2 => ?_)
        · walk_at "rd"
          refine rd_ixL (SqL.of (s2 _ _ (s1 _ _ ha))) I1 ?_
          walk_at "rd"
          refine rd_I (by decide) ?_
          walk_at "rd"
          have p1 : 0 < 1 + z1 % 4 := by omega
          refine rd_I p1 ?_
          walk_at "rd"
          have q0 := Int.emod_nonneg ((0 : Int) + (i : Nat)) (by omega : 1 + z1 % 4 ≠ 0)
          have q1 : ((0 : Int) + (i : Nat)) % (1 + z1 % 4) ≤ (0 : Int) + (i : Nat) := emod_le (by omega) (by omega)
          refine rd_ixL (SqL.of (s2 _ _ e1)) (atI_ints q0 (by omega)) ?_
          exact q H' (Same.refl _)
        · walk_at "rd"
          refine k l2 ((List.range m).map fun i => bs.getD (((0 : Int) + (i : Nat)) % (1 + z1 % 4)).toNat 0) H' (s1.trans s2) (by rw [e2, List.map_map]; rfl) (by rw [List.length_map, List.length_range]) fun z hz => ?_
          obtain ⟨i, hi, rfl⟩ := List.mem_map.mp hz
          have hi := List.mem_range.mp hi
          have q0 := Int.emod_nonneg ((0 : Int) + (i : Nat)) (by omega : 1 + z1 % 4 ≠ 0)
          have q1 : ((0 : Int) + (i : Nat)) % (1 + z1 % 4) ≤ (0 : Int) + (i : Nat) := emod_le (by omega) (by omega)
          exact hb _ (L2.getD_mem (by omega))
      · walk_at "rd"
        exact k l bs H1 s1 e1 lb hb
/-- a plan: shade and two lists of bits, as a tuple or as a list -/
structure PlanAt (tupl : Bool) (H : Hp) (p : Addr) (s : Int) (cs rs : List Int) : Prop where
  ob : ∃ c r, H p = some (if tupl then .tup [.int s, .ref c, .ref r] else .lst [.int s, .ref c, .ref r]) ∧ H c = some (.lst (cs.map V.int)) ∧ H r = some (.lst (rs.map V.int))
  sh : s = 0 ∨ s = 1
  bc : Bits cs
  br : Bits rs
theorem PlanAt.mono {b : Bool} {H H' : Hp} {p : Addr} {s : Int} {cs rs : List Int} (e : Same H H') (c : PlanAt b H p s cs rs) : PlanAt b H' p s cs rs := by
  obtain ⟨⟨a, b, h1, h2, h3⟩, x, y, z⟩ := c
  exact ⟨⟨a, b, e _ _ h1, e _ _ h2, e _ _ h3⟩, x, y, z⟩
def sp_Lplan : Sp := fun vs H Q _ => ∃ (a : Addr) (zs : List Int), vs = [.ref a] ∧ H a = some (.lst (zs.map V.int)) ∧ 12 ≤ zs.length ∧ ∀ p s cs rs H', Same H H' → PlanAt true H' p s cs rs → Q (.ref p) H'
theorem pick_a (i : Int) : 0 < ([9, 9, 16, 40, 6] : List Int).getD (i % 5).toNat 0 ∧ ([9, 9, 16, 40, 6] : List Int).getD (i % 5).toNat 0 ≤ 40 := by
  have h := L2.getD_mem (zs := ([9, 9, 16, 40, 6] : List Int)) (k := (i % 5).toNat) (d := 0) (by simp; omega)
  simp only [List.mem_cons, List.not_mem_nil, or_false] at h
  rcases h with h | h | h | h | h <;> rw [h] <;> decide
theorem pick_b (i : Int) : 0 < ([9, 16, 16, 6, 40] : List Int).getD (i % 5).toNat 0 ∧ ([9, 16, 16, 6, 40] : List Int).getD (i % 5).toNat 0 ≤ 40 := by
  have h := L2.getD_mem (zs := ([9, 16, 16, 6, 40] : List Int)) (k := (i % 5).toNat) (d := 0) (by simp; omega)
  simp only [List.mem_cons, List.not_mem_nil, or_false] at h
  rcases h with h | h | h | h | h <;> rw [h] <;> decide
theorem ok_Lplan (T : Txt K mg t) : FnOk P w K mg base CX0 3 t.f_Lplan t.d_Lplan ["_law_some"] sp_Lplan := by
  have G_Lrow := ok_Lrow (P := P) (w := w) (base := base) T
  refine T.F_Lplan.ok sc_Lplan (fun vs H Q E h => ?_) (fun cdv A outer s H vs Q E hr h => ?_)
  · obtain ⟨a, zs, rfl, _⟩ := h; rfl
  · obtain ⟨a, zs, rfl, ha, hl, k⟩ := h
    refine cutC (ps_set (i := 1) sc_Lplan.nd rfl (Or.inl rfl) (pe_op op_add pe_int (pe_op op_mod (pe_ix (ix_listK K rfl) (pv 0) pe_int (fun _ _ => rfl)) (pe_ix (ix_listK K rfl) (pe_lst (pa_cons pe_int (pa_cons pe_int (pa_cons pe_int (pa_cons pe_int (pa_cons pe_int pa_nil)))))) (pe_op op_mod (pe_ix (ix_listK K rfl) (pv 0) pe_int (fun _ _ => rfl)) pe_int) (fun _ _ => rfl))))) fun _ _ => cutC (ps_set (i := 2) sc_Lplan.nd rfl (Or.inl rfl) (pe_op op_add pe_int (pe_op op_mod (pe_ix (ix_listK K rfl) (pv 0) pe_int (fun _ _ => rfl)) (pe_ix (ix_listK K rfl) (pe_lst (pa_cons pe_int (pa_cons pe_int (pa_cons pe_int (pa_cons pe_int (pa_cons pe_int pa_nil)))))) (pe_op op_mod (pe_ix (ix_listK K rfl) (pv 0) pe_int (fun _ _ => rfl)) pe_int) (fun _ _ => rfl))))) fun _ _ => cutE (ps_ret (pe_tup (pa_cons (pe_op op_mod (pe_ix (ix_listK K rfl) (pv 0) pe_int (fun _ _ => rfl)) pe_int) (pa_cons (pe_call G_Lrow (hr.mono (by first | decide | omega)) rfl T.mg_Lrow T.F_Lrow.kp T.b_Lrow .nil pass0 (pa_cons (pe_slice (sl_listK K rfl) (pv 0) (po_some pe_int) po_none) (pa_cons (pe_op op_sub (pv 1) pe_int) pa_nil))) (pa_cons (pe_call G_Lrow (hr.mono (by first | decide | omega)) rfl T.mg_Lrow T.F_Lrow.kp T.b_Lrow .nil pass0 (pa_cons (pe_slice (sl_listK K rfl) (pv 0) (po_some pe_int) po_none) (pa_cons (pe_op op_sub (pv 2) pe_int) pa_nil))) pa_nil))))) fun _ _ => ?_
    have I0 : atI (zs.map V.int) 0 = _ := atI_ints (by decide) (by omega)
    have I1 : atI (zs.map V.int) 1 = _ := atI_ints (by decide) (by omega)
    have I2 : atI (zs.map V.int) 2 = _ := atI_ints (by decide) (by omega)
    have I3 : atI (zs.map V.int) 3 = _ := atI_ints (by decide) (by omega)
    generalize zs.getD (0 : Int).toNat 0 = z0 at I0
    generalize zs.getD (1 : Int).toNat 0 = z1 at I1
    generalize zs.getD (2 : Int).toNat 0 = z2 at I2
    generalize zs.getD (3 : Int).toNat 0 = z3 at I3
    have m0 : 0 ≤ z0 % 5 := by omega
    have m5 : z0 % 5 < 5 := by omega
    walk_at "rd"
    refine rd_ixL (SqL.of ha) I1 ?_
    walk_at "rd"
    refine ⟨by show 5 ≤ sizeLine; decide, fun l1 n1 => ?_⟩
    have s1 := Same.new (o := HO.lst (([9, 9, 16, 40, 6] : List Int).map V.int)) n1
    walk_at "rd"
    refine rd_ixL (SqL.of (s1 _ _ ha)) I0 ?_
    walk_at "rd"
    refine rd_I (by decide) ?_
    walk_at "rd"
    refine rd_ixL (SqL.of (xs := ([9, 9, 16, 40, 6] : List Int).map V.int) upd_same) (atI_ints m0 m5) ?_
    walk_at "rd"
    refine rd_I (pick_a z0).1 ?_
    walk_at "rd"
    refine rd_ixL (SqL.of (s1 _ _ ha)) I2 ?_
    walk_at "rd"
    refine ⟨by show 5 ≤ sizeLine; decide, fun l2 n2 => ?_⟩
    have s2 := Same.new (o := HO.lst (([9, 16, 16, 6, 40] : List Int).map V.int)) n2
    walk_at "rd"
    refine rd_ixL (SqL.of (s2 _ _ (s1 _ _ ha))) I0 ?_
    walk_at "rd"
    refine rd_I (by decide) ?_
    walk_at "rd"
    refine rd_ixL (SqL.of (xs := ([9, 16, 16, 6, 40] : List Int).map V.int) upd_same) (atI_ints m0 m5) ?_
    walk_at "rd"
    refine rd_I (pick_b z0).1 ?_
    walk_at "rd"
    have ha2 := s2 _ _ (s1 _ _ ha)
    refine rd_ixL (SqL.of ha2) I3 ?_
    walk_at "rd"
    refine rd_I (by decide) ?_
    walk_at "rd"
    have va := pick_a z0
    have vb := pick_b z0
    generalize ([9, 9, 16, 40, 6] : List Int).getD (z0 % 5).toNat 0 = va' at va ⊢
    generalize ([9, 16, 16, 6, 40] : List Int).getD (z0 % 5).toNat 0 = vb' at vb ⊢
    have wa0 := Int.emod_nonneg z1 (by omega : va' ≠ 0)
    have wa1 := Int.emod_lt_of_pos z1 va.1
    have wb0 := Int.emod_nonneg z2 (by omega : vb' ≠ 0)
    have wb1 := Int.emod_lt_of_pos z2 vb.1
    refine rd_slL ha2 fun l3 n3 => ?_
    have s3 := Same.new (o := HO.lst (cutV (zs.map V.int) (some 4) none)) n3
    walk_at "rd"
    refine ⟨l3, (z1 % va').toNat, zs.drop 4, (by show [V.ref l3, V.int (1 + z1 % va' - 1)] = _; rw [show (1 + z1 % va' - 1 : Int) = (((z1 % va').toNat : Nat) : Int) by omega]), by rw [upd_same]; exact congrArg (fun x => some (HO.lst x)) (cutV_drop (k := 4)), by rw [List.length_drop]; omega, by omega, fun c cs H1 s4 ec lc bc => ?_⟩
    walk_at "rd"
    have ha4 := s4 _ _ (s3 _ _ ha2)
    refine rd_slL ha4 fun l5 n5 => ?_
    have s5 := Same.new (o := HO.lst (cutV (zs.map V.int) (some 8) none)) n5
    walk_at "rd"
    refine ⟨l5, (z2 % vb').toNat, zs.drop 8, (by show [V.ref l5, V.int (1 + z2 % vb' - 1)] = _; rw [show (1 + z2 % vb' - 1 : Int) = (((z2 % vb').toNat : Nat) : Int) by omega]), by rw [upd_same]; exact congrArg (fun x => some (HO.lst x)) (cutV_drop (k := 8)), by rw [List.length_drop]; omega, by omega, fun r rs H2 s6 er lr br => ?_⟩
    walk_at "rd"
    refine ⟨by show 3 ≤ sizeLine; decide, fun p hp => ?_⟩
    have s7 := Same.new (o := HO.tup [V.int (z3 % 2), V.ref c, V.ref r]) hp
    exact k p (z3 % 2) cs rs _ (s1.trans (s2.trans (s3.trans (s4.trans (s5.trans (s6.trans s7)))))) ⟨⟨c, r, upd_same, s7 _ _ (s6 _ _ (s5 _ _ ec)), s7 _ _ er⟩, mod2 z3, ⟨by omega, bc⟩, ⟨by omega, br⟩⟩
end

section
variable {P : Program} {w : World} {K : PySem.W.Frag} {mg : Str → Option Value} {base : Heap} {t : Ad}
def sp_Lsewn : Sp := fun vs H Q _ => ∃ (q : Addr) (w : Str) (k st s : Int) (cs rs bs : List Int), vs = [.ref q, .str w, .int k, .int st] ∧ PlanAt true H q s cs rs ∧ IsWay w cs rs bs ∧ 0 ≤ k ∧ k < bs.length ∧ Q (.bl (decide ((st + bs.getD k.toNat 0) % 2 = 1))) H
theorem cr_ne : ¬ (("col" : Str) = "row") := by decide +kernel
theorem ok_Lsewn (T : Txt K mg t) : FnOk P w K mg base CX0 1 t.f_Lsewn t.d_Lsewn ["_law_plan_here", "_law_way", "_law_k", "_law_step"] sp_Lsewn := by
  refine T.F_Lsewn.ok sc_Lsewn (fun vs H Q E h => ?_) (fun cdv A outer s H vs Q E hr h => ?_)
  · obtain ⟨q, w, k, st, s, cs, rs, bs, rfl, _⟩ := h; rfl
  · obtain ⟨q, w, k, st, s, cs, rs, bs, rfl, pl, hw, h0, h1, z⟩ := h
    obtain ⟨⟨c, r, hq, hc, hr'⟩, sh, bc, br⟩ := id pl
    refine cutC (ps_set (i := 4) sc_Lsewn.nd rfl (Or.inl rfl) (pe_ix (ix_tupK K rfl) (pv 0) pe_int (fun _ _ => rfl))) fun _ _ => cutC (ps_if (pt_cmpR op_eq (pv 1) pe_str (nomark _)) (pss_one (ps_set (i := 4) sc_Lsewn.nd rfl (Or.inl rfl) (pe_ix (ix_tupK K rfl) (pv 0) pe_int (fun _ _ => rfl)))) pss_nil) fun _ _ => cutE (ps_ret (pe_cmpR op_eq (pe_op op_mod (pe_op op_add (pv 3) (pe_ix (ix_listK K rfl) (pv 4) (pv 2) (fun _ _ => rfl))) pe_int) pe_int (nomark _))) fun _ _ => ?_
    walk_at "rd"
    refine rd_ixT (SqT.of hq) (v := .ref c) rfl ?_
    walk_at "rd"
    rcases hw with ⟨rfl, rfl⟩ | ⟨rfl, rfl⟩
    · rw [decide_eq_false cr_ne]
      walk_at "rd"
      refine rd_ixL (SqL.of hc) (atI_ints h0 h1) ?_
      walk_at "rd"
      refine rd_I (by decide) ?_
      walk_at "rd"
      exact z
    · rw [decide_eq_true (rfl : ("row" : Str) = "row")]
      walk_at "rd"
      refine rd_ixT (SqT.of hq) (v := .ref r) rfl ?_
      walk_at "rd"
      refine rd_ixL (SqL.of hr') (atI_ints h0 h1) ?_
      walk_at "rd"
      refine rd_I (by decide) ?_
      walk_at "rd"
      exact z
end

section
variable {P : Program} {w : World} {K : PySem.W.Frag} {mg : Str → Option Value} {base : Heap} {t : Ad}
theorem sum_take_succ (l : List Int) {k : Nat} (h : k < l.length) : (l.take (k + 1)).sum = (l.take k).sum + l.getD k 0 := by
  rw [List.take_add_one, List.sum_append, List.getD_eq_getElem?_getD, List.getElem?_eq_getElem h]
  simp
theorem colr_bit (s : Int) (cs rs : List Int) (x y : Int) : colr s cs rs x y = 0 ∨ colr s cs rs x y = 1 := by unfold colr; omega
/-- one cell on to the right -/
theorem colr_right {s : Int} {cs rs : List Int} {k : Nat} {y : Int} (h : k < cs.length) : colr s cs rs ((k : Int) + 1) y = (colr s cs rs k y + (if decide ((y + cs.getD k 0) % 2 = 1) = true then 1 else 0)) % 2 := by
  unfold colr
  rw [show ((k : Int) + 1).toNat = k + 1 by omega, Int.toNat_natCast, sum_take_succ cs h, show ((k : Int) + 1) * y = (k : Int) * y + y by rw [Int.add_mul, Int.one_mul]]
  generalize (k : Int) * y = m
  generalize (cs.take k).sum = a
  generalize (rs.take y.toNat).sum = b
  generalize cs.getD k 0 = d
  by_cases h2 : (y + d) % 2 = 1
  · rw [decide_eq_true h2, if_pos rfl]; omega
  · rw [decide_eq_false h2, if_neg (by decide)]; omega
/-- one cell up at the left border -/
theorem colr_up {s : Int} {cs rs : List Int} {k : Nat} (h : k < rs.length) : colr s cs rs 0 ((k : Int) + 1) = if decide ((0 + rs.getD k 0) % 2 = 1) = true then 1 - colr s cs rs 0 k else colr s cs rs 0 k := by
  unfold colr
  rw [show ((k : Int) + 1).toNat = k + 1 by omega, Int.toNat_natCast, sum_take_succ rs h, Int.zero_mul, Int.zero_mul]
  generalize (cs.take (0 : Int).toNat).sum = a
  generalize (rs.take k).sum = b
  generalize rs.getD k 0 = d
  by_cases h2 : (0 + d) % 2 = 1
  · rw [decide_eq_true h2, if_pos rfl]; omega
  · rw [decide_eq_false h2, if_neg (by decide)]; omega
theorem colr_0 {s : Int} {cs rs : List Int} (h : s = 0 ∨ s = 1) : colr s cs rs 0 0 = s := by
  unfold colr
  simp
  omega
def rowOf (s : Int) (cs rs : List Int) (y : Int) (n : Nat) : List Int := (List.range n).map fun x => colr s cs rs (x : Nat) y
def tblOf (s : Int) (cs rs : List Int) (n : Nat) : List (List Int) := (List.range n).map fun y => rowOf s cs rs (y : Nat) (cs.length + 1)
theorem rowOf_succ (s : Int) (cs rs : List Int) (y : Int) (n : Nat) : rowOf s cs rs y (n + 1) = rowOf s cs rs y n ++ [colr s cs rs n y] := by unfold rowOf; rw [List.range_succ, List.map_append]; rfl
theorem tblOf_succ (s : Int) (cs rs : List Int) (n : Nat) : tblOf s cs rs (n + 1) = tblOf s cs rs n ++ [rowOf s cs rs n (cs.length + 1)] := by unfold tblOf; rw [List.range_succ, List.map_append]; rfl
theorem rowOf_len (s : Int) (cs rs : List Int) (y : Int) (n : Nat) : (rowOf s cs rs y n).length = n := by unfold rowOf; rw [List.length_map, List.length_range]
theorem tblOf_len (s : Int) (cs rs : List Int) (n : Nat) : (tblOf s cs rs n).length = n := by unfold tblOf; rw [List.length_map, List.length_range]
def sp_Ltable : Sp := fun vs H Q _ => ∃ (q : Addr) (s : Int) (cs rs : List Int), vs = [.ref q] ∧ PlanAt true H q s cs rs ∧ ∀ l H', Same H H' → H l = none → TblAt H' l (tblOf s cs rs (rs.length + 1)) → Q (.ref l) H'
theorem ok_Ltable (T : Txt K mg t) : FnOk P w K mg base CX0 2 t.f_Ltable t.d_Ltable ["_law_plan_here"] sp_Ltable := by
  have G_Lsewn := ok_Lsewn (P := P) (w := w) (base := base) T
  refine T.F_Ltable.ok sc_Ltable (fun vs H Q E h => ?_) (fun cdv A outer s H vs Q E hr h => ?_)
  · obtain ⟨q, s, cs, rs, rfl, _⟩ := h; rfl
  · obtain ⟨q, s, cs, rs, rfl, pl, z⟩ := h
    obtain ⟨⟨c, r, hq, hc, hr'⟩, sh, bc, br⟩ := id pl
    have lc := bc.1
    have lr := br.1
    refine cutC (ps_set (i := 1) sc_Ltable.nd rfl (Or.inl rfl) (pe_lst pa_nil)) fun _ _ => cutC (ps_set (i := 2) sc_Ltable.nd rfl (Or.inl rfl) (pe_ix (ix_tupK K rfl) (pv 0) pe_int (fun _ _ => rfl))) fun _ _ => cutC (ps_for PassesOwn.never rfl (pi_range1 rfl T.no_range (pa_cons (pe_op op_add (pe_callB (cI_lenK K rfl) rfl T.no_len (by rfl) (pa_cons (pe_ix (ix_tupK K rfl) (pv 0) pe_int (fun _ _ => rfl)) pa_nil)) pe_int) pa_nil)) (pg_name (i := 3) sc_Ltable.nd rfl (Or.inl rfl)) (pss_cons (ps_join (ps_if (PW.pt (pw_and (pt_cmpR op_gt (pv 3) pe_int (nomark _)) (pw_and1 (pt_val (pe_call G_Lsewn (hr.mono (by first | decide | omega)) rfl T.mg_Lsewn T.F_Lsewn.kp T.b_Lsewn .nil pass0 (pa_cons (pv 0) (pa_cons pe_str (pa_cons (pe_op op_sub (pv 3) pe_int) (pa_cons pe_int pa_nil))))))))) (pss_one (ps_set (i := 2) sc_Ltable.nd rfl (Or.inl rfl) (pe_op op_sub pe_int (pv 2)))) pss_nil)) (pss_cons (ps_set (i := 4) sc_Ltable.nd rfl (Or.inl rfl) (pe_lst (pa_cons (pv 2) pa_nil))) (pss_cons (ps_for PassesOwn.never rfl (pi_range1 rfl T.no_range (pa_cons (pe_callB (cI_lenK K rfl) rfl T.no_len (by rfl) (pa_cons (pe_ix (ix_tupK K rfl) (pv 0) pe_int (fun _ _ => rfl)) pa_nil)) pa_nil)) (pg_name (i := 5) sc_Ltable.nd rfl (Or.inl rfl)) (pss_one (ps_expr (pe_bm PySem.F.plainAttrs_list PySem.F.slot_list_append PySem.F.type_list_append mt_append (pv 4) (pa_cons (pe_op op_mod (pe_op op_add (pe_ix (ix_listK K rfl) (pv 4) (pe_un un_neg pe_int) (fun _ _ => rfl)) (pe_callTy cI_int rfl T.no_int (by rfl) (pa_cons (pe_call G_Lsewn (hr.mono (by first | decide | omega)) rfl T.mg_Lsewn T.F_Lsewn.kp T.b_Lsewn .nil pass0 (pa_cons (pv 0) (pa_cons pe_str (pa_cons (pv 5) (pa_cons (pv 3) pa_nil))))) pa_nil))) pe_int) pa_nil))))) (pss_one (ps_expr (pe_bm PySem.F.plainAttrs_list PySem.F.slot_list_append PySem.F.type_list_append mt_append (pv 1) (pa_cons (pv 4) pa_nil)))))))) fun _ _ => cutE (ps_ret (pv 1)) fun _ _ => ?_
    walk_at "rd"
    refine ⟨Nat.zero_le _, fun l hn => ?_⟩
    walk_at "rd"
    refine rd_ixT (SqT.of ((Same.new hn) _ _ hq)) (v := .int s) rfl ?_
    walk_at "rd"
    refine rd_ixT (SqT.of ((Same.new hn) _ _ hq)) (v := .ref r) rfl ?_
    walk_at "rd"
    refine rd_lenL ((Same.new hn) _ _ hr') ?_
    rw [List.length_map]
    walk_at "rd"
    refine ⟨_, rfl, by omega, by omega, ?_⟩
    rw [show ((rs.length : Int) + 1).toNat = rs.length + 1 by omega]
    refine forW_range (fun i σ' H' => ∃ (y row kk : Option V), σ' = [some (.ref q), some (.ref l), some (.int (colr s cs rs 0 ((i - 1 : Nat) : Int))), y, row, kk] ∧ Same H H' ∧ TblAt H' l (tblOf s cs rs i))
      ⟨none, none, none, by rw [show (((0 - 1 : Nat) : Int)) = 0 from rfl, colr_0 sh]; rfl, Same.new hn, TblAt.new⟩ ?_ ?_
    · rintro i σ' H' hi ⟨y, row, kk, rfl, s1, tb⟩
      rw [Int.zero_add]
      walk_at "rd"
      refine rd_join (fun σ' H2 => σ' = [some (.ref q), some (.ref l), some (.int (colr s cs rs 0 (i : Int))), some (.int (i : Int)), row, kk] ∧ H2 = H') ?_ ?_
      · walk_at "rd"
        refine ite2 (fun h0 => ?_) (fun h0 => ?_)
        · have h0 := of_decide_eq_true h0
          obtain ⟨j, rfl⟩ : ∃ j, i = j + 1 := ⟨i - 1, by omega⟩
          have hj : j < rs.length := by omega
          walk_at "rd"
          refine ⟨q, "row", _, 0, s, cs, rs, rs, rfl, pl.mono s1, .inr ⟨rfl, rfl⟩, by omega, by omega, ?_⟩
          rw [show (((j + 1 : Nat) : Int) - 1).toNat = j by omega]
          have cu := colr_up (s := s) (cs := cs) hj
          rw [show ((j : Int) + 1) = ((j + 1 : Nat) : Int) by omega] at cu
          rw [show ((j + 1 - 1 : Nat) : Int) = (j : Int) by omega, cu]
          walk_at "rd"
          refine ite2 (fun h2 => ?_) (fun h2 => ?_)
          · rw [if_pos h2]
            walk_at "rd"
            exact ⟨rfl, rfl⟩
          · rw [if_neg h2]
            walk_at "rd"
            exact ⟨rfl, rfl⟩
        · have h0 : ¬ (0 : Int) < (i : Int) := fun z => h0 (decide_eq_true z)
          obtain rfl : i = 0 := by omega
          walk_at "rd"
          exact ⟨rfl, rfl⟩
      · rintro σ2 H2 ⟨rfl, rfl⟩
        walk_at "rd"
        refine ⟨by show 1 ≤ sizeLine; decide, fun a ha => ?_⟩
        walk_at "rd"
        have sa := fun n => Same.new (o := HO.lst ((rowOf s cs rs i (n + 1)).map V.int)) ha
        have e0 : [V.int (colr s cs rs 0 (i : Int))] = (rowOf s cs rs i (0 + 1)).map V.int := rfl
        rw [e0]
        refine rd_ixT (SqT.of (sa 0 _ _ (s1 _ _ hq))) (v := .ref c) rfl ?_
        walk_at "rd"
        refine rd_lenL (sa 0 _ _ (s1 _ _ hc)) ?_
        rw [List.length_map]
        walk_at "rd"
        refine ⟨_, rfl, by omega, by omega, ?_⟩
        rw [Int.toNat_natCast]
        refine forW_range (fun n σ' H3 => ∃ (kk : Option V), σ' = [some (.ref q), some (.ref l), some (.int (colr s cs rs 0 (i : Int))), some (.int (i : Int)), some (.ref a), kk] ∧ H3 = upd H2 a (.lst ((rowOf s cs rs i (n + 1)).map V.int)))
          ⟨kk, rfl, rfl⟩ ?_ ?_
        · rintro n σ' H3 hn2 ⟨kk, rfl, rfl⟩
          rw [Int.zero_add]
          walk_at "rd"
          refine rd_bmL upd_same ?_
          walk_at "rd"
          refine rd_ixL (SqL.of upd_same) (v := .int (colr s cs rs (n : Nat) (i : Int))) (by rw [rowOf_succ, List.map_append]; exact atI_last _ _) ?_
          walk_at "rd"
          refine ⟨q, "col", _, _, s, cs, rs, cs, rfl, pl.mono (s1.trans (sa n)), .inl ⟨rfl, rfl⟩, by omega, by omega, ?_⟩
          walk_at "rd"
          refine rd_I (by decide) ?_
          walk_at "rd"
          rw [Int.toNat_natCast, ← colr_right (s := s) (rs := rs) (y := (i : Int)) hn2]
          refine rd_append upd_same (by rw [List.length_map, rowOf_len]; exact small1000 (by omega)) ?_
          walk_at "rd"
          exact ⟨_, rfl, by rw [upd_upd, map_snoc, show ((n : Int) + 1) = ((n + 1 : Nat) : Int) by omega, ← rowOf_succ]⟩
        · rintro σ' H3 ⟨kk, rfl, rfl⟩
          walk_at "rd"
          obtain ⟨as, h1, h2, h3⟩ := (tb.mono (sa cs.length)).ob
          refine rd_bmL h1 ?_
          walk_at "rd"
          rw [tblOf_len] at h2
          refine rd_append h1 (by rw [List.length_map]; exact small1000 (by omega)) ?_
          walk_at "rd"
          have nl : a ≠ l := fun e => by
            subst e
            obtain ⟨as', k1, _⟩ := tb.ob
            rw [ha] at k1; cases k1
          refine ⟨_, _, _, rfl, (s1.trans (sa cs.length)).later hn, ?_⟩
          rw [tblOf_succ]
          exact TblAt.snoc h1 (by rw [tblOf_len]; exact h2) h3 upd_same nl
    · rintro σ' H' ⟨y, row, kk, rfl, s1, tb⟩
      walk_at "rd"
      exact z l H' s1 hn tb
end


section
variable {P : Program} {w : World} {K : PySem.W.Frag} {mg : Str → Option Value} {base : Heap} {t : Ad}
/-! tables -/
def wdT (rows : List (List Int)) : Nat := (rows.getD 0 []).length
def GoodT (rows : List (List Int)) : Prop := (0 < rows.length ∧ rows.length < 41) ∧ (0 < wdT rows ∧ wdT rows < 41) ∧ ∀ r ∈ rows, r.length = wdT rows
def bitsT (rows : List (List Int)) : Bool := rows.all fun r => r.all isBit
theorem tbl_at {H : Hp} {l : Addr} {rows : List (List Int)} (h : TblAt H l rows) : ∃ xs : List V, H l = some (.lst xs) ∧ xs.length = rows.length ∧ ∀ (i : Nat) v r, xs[i]? = some v → rows[i]? = some r → ∃ a, v = .ref a ∧ H a = some (.lst (r.map V.int)) := by
  obtain ⟨as, h1, h2, h3⟩ := h.ob
  refine ⟨_, h1, by rw [List.length_map]; exact h2, fun i v r e1 e2 => ?_⟩
  rw [List.getElem?_map] at e1
  obtain ⟨a, ea, rfl⟩ := Option.map_eq_some_iff.mp e1
  exact ⟨a, rfl, (h3 i a r ea e2).2⟩
def spx_needtable (BS BB : Addr) : Sp := fun vs H Q E => ∃ (l : Addr) (rows : List (List Int)), vs = [.ref l] ∧ TblAt H l rows ∧ rows.length ≤ 1000 ∧ (∀ r ∈ rows, r.length ≤ 1000) ∧
  (¬ GoodT rows → ∀ H', Same H H' → E (.ref BS) none H') ∧ (GoodT rows → bitsT rows = false → ∀ H', Same H H' → E (.ref BB) none H') ∧ (GoodT rows → bitsT rows = true → ∀ H', Same H H' → Q .non H')
theorem isSide_iff {n : Nat} : isSide (n : Int) = true ↔ 0 < n ∧ n < 41 := by
  unfold isSide
  rw [Bool.and_eq_true, decide_eq_true_eq, decide_eq_true_eq]; omega
theorem okx_needtable (T : Txt K mg t) : FnOk P w K mg base (CX1 P w) 6 t.f_needtable t.d_needtable ["table"] (spx_needtable t.a_BadSize t.a_BadBit) := by
  have G_isside := ok_isside (P := P) (w := w) (base := base) T
  have G_allbits := ok_allbits (P := P) (w := w) (base := base) T
  refine T.F_needtable.ok1 sc_needtable (fun vs H Q E h => ?_) (fun cdv A outer s H vs Q E hr h => ?_)
  · obtain ⟨l, rows, rfl, _⟩ := h; rfl
  · obtain ⟨l, rows, rfl, tb, lr, lw, k1, k2, k3⟩ := h
    obtain ⟨xs, hl, lx, it⟩ := tbl_at tb
    have gt : ∀ {i : Nat} {x : V}, xs[i]? = some x → ∃ r a, rows[i]? = some r ∧ x = .ref a ∧ H a = some (.lst (r.map V.int)) := fun {i x} hx => by
      have hi : i < rows.length := by rw [← lx]; exact (List.getElem?_eq_some_iff.mp hx).1
      obtain ⟨a, e, ha⟩ := it i x _ hx (List.getElem?_eq_getElem hi)
      exact ⟨_, a, List.getElem?_eq_getElem hi, e, ha⟩
    refine cutC (ps_setC (i := 1) sc_needtable.nd rfl (Or.inl rfl) (N := ["row"]) (cap := [none]) rfl ⟨rfl, rfl, rfl, rfl, rfl, rfl⟩ (pi_list (pv 0)) (fun _ _ _ => (pg_name (i := 0) (show (["row"] : List Str).Nodup by decide +kernel) rfl (Or.inl rfl))) (fun _ _ _ => pts_nil) (fun _ _ _ => (pe_callB (cI_lenK K rfl) rfl T.no_len (by rfl) (pa_cons (pv 0) pa_nil))) (by rfl)) fun _ _ => cutC (ps_if (PW.pt (pw_or (pt_not (pt_val (pe_call G_isside.up (hr.mono (by first | decide | omega)) rfl T.mg_isside T.F_isside.kp T.b_isside .nil pass1 (pa_cons (pe_callB (cI_lenK K rfl) rfl T.no_len (by rfl) (pa_cons (pv 1) pa_nil)) pa_nil)))) (pw_or (pt_not (pt_val (pe_call G_isside.up (hr.mono (by first | decide | omega)) rfl T.mg_isside T.F_isside.kp T.b_isside .nil pass1 (pa_cons (pe_ix (ix_listK K rfl) (pv 1) pe_int (fun _ _ => rfl)) pa_nil)))) (pw_or1 (pt_cmpR op_ne (pe_bm PySem.F.plainAttrs_list PySem.F.slot_list_count PySem.F.type_list_count mt_countI (pv 1) (pa_cons (pe_ix (ix_listK K rfl) (pv 1) pe_int (fun _ _ => rfl)) pa_nil)) (pe_callB (cI_lenK K rfl) rfl T.no_len (by rfl) (pa_cons (pv 1) pa_nil)) (nomark _)))))) (pss_one (ps_raiseK T.mg_BadSize T.x_BadSize PySem.F.excBase_ValueError rfl rfl (fun _ _ _ _ _ _ _ _ I m q => xe_new I m q) (pa_cons pe_str pa_nil))) pss_nil) fun _ _ => cutE (ps_if (pt_not (pt_val (pe_callB (cI_allK K rfl rfl) rfl T.no_all (by rfl) (pa_cons (pe_comp (N := ["row"]) (cap := [none]) rfl ⟨rfl, rfl, rfl, rfl, rfl, rfl⟩ (pi_list (pv 0)) (fun _ _ _ => (pg_name (i := 0) (show (["row"] : List Str).Nodup by decide +kernel) rfl (Or.inl rfl))) (fun _ _ _ => pts_nil) (fun _ _ _ => (pe_call G_allbits (hr.mono (by first | decide | omega)) rfl T.mg_allbits T.F_allbits.kp T.b_allbits .nil pass0 (pa_cons (pv 0) pa_nil)))) pa_nil)))) (pss_one (ps_raiseK T.mg_BadBit T.x_BadBit PySem.F.excBase_ValueError rfl rfl (fun _ _ _ _ _ _ _ _ I m q => xe_new I m q) (pa_cons pe_str pa_nil))) pss_nil) fun _ _ => ?_
    walk_at "rd"
    refine ⟨⟨_, SqL.of hl⟩, fun l1 n1 => ?_⟩
    refine compW_listL ((rows.map fun r => (r.length : Int)).map V.int) (by rw [List.length_map, List.length_map, lx]) (SqL.of hl) (by omega) n1 (fun i x y o H' Q' hx hy s1 q => ?_) (fun H1 s1 e1 => ?_)
    · obtain ⟨r, a, hr, rfl, ha⟩ := gt hx
      rw [List.getElem?_map, List.getElem?_map, hr] at hy
      cases hy
      walk_at "rd"
      refine rd_lenL (s1 _ _ ha) ?_
      rw [List.length_map]
      exact q H' (Same.refl _)
    · walk_at "rd"
      refine rd_lenL e1 ?_
      rw [List.length_map, List.length_map]
      walk_at "rd"
      refine ⟨_, rfl, ?_⟩
      by_cases c1 : 0 < rows.length ∧ rows.length < 41
      · rw [isSide_iff.mpr c1]
        walk_at "rd"
        have e0 : (rows.map fun r => (r.length : Int)).getD (0 : Int).toNat 0 = (wdT rows : Nat) := by
          unfold wdT
          rw [show (0 : Int).toNat = 0 from rfl, List.getD_eq_getElem?_getD, List.getElem?_map, List.getD_eq_getElem?_getD, List.getElem?_eq_getElem c1.1]; rfl
        refine rd_ixL (SqL.of e1) (atI_ints (i := 0) (by decide) (by rw [List.length_map]; omega)) ?_
        rw [e0]
        walk_at "rd"
        refine ⟨_, rfl, ?_⟩
        by_cases c2 : 0 < wdT rows ∧ wdT rows < 41
        · rw [isSide_iff.mpr c2]
          walk_at "rd"
          refine rd_bmL e1 ?_
          walk_at "rd"
          refine rd_ixL (SqL.of e1) (atI_ints (i := 0) (by decide) (by rw [List.length_map]; omega)) ?_
          rw [e0]
          walk_at "rd"
          refine rd_countI e1 ?_
          walk_at "rd"
          refine rd_lenL e1 ?_
          rw [List.length_map, List.length_map]
          walk_at "rd"
          have hc : (rows.map fun r => (r.length : Int)).count ((wdT rows : Nat) : Int) = rows.length ↔ ∀ r ∈ rows, r.length = wdT rows := by
            rw [show rows.length = (rows.map fun r => (r.length : Int)).length by rw [List.length_map], List.count_eq_length]
            constructor
            · intro h r hr
              have := h _ (List.mem_map.mpr ⟨r, hr, rfl⟩)
              omega
            · intro h b hb
              obtain ⟨r, hr, rfl⟩ := List.mem_map.mp hb
              rw [h r hr]
          by_cases c3 : ∀ r ∈ rows, r.length = wdT rows
          · rw [hc.mpr c3, decide_eq_true rfl]
            walk_at "rd"
            refine ⟨⟨_, SqL.of (s1 _ _ hl)⟩, fun l2 n2 => ?_⟩
            refine compW_listL ((rows.map fun r => r.all isBit).map V.bl) (by rw [List.length_map, List.length_map, lx]) (SqL.of (s1 _ _ hl)) (by omega) n2 (fun i x y o H' Q' hx hy s2 q => ?_) (fun H2 s2 e2 => ?_)
            · obtain ⟨r, a, hr, rfl, ha⟩ := gt hx
              rw [List.getElem?_map, List.getElem?_map, hr] at hy
              cases hy
              walk_at "rd"
              exact ⟨a, r, rfl, s2 _ _ (s1 _ _ ha), lw r (List.mem_of_getElem? hr), fun H3 s3 => q H3 s3⟩
            · walk_at "rd"
              refine rd_all e2 ?_
              rw [List.all_map]
              have eb : rows.all (id ∘ fun r => r.all isBit) = bitsT rows := rfl
              rw [eb]
              cases hb : bitsT rows with
              | true =>
                walk_at "rd"
                exact k3 ⟨c1, c2, c3⟩ hb H2 (s1.trans s2)
              | false =>
                walk_at "rd"
                exact ⟨by show 1 ≤ sizeLine; decide, k2 ⟨c1, c2, c3⟩ hb H2 (s1.trans s2)⟩
          · rw [decide_eq_false (fun z => c3 (hc.mp (by omega)))]
            walk_at "rd"
            exact ⟨by show 1 ≤ sizeLine; decide, k1 (fun g => c3 g.2.2) H1 s1⟩
        · rw [Bool.eq_false_iff.mpr (fun z => c2 (isSide_iff.mp z))]
          walk_at "rd"
          exact ⟨by show 1 ≤ sizeLine; decide, k1 (fun g => c2 g.2.1) H1 s1⟩
      · rw [Bool.eq_false_iff.mpr (fun z => c1 (isSide_iff.mp z))]
        walk_at "rd"
        exact ⟨by show 1 ≤ sizeLine; decide, k1 (fun g => c1 g.1) H1 s1⟩
/-! even blocks -/
def getT (rows : List (List Int)) (y x : Nat) : Int := (rows.getD y []).getD x 0
def evB (rows : List (List Int)) (x y : Nat) : Bool := decide ((getT rows y x + getT rows y (x + 1) + (getT rows (y + 1) x + getT rows (y + 1) (x + 1))) % 2 = 0)
theorem cut2 {r : List Int} {x : Nat} (h : x + 1 < r.length) : cutV (r.map V.int) (some (x : Int)) (some ((x : Int) + 2)) = [r.getD x 0, r.getD (x + 1) 0].map V.int := by
  unfold cutV
  rw [show ((x : Int) + 2) = ((x + 2 : Nat) : Int) by omega, HT.sIx_nat, HT.sIx_nat, List.length_map, Nat.min_eq_left (by omega), Nat.min_eq_left (by omega), show x + 2 - x = 2 by omega]
  rw [← List.map_drop, ← List.map_take]
  congr 1
  have e1 := List.drop_eq_getElem_cons (show x < r.length by omega)
  have e2 := List.drop_eq_getElem_cons h
  rw [e1, e2, List.getD_eq_getElem?_getD, List.getD_eq_getElem?_getD, List.getElem?_eq_getElem h, List.getElem?_eq_getElem (show x < r.length by omega)]
  rfl
theorem goodT_row {rows : List (List Int)} (g : GoodT rows) (b : bitsT rows = true) {y : Nat} (hy : y < rows.length) : (rows.getD y []).length = wdT rows ∧ ∀ z ∈ rows.getD y [], z = 0 ∨ z = 1 := by
  have hm : rows.getD y [] ∈ rows := by rw [List.getD_eq_getElem?_getD, List.getElem?_eq_getElem hy]; exact List.getElem_mem hy
  refine ⟨g.2.2 _ hm, fun z hz => ?_⟩
  have := List.all_eq_true.mp (List.all_eq_true.mp b _ hm) z hz
  unfold isBit at this
  rw [Bool.and_eq_true, decide_eq_true_eq, decide_eq_true_eq] at this
  omega
theorem getD_bit {r : List Int} (h : ∀ z ∈ r, z = 0 ∨ z = 1) (i : Nat) : r.getD i 0 = 0 ∨ r.getD i 0 = 1 := by
  rw [List.getD_eq_getElem?_getD]
  cases e : r[i]? with
  | none => exact .inl rfl
  | some z => exact h z (List.mem_of_getElem? e)
def sp_iseven : Sp := fun vs H Q _ => ∃ (l : Addr) (rows : List (List Int)) (x y : Nat), vs = [.ref l, .int x, .int y] ∧ TblAt H l rows ∧ GoodT rows ∧ bitsT rows = true ∧ x + 1 < wdT rows ∧ y + 1 < rows.length ∧ ∀ H', Same H H' → Q (.bl (evB rows x y)) H'
theorem ok_iseven (T : Txt K mg t) : FnOk P w K mg base CX0 1 t.f_iseven t.d_iseven ["table", "x", "y"] sp_iseven := by
  refine T.F_iseven.ok sc_iseven (fun vs H Q E h => ?_) (fun cdv A outer s H vs Q E hr h => ?_)
  · obtain ⟨l, rows, x, y, rfl, _⟩ := h; rfl
  · obtain ⟨l, rows, x, y, rfl, tb, g, b, hx, hy, k⟩ := h
    obtain ⟨w1, b1⟩ := goodT_row g b (show y < rows.length by omega)
    obtain ⟨w2, b2⟩ := goodT_row g b hy
    have small : ∀ {r : List Int}, (∀ z ∈ r, z = 0 ∨ z = 1) → SmallSum [r.getD x 0, r.getD (x + 1) 0] := fun {r} h => bits_small (fun z hz => by
      simp only [List.mem_cons, List.not_mem_nil, or_false] at hz
      rcases hz with rfl | rfl
      · exact getD_bit h x
      · exact getD_bit h (x + 1)) (by show 2 ≤ 1000; decide)
    obtain ⟨xs, a1, e1, e2, e3⟩ := tb.row (i := (y : Int)) (by omega) (by omega)
    rw [Int.toNat_natCast] at e3
    refine ⟨_, (pss_one (ps_ret (pe_cmpR op_eq (pe_op op_mod (pe_op op_add (pe_callB (cI_sumK K rfl rfl) rfl T.no_sum (by rfl) (pa_cons (pe_slice (sl_listK K rfl) (pe_ix (ix_listK K rfl) (pv 0) (pv 2) (fun _ _ => rfl)) (po_some (pv 1)) (po_some (pe_op op_add (pv 1) pe_int))) pa_nil)) (pe_callB (cI_sumK K rfl rfl) rfl T.no_sum (by rfl) (pa_cons (pe_slice (sl_listK K rfl) (pe_ix (ix_listK K rfl) (pv 0) (pe_op op_add (pv 2) pe_int) (fun _ _ => rfl)) (po_some (pv 1)) (po_some (pe_op op_add (pv 1) pe_int))) pa_nil))) pe_int) pe_int (nomark _)))), ?_⟩
    walk_at "rd"
    refine rd_ixL (SqL.of e1) e2 ?_
    walk_at "rd"
    refine rd_slS e3 fun u1 H1 s1 _ f1 => ?_
    rw [cut2 (by omega)] at f1
    walk_at "rd"
    refine rd_sumL f1 (small b1) ?_
    walk_at "rd"
    obtain ⟨xs', a2, g1, g2, g3⟩ := (tb.mono s1).row (i := (y : Int) + 1) (by omega) (by omega)
    rw [show ((y : Int) + 1).toNat = y + 1 by omega] at g3
    refine rd_ixL (SqL.of g1) g2 ?_
    walk_at "rd"
    refine rd_slS g3 fun u2 H2 s2 _ f2 => ?_
    rw [cut2 (by omega)] at f2
    walk_at "rd"
    refine rd_sumL f2 (small b2) ?_
    walk_at "rd"
    refine rd_I (by decide) ?_
    walk_at "rd"
    have := k H2 (s1.trans s2)
    unfold evB getT at this
    have e : ∀ p q : Int, [p, q].sum = p + q := fun p q => by simp
    rw [e, e]
    exact this
end


section
theorem small1000' {n : Nat} (h : n < 2000) : n < sizeLine := Nat.lt_of_lt_of_le h (by decide)
/-! points in the heap -/
def Pt (H : Hp) (v : V) (q : Int × Int) : Prop := ∃ a, v = .ref a ∧ H a = some (.tup [.int q.1, .int q.2])
theorem Pt.mono {H H' : Hp} {v : V} {q : Int × Int} (s : Same H H') (h : Pt H v q) : Pt H' v q := by
  obtain ⟨a, rfl, ha⟩ := h
  exact ⟨a, rfl, s _ _ ha⟩
theorem Pt.upd {H : Hp} {v : V} {q : Int × Int} {l : Addr} {u o : HO} (h : Pt H v q) (e : H l = some u) (ne : ∀ ys, HO.tup ys ≠ u) : Pt (upd H l o) v q := by
  obtain ⟨a, rfl, ha⟩ := h
  exact ⟨a, rfl, by rw [upd_ne (ne_of ha e (ne _))]; exact ha⟩
def PwPt (H : Hp) (xs : List V) (ps : List (Int × Int)) : Prop := xs.length = ps.length ∧ ∀ (i : Nat) v q, xs[i]? = some v → ps[i]? = some q → Pt H v q
theorem PwPt.mono {H H' : Hp} {xs : List V} {ps : List (Int × Int)} (s : Same H H') (h : PwPt H xs ps) : PwPt H' xs ps := ⟨h.1, fun i v q h1 h2 => (h.2 i v q h1 h2).mono s⟩
theorem PwPt.upd {H : Hp} {xs : List V} {ps : List (Int × Int)} {l : Addr} {u o : HO} (h : PwPt H xs ps) (e : H l = some u) (ne : ∀ ys, HO.tup ys ≠ u) : PwPt (upd H l o) xs ps := ⟨h.1, fun i v q h1 h2 => (h.2 i v q h1 h2).upd e ne⟩
theorem PwPt.nil {H : Hp} : PwPt H [] [] := ⟨rfl, fun i v q h => by simp at h⟩
theorem PwPt.inv {H : Hp} {xs : List V} {p : Int × Int} {ps : List (Int × Int)} (h : PwPt H xs (p :: ps)) : ∃ v r, xs = v :: r ∧ Pt H v p ∧ PwPt H r ps := by
  match xs, h with
  | [], h => have := h.1; simp at this
  | v :: r, h => exact ⟨v, r, rfl, h.2 0 v p rfl rfl, by have := h.1; simp only [List.length_cons] at this; omega, fun i v' q' e1 e2 => h.2 (i + 1) v' q' (by simpa using e1) (by simpa using e2)⟩
theorem PwPt.snoc {H : Hp} {xs : List V} {ps : List (Int × Int)} {v : V} {q : Int × Int} (h : PwPt H xs ps) (hv : Pt H v q) : PwPt H (xs ++ [v]) (ps ++ [q]) := by
  refine ⟨by rw [List.length_append, List.length_append, h.1]; rfl, fun i v' q' h1 h2 => ?_⟩
  by_cases hi : i < xs.length
  · rw [List.getElem?_append_left hi] at h1
    rw [List.getElem?_append_left (by rw [← h.1]; exact hi)] at h2
    exact h.2 i v' q' h1 h2
  · rw [List.getElem?_append_right (by omega)] at h1
    rw [List.getElem?_append_right (by rw [← h.1]; omega), ← h.1] at h2
    cases hk : i - xs.length with
    | zero =>
      rw [hk] at h1 h2
      simp only [List.getElem?_cons_zero, Option.some.injEq] at h1 h2
      rw [← h1, ← h2]; exact hv
    | succ k => rw [hk] at h1; simp at h1
/-- the point that stands at a value -/
def ptOf (H : Hp) : V → Int × Int
  | .ref a => match H a with
    | some (.tup [.int x, .int y]) => (x, y)
    | _ => (0, 0)
  | _ => (0, 0)
end

section
variable {P : Program} {w : World} {K : PySem.W.Frag} {mg : Str → Option Value} {base : Heap} {t : Ad}
def evRow (rows : List (List Int)) (n y : Nat) : List (Int × Int) := ((List.range n).filter fun x => evB rows x y).map fun x => (((x : Nat) : Int), ((y : Nat) : Int))
def evs (rows : List (List Int)) : Nat → List (Int × Int)
  | 0 => []
  | n + 1 => evs rows n ++ evRow rows (wdT rows - 1) n
theorem evRow_len (rows : List (List Int)) (n y : Nat) : (evRow rows n y).length ≤ n := by
  unfold evRow
  rw [List.length_map]
  exact Nat.le_trans (List.length_filter_le _ _) (by rw [List.length_range]; exact Nat.le_refl _)
theorem evs_len (rows : List (List Int)) : ∀ n, (evs rows n).length ≤ n * (wdT rows - 1)
  | 0 => Nat.zero_le _
  | n + 1 => by
    have h1 := evs_len rows n
    have h2 := evRow_len rows (wdT rows - 1) n
    show (evs rows n ++ evRow rows (wdT rows - 1) n).length ≤ _
    rw [List.length_append, Nat.succ_mul]
    omega
theorem evs_small {rows : List (List Int)} {n : Nat} (hn : n ≤ 40) (hw : wdT rows < 41) : (evs rows n).length ≤ 1600 := by
  have h1 := evs_len rows n
  have h2 : n * (wdT rows - 1) ≤ 40 * 40 := Nat.mul_le_mul hn (by omega)
  omega
theorem PwPt.append {H : Hp} {xs ys : List V} {ps qs : List (Int × Int)} (h : PwPt H xs ps) (h' : PwPt H ys qs) : PwPt H (xs ++ ys) (ps ++ qs) := by
  refine ⟨by rw [List.length_append, List.length_append, h.1, h'.1], fun i v q e1 e2 => ?_⟩
  by_cases hi : i < xs.length
  · rw [List.getElem?_append_left hi] at e1
    rw [List.getElem?_append_left (by rw [← h.1]; exact hi)] at e2
    exact h.2 i v q e1 e2
  · rw [List.getElem?_append_right (by omega)] at e1
    rw [List.getElem?_append_right (by rw [← h.1]; omega), ← h.1] at e2
    exact h'.2 _ v q e1 e2
def sp_needtable : Sp := fun vs H Q _ => ∃ (l : Addr) (rows : List (List Int)), vs = [.ref l] ∧ TblAt H l rows ∧ GoodT rows ∧ bitsT rows = true ∧ ∀ H', Same H H' → Q .non H'
theorem ok_needtable (T : Txt K mg t) : FnOk P w K mg base CX0 6 t.f_needtable t.d_needtable ["table"] sp_needtable :=
  (okx_needtable T).down fun vs H Q E hh => by
    obtain ⟨l, rows, e, tb, g, b, k⟩ := hh
    obtain ⟨⟨g1, g2⟩, ⟨g3, g4⟩, g5⟩ := id g
    exact ⟨l, rows, e, tb, by omega, fun r hr => by rw [g5 r hr]; omega, fun n => absurd g n, fun _ z => (by rw [b] at z; cases z), fun _ _ => k⟩
def sp_evenblocks : Sp := fun vs H Q _ => ∃ (l : Addr) (rows : List (List Int)), vs = [.ref l] ∧ TblAt H l rows ∧ GoodT rows ∧ bitsT rows = true ∧ ∀ lf xs H', Same H H' → H lf = none → H' lf = some (.lst xs) → PwPt H' xs (evs rows (rows.length - 1)) → Q (.ref lf) H'
theorem ok_evenblocks (T : Txt K mg t) : FnOk P w K mg base CX0 7 t.f_evenblocks t.d_evenblocks ["table"] sp_evenblocks := by
  have G_needtable := ok_needtable (P := P) (w := w) (base := base) T
  have G_iseven := ok_iseven (P := P) (w := w) (base := base) T
  refine T.F_evenblocks.ok sc_evenblocks (fun vs H Q E h => ?_) (fun cdv A outer s H vs Q E hr h => ?_)
  · obtain ⟨l, rows, rfl, _⟩ := h; rfl
  · obtain ⟨l, rows, rfl, tb, g, b, k3⟩ := h
    refine cutC (ps_expr (pe_call G_needtable (hr.mono (by first | decide | omega)) rfl T.mg_needtable T.F_needtable.kp T.b_needtable .nil pass0 (pa_cons (pv 0) pa_nil))) fun _ _ => cutC (ps_set (i := 1) sc_evenblocks.nd rfl (Or.inl rfl) (pe_lst pa_nil)) fun _ _ => cutC (ps_for PassesOwn.never rfl (pi_range1 rfl T.no_range (pa_cons (pe_op op_sub (pe_callB (cI_lenK K rfl) rfl T.no_len (by rfl) (pa_cons (pv 0) pa_nil)) pe_int) pa_nil)) (pg_name (i := 2) sc_evenblocks.nd rfl (Or.inr rfl)) (pss_one (ps_expr (pe_bm PySem.F.plainAttrs_list PySem.F.slot_list_extend PySem.F.type_list_extend mt_extend (pv 1) (pa_cons (pe_comp (N := ["x", "y", "table"]) (cap := [none, some 2, some 0]) rfl ⟨rfl, rfl, rfl, rfl, rfl, rfl⟩ (pi_range1 rfl T.no_range (pa_cons (pe_op op_sub (pe_callB (cI_lenK K rfl) rfl T.no_len (by rfl) (pa_cons (pe_ix (ix_listK K rfl) (pv 0) (pv 2) (fun _ _ => rfl)) pa_nil)) pe_int) pa_nil)) (fun _ _ _ => (pg_name (i := 0) (show (["x", "y", "table"] : List Str).Nodup by decide +kernel) rfl (Or.inl rfl))) (fun _ _ _ => (pts_one (pt_val (pe_call G_iseven (hr.mono (by first | decide | omega)) rfl T.mg_iseven T.F_iseven.kp T.b_iseven .nil pass0 (pa_cons (pv 2) (pa_cons (pv 0) (pa_cons (pv 1) pa_nil))))))) (fun _ _ _ => (pe_tup (pa_cons (pv 0) (pa_cons (pv 1) pa_nil))))) pa_nil))))) fun _ _ => cutE (ps_ret (pv 1)) fun _ _ => ?_
    walk_at "rd"
    refine ⟨l, rows, rfl, tb, g, b, fun H1 s1 => ?_⟩
    obtain ⟨⟨g1, g2⟩, ⟨g3, g4⟩, _⟩ := id g
    walk_at "rd"
    refine ⟨by show 0 ≤ sizeLine; decide, fun lf nlf => ?_⟩
    have slf := Same.new (o := HO.lst []) nlf
    have elf := upd_same (H := H1) (a := lf) (o := HO.lst [])
    generalize upd H1 lf (HO.lst []) = H2 at slf elf ⊢
    have s2 := s1.trans slf
    have nlf0 : H lf = none := s1.free nlf
    have tb2 := tb.mono s2
    obtain ⟨xs0, hl2, lx2, _⟩ := tbl_at tb2
    walk_at "rd"
    refine rd_lenL hl2 ?_
    rw [lx2]
    walk_at "rd"
    refine ⟨_, rfl, by omega, by omega, ?_⟩
    rw [show (((rows.length : Nat) : Int) - 1).toNat = rows.length - 1 by omega]
    refine forW_range (fun i σ' H' => ∃ (oy : Option V) (xs : List V), σ' = [some (.ref l), some (.ref lf), oy] ∧ Same H H' ∧ H' lf = some (.lst xs) ∧ PwPt H' xs (evs rows i)) ⟨none, [], rfl, s2, elf, PwPt.nil⟩ ?_ ?_
    · rintro i σ' H3 hi ⟨oy, xs, rfl, s3, e3, pw3⟩
      rw [Int.zero_add]
      have tb3 := tb.mono s3
      walk_at "rd"
      refine rd_bmL e3 ?_
      obtain ⟨xs1, a1, q1, q2, q3⟩ := tb3.row (i := ((i : Nat) : Int)) (by omega) (by omega)
      rw [Int.toNat_natCast] at q3
      obtain ⟨w1, _⟩ := goodT_row g b (show i < rows.length by omega)
      walk_at "rd"
      refine rd_ixL (SqL.of q1) q2 ?_
      walk_at "rd"
      refine rd_lenL q3 ?_
      rw [List.length_map, w1]
      walk_at "rd"
      refine ⟨_, rfl, by omega, by omega, fun lc nlc => ?_⟩
      rw [show (((wdT rows : Nat) : Int) - 1).toNat = wdT rows - 1 by omega]
      refine compW_rangeF (fun x => evB rows x i) (fun m v H' => Pt H' v (((m : Nat) : Int), ((i : Nat) : Int)) ∧ v ≠ .ref lc) (by omega) nlc (fun m v Ha Hb sb q => ?_) (fun x o H' Q' hx s4 q => ?_) (fun x o H' Q' hx _ s4 hlc q => ?_) (fun ys H4 s4 e4 ly hR => ?_)
      · obtain ⟨⟨a, rfl, ha⟩, hne⟩ := q
        exact ⟨⟨a, rfl, sb _ _ ha fun z => hne (by rw [z])⟩, hne⟩
      · rw [Int.zero_add]
        walk_at "rd"
        exact ⟨l, rows, x, i, rfl, tb3.mono s4, g, b, by omega, by omega, fun H5 s5 => ⟨_, rfl, q H5 s5⟩⟩
      · rw [Int.zero_add]
        walk_at "rd"
        refine ⟨by show 2 ≤ sizeLine; decide, fun a na => ?_⟩
        obtain ⟨zz, hzz⟩ := hlc
        exact q (.ref a) _ (Same.new na) ⟨⟨a, rfl, upd_same⟩, fun z => by injection z with z; rw [z] at na; rw [na] at hzz; cases hzz⟩
      · have pw4 : PwPt H4 ys (evRow rows (wdT rows - 1) i) := by
          unfold evRow
          refine ⟨by rw [List.length_map]; exact ly, fun j v q e1 e2 => ?_⟩
          obtain ⟨m, hm, h1, _⟩ := hR j v e1
          rw [List.getElem?_map, hm] at e2
          cases e2
          exact h1
        walk_at "rd"
        refine ⟨lf, lc, xs, ys, rfl, rfl, s4 _ _ e3, e4, ?_, ?_⟩
        · rw [pw3.1, pw4.1]
          have h1 := evs_small (rows := rows) (n := i) (by omega) g4
          have h2 := evRow_len rows (wdT rows - 1) i
          exact Nat.le_of_lt (small1000' (by omega))
        · have nt : ∀ ys', HO.tup ys' ≠ HO.lst xs := fun _ z => by cases z
          walk_at "rd"
          refine ⟨_, _, rfl, fun c o e => ?_, upd_same, ((pw3.mono s4).append pw4).upd (s4 _ _ e3) nt⟩
          rw [upd_ne (ne_of_none e nlf0)]
          exact s4 _ _ (s3 _ _ e)
    · rintro σ' H3 ⟨oy, xs, rfl, s3, e3, pw3⟩
      walk_at "rd"
      exact k3 lf xs H3 s3 nlf0 e3 pw3
def RefT (BS BB : Addr) (rows : List (List Int)) (H : Hp) (E : XK) : Prop := (¬ GoodT rows ∧ ∀ H', Same H H' → E (.ref BS) none H') ∨ (GoodT rows ∧ bitsT rows = false ∧ ∀ H', Same H H' → E (.ref BB) none H')
def spx_evenblocks (BS BB : Addr) : Sp := fun vs H Q E => ∃ (l : Addr) (rows : List (List Int)), vs = [.ref l] ∧ TblAt H l rows ∧ rows.length ≤ 1000 ∧ (∀ r ∈ rows, r.length ≤ 1000) ∧ RefT BS BB rows H E
theorem okx_evenblocks (T : Txt K mg t) : FnOk P w K mg base (CX1 P w) 7 t.f_evenblocks t.d_evenblocks ["table"] (spx_evenblocks t.a_BadSize t.a_BadBit) := by
  have GX_needtable := okx_needtable (P := P) (w := w) (base := base) T
  refine T.F_evenblocks.ok1 sc_evenblocks (fun vs H Q E h => ?_) (fun cdv A outer s H vs Q E hr h => ?_)
  · obtain ⟨l, rows, rfl, _⟩ := h; rfl
  · obtain ⟨l, rows, rfl, tb, lr, lw, h⟩ := h
    refine ⟨_, (pss_cons (ps_expr (pe_call GX_needtable (hr.mono (by first | decide | omega)) rfl T.mg_needtable T.F_needtable.kp T.b_needtable .nil pass1 (pa_cons (pv 0) pa_nil))) pss_never), ?_⟩
    walk_at "rd"
    rcases h with ⟨n, q⟩ | ⟨g, b, q⟩
    · exact ⟨l, rows, rfl, tb, lr, lw, fun _ => q, fun g => absurd g n, fun g => absurd g n⟩
    · exact ⟨l, rows, rfl, tb, lr, lw, fun n => absurd g n, fun _ _ => q, fun _ z => (by rw [b] at z; cases z)⟩
def spx_clothof (BS BB : Addr) : Sp := fun vs H Q E => ∃ (l : Addr) (rows : List (List Int)), vs = [.ref l] ∧ TblAt H l rows ∧ rows.length ≤ 1000 ∧ (∀ r ∈ rows, r.length ≤ 1000) ∧ RefT BS BB rows H E
theorem okx_clothof (T : Txt K mg t) : FnOk P w K mg base (CX1 P w) 8 t.f_clothof t.d_clothof ["table"] (spx_clothof t.a_BadSize t.a_BadBit) := by
  have GX_evenblocks := okx_evenblocks (P := P) (w := w) (base := base) T
  refine T.F_clothof.ok1 sc_clothof (fun vs H Q E h => ?_) (fun cdv A outer s H vs Q E hr h => ?_)
  · obtain ⟨l, rows, rfl, _⟩ := h; rfl
  · obtain ⟨l, rows, rfl, tb, lr, lw, h⟩ := h
    refine ⟨_, (pss_cons (ps_set (i := 1) sc_clothof.nd rfl (Or.inl rfl) (pe_call GX_evenblocks (hr.mono (by first | decide | omega)) rfl T.mg_evenblocks T.F_evenblocks.kp T.b_evenblocks .nil pass1 (pa_cons (pv 0) pa_nil))) pss_never), ?_⟩
    walk_at "rd"
    exact ⟨l, rows, rfl, tb, lr, lw, h⟩
end


section
variable {P : Program} {w : World} {K : PySem.W.Frag} {mg : Str → Option Value} {base : Heap} {t : Ad}
theorem cnt4 {a b c d : Int} (ha : a = 0 ∨ a = 1) (hb : b = 0 ∨ b = 1) (hc : c = 0 ∨ c = 1) (hd : d = 0 ∨ d = 1) : inV (.int ([a, b, c, d].count 1 : Nat)) [V.int 0, V.int 2, V.int 4] = decide ((a + b + (c + d)) % 2 = 0) := by
  rcases ha with rfl | rfl <;> rcases hb with rfl | rfl <;> rcases hc with rfl | rfl <;> rcases hd with rfl | rfl <;> decide +kernel
theorem evRow_succ (rows : List (List Int)) (n y : Nat) : evRow rows (n + 1) y = evRow rows n y ++ (if evB rows n y = true then [(((n : Nat) : Int), ((y : Nat) : Int))] else []) := by
  unfold evRow
  rw [List.range_succ, List.filter_append, List.map_append]
  congr 1
  cases h : evB rows n y <;> simp [h]
def sp_Leven : Sp := fun vs H Q _ => ∃ (l : Addr) (rows : List (List Int)), vs = [.ref l] ∧ TblAt H l rows ∧ GoodT rows ∧ bitsT rows = true ∧ ∀ lf xs H', Same H H' → H lf = none → H' lf = some (.lst xs) → PwPt H' xs (evs rows (rows.length - 1)) → Q (.ref lf) H'
theorem ok_Leven (T : Txt K mg t) : FnOk P w K mg base CX0 1 t.f_Leven t.d_Leven ["_law_table_here"] sp_Leven := by
  refine T.F_Leven.ok sc_Leven (fun vs H Q E h => ?_) (fun cdv A outer s H vs Q E hr h => ?_)
  · obtain ⟨l, rows, rfl, _⟩ := h; rfl
  · obtain ⟨l, rows, rfl, tb, g, b, k⟩ := h
    obtain ⟨⟨g1, g2⟩, ⟨g3, g4⟩, _⟩ := id g
    refine cutC (ps_set (i := 1) sc_Leven.nd rfl (Or.inl rfl) (pe_lst pa_nil)) fun _ _ => cutC (ps_for PassesOwn.never rfl (pi_range2 rfl T.no_range (pa_cons pe_int (pa_cons (pe_callB (cI_lenK K rfl) rfl T.no_len (by rfl) (pa_cons (pv 0) pa_nil)) pa_nil))) (pg_name (i := 2) sc_Leven.nd rfl (Or.inl rfl)) (pss_one (ps_for PassesOwn.never rfl (pi_range2 rfl T.no_range (pa_cons pe_int (pa_cons (pe_callB (cI_lenK K rfl) rfl T.no_len (by rfl) (pa_cons (pe_ix (ix_listK K rfl) (pv 0) pe_int (fun _ _ => rfl)) pa_nil)) pa_nil))) (pg_name (i := 3) sc_Leven.nd rfl (Or.inl rfl)) (pss_cons (ps_set (i := 4) sc_Leven.nd rfl (Or.inl rfl) (pe_lst (pa_cons (pe_ix (ix_listK K rfl) (pe_ix (ix_listK K rfl) (pv 0) (pe_op op_sub (pv 2) pe_int) (fun _ _ => rfl)) (pe_op op_sub (pv 3) pe_int) (fun _ _ => rfl)) (pa_cons (pe_ix (ix_listK K rfl) (pe_ix (ix_listK K rfl) (pv 0) (pe_op op_sub (pv 2) pe_int) (fun _ _ => rfl)) (pv 3) (fun _ _ => rfl)) (pa_cons (pe_ix (ix_listK K rfl) (pe_ix (ix_listK K rfl) (pv 0) (pv 2) (fun _ _ => rfl)) (pe_op op_sub (pv 3) pe_int) (fun _ _ => rfl)) (pa_cons (pe_ix (ix_listK K rfl) (pe_ix (ix_listK K rfl) (pv 0) (pv 2) (fun _ _ => rfl)) (pv 3) (fun _ _ => rfl)) pa_nil)))))) (pss_one (ps_if (pt_cmpR op_in_seq (pe_bm PySem.F.plainAttrs_list PySem.F.slot_list_count PySem.F.type_list_count mt_countI (pv 4) (pa_cons pe_int pa_nil)) (pe_tup (pa_cons pe_int (pa_cons pe_int (pa_cons pe_int pa_nil)))) rfl) (pss_one (ps_expr (pe_bm PySem.F.plainAttrs_list PySem.F.slot_list_append PySem.F.type_list_append mt_append (pv 1) (pa_cons (pe_tup (pa_cons (pe_op op_sub (pv 3) pe_int) (pa_cons (pe_op op_sub (pv 2) pe_int) pa_nil))) pa_nil)))) pss_nil)))))) fun _ _ => cutE (ps_ret (pv 1)) fun _ _ => ?_
    walk_at "rd"
    refine ⟨by show 0 ≤ sizeLine; decide, fun lf nlf => ?_⟩
    have slf := Same.new (o := HO.lst []) nlf
    have elf := upd_same (H := H) (a := lf) (o := HO.lst [])
    generalize upd H lf (HO.lst []) = H2 at slf elf ⊢
    have tb2 := tb.mono slf
    obtain ⟨xs0, hl2, lx2, _⟩ := tbl_at tb2
    walk_at "rd"
    refine rd_rng2 ?_
    walk_at "rd"
    refine rd_lenL hl2 ?_
    rw [lx2]
    walk_at "rd"
    refine ⟨1, _, rfl, ⟨by decide, by decide, by omega, by omega⟩, ?_⟩
    rw [show (((rows.length : Nat) : Int) - 1).toNat = rows.length - 1 by omega]
    refine forW_range (fun i σ' H' => ∃ (oy ox o4 : Option V) (xs : List V), σ' = [some (.ref l), some (.ref lf), oy, ox, o4] ∧ Same H H' ∧ H' lf = some (.lst xs) ∧ PwPt H' xs (evs rows i)) ⟨none, none, none, [], rfl, slf, elf, PwPt.nil⟩ ?_ ?_
    · rintro i σ' H3 hi ⟨oy, ox, o4, xs, rfl, s3, e3, pw3⟩
      have tb3 := tb.mono s3
      obtain ⟨xs1, a1, q1, q2, q3⟩ := tb3.row (i := 0) (by omega) (by omega)
      rw [show (0 : Int).toNat = 0 from rfl] at q3
      walk_at "rd"
      refine rd_rng2 ?_
      walk_at "rd"
      refine rd_ixL (SqL.of q1) q2 ?_
      walk_at "rd"
      refine rd_lenL q3 ?_
      rw [List.length_map, show (rows.getD 0 []).length = wdT rows from rfl]
      walk_at "rd"
      refine ⟨1, _, rfl, ⟨by decide, by decide, by omega, by omega⟩, ?_⟩
      rw [show (((wdT rows : Nat) : Int) - 1).toNat = wdT rows - 1 by omega]
      refine forW_range (fun j σ' H' => ∃ (ox o4 : Option V) (xs : List V), σ' = [some (.ref l), some (.ref lf), some (.int (1 + (i : Nat))), ox, o4] ∧ Same H H' ∧ H' lf = some (.lst xs) ∧ PwPt H' xs (evs rows i ++ evRow rows j i)) ⟨_, _, xs, rfl, s3, e3, by unfold evRow; simpa using pw3⟩ ?_ ?_
      · rintro j σ' H4 hj ⟨ox, o4, xs, rfl, s4, e4, pw4⟩
        have tb4 := tb.mono s4
        obtain ⟨w1, b1⟩ := goodT_row g b (show i < rows.length by omega)
        obtain ⟨w2, b2⟩ := goodT_row g b (show i + 1 < rows.length by omega)
        obtain ⟨xs1, a1, q1, q2, q3⟩ := tb4.row (i := ((i : Nat) : Int)) (by omega) (by omega)
        obtain ⟨xs2, a2, r1, r2, r3⟩ := tb4.row (i := ((i : Nat) : Int) + 1) (by omega) (by omega)
        rw [Int.toNat_natCast] at q3
        rw [show (((i : Nat) : Int) + 1).toNat = i + 1 by omega] at r3
        have ei : (1 + ((i : Nat) : Int)) - 1 = ((i : Nat) : Int) := by omega
        have ei' : (1 + ((i : Nat) : Int)) = ((i : Nat) : Int) + 1 := by omega
        have ej : (1 + ((j : Nat) : Int)) - 1 = ((j : Nat) : Int) := by omega
        have ej' : (1 + ((j : Nat) : Int)) = ((j : Nat) : Int) + 1 := by omega
        walk_at "rd"
        rw [ei]
        refine rd_ixL (SqL.of q1) q2 ?_
        walk_at "rd"
        rw [ej]
        refine rd_ixL (SqL.of q3) (atI_ints (i := ((j : Nat) : Int)) (by omega) (by omega)) ?_
        rw [Int.toNat_natCast]
        walk_at "rd"
        rw [ei]
        refine rd_ixL (SqL.of q1) q2 ?_
        walk_at "rd"
        rw [ej']
        refine rd_ixL (SqL.of q3) (atI_ints (i := ((j : Nat) : Int) + 1) (by omega) (by omega)) ?_
        rw [show (((j : Nat) : Int) + 1).toNat = j + 1 by omega]
        walk_at "rd"
        rw [ei']
        refine rd_ixL (SqL.of r1) r2 ?_
        walk_at "rd"
        rw [show ((j : Nat) : Int) + 1 - 1 = ((j : Nat) : Int) by omega]
        refine rd_ixL (SqL.of r3) (atI_ints (i := ((j : Nat) : Int)) (by omega) (by omega)) ?_
        rw [Int.toNat_natCast]
        walk_at "rd"
        refine rd_ixL (SqL.of r1) r2 ?_
        walk_at "rd"
        refine rd_ixL (SqL.of r3) (atI_ints (i := ((j : Nat) : Int) + 1) (by omega) (by omega)) ?_
        rw [show (((j : Nat) : Int) + 1).toNat = j + 1 by omega]
        walk_at "rd"
        have v1 := getD_bit b1 j
        have v2 := getD_bit b1 (j + 1)
        have v3 := getD_bit b2 j
        have v4 := getD_bit b2 (j + 1)
        have ee : evB rows j i = decide (((rows.getD i []).getD j 0 + (rows.getD i []).getD (j + 1) 0 + ((rows.getD (i + 1) []).getD j 0 + (rows.getD (i + 1) []).getD (j + 1) 0)) % 2 = 0) := rfl
        have es := evRow_succ rows j i
        generalize (rows.getD i []).getD j 0 = y1 at v1 ee ⊢
        generalize (rows.getD i []).getD (j + 1) 0 = y2 at v2 ee ⊢
        generalize (rows.getD (i + 1) []).getD j 0 = y3 at v3 ee ⊢
        generalize (rows.getD (i + 1) []).getD (j + 1) 0 = y4 at v4 ee ⊢
        refine ⟨by show 4 ≤ sizeLine; decide, fun lq nlq => ?_⟩
        have slq := Same.new (o := HO.lst [V.int y1, V.int y2, V.int y3, V.int y4]) nlq
        have elq := upd_same (H := H4) (a := lq) (o := HO.lst [V.int y1, V.int y2, V.int y3, V.int y4])
        generalize upd H4 lq (HO.lst [V.int y1, V.int y2, V.int y3, V.int y4]) = H5 at slq elq ⊢
        walk_at "rd"
        refine rd_bmL elq ?_
        walk_at "rd"
        refine rd_countI (ns := [y1, y2, y3, y4]) elq ?_
        walk_at "rd"
        refine ⟨by show 3 ≤ sizeLine; decide, fun tt ntt => ?_⟩
        have stt := Same.new (o := HO.tup [V.int 0, V.int 2, V.int 4]) ntt
        have ett := upd_same (H := H5) (a := tt) (o := HO.tup [V.int 0, V.int 2, V.int 4])
        generalize upd H5 tt (HO.tup [V.int 0, V.int 2, V.int 4]) = H6 at stt ett ⊢
        walk_at "rd"
        refine ⟨tt, _, rfl, .inr (SqT.of ett), rfl, rfl, ?_⟩
        rw [cnt4 v1 v2 v3 v4, ← ee, if_neg (by decide)]
        have s46 := slq.trans stt
        cases he : evB rows j i with
        | true =>
          rw [he, if_pos rfl] at es
          walk_at "rd"
          refine rd_bmL (s46 _ _ e4) ?_
          walk_at "rd"
          rw [show ((j : Nat) : Int) + 1 - 1 = ((j : Nat) : Int) by omega, show ((i : Nat) : Int) + 1 - 1 = ((i : Nat) : Int) by omega]
          refine ⟨by show 2 ≤ sizeLine; decide, fun pt npt => ?_⟩
          have spt := Same.new (o := HO.tup [V.int ((j : Nat) : Int), V.int ((i : Nat) : Int)]) npt
          have ept := upd_same (H := H6) (a := pt) (o := HO.tup [V.int ((j : Nat) : Int), V.int ((i : Nat) : Int)])
          generalize upd H6 pt (HO.tup [V.int ((j : Nat) : Int), V.int ((i : Nat) : Int)]) = H7 at spt ept ⊢
          walk_at "rd"
          refine rd_append (spt _ _ (s46 _ _ e4)) (by rw [pw4.1, List.length_append]; have h1 := evs_small (rows := rows) (n := i) (by omega) g4; have h2 := evRow_len rows j i; exact small1000' (by omega)) ?_
          have nt : ∀ ys', HO.tup ys' ≠ HO.lst xs := fun _ z => by cases z
          walk_at "rd"
          refine ⟨_, _, _, rfl, fun c o e => ?_, upd_same, ?_⟩
          · rw [upd_ne (ne_of_none e nlf)]
            exact spt _ _ (s46 _ _ (s4 _ _ e))
          · rw [es, ← List.append_assoc]
            exact (((pw4.mono (s46.trans spt)).snoc ⟨pt, rfl, ept⟩)).upd (spt _ _ (s46 _ _ e4)) nt
        | false =>
          rw [he, if_neg (by decide), List.append_nil] at es
          walk_at "rd"
          exact ⟨_, _, xs, rfl, s4.trans s46, s46 _ _ e4, by rw [es]; exact pw4.mono s46⟩
      · rintro σ' H4 ⟨ox, o4, xs, rfl, s4, e4, pw4⟩
        exact ⟨_, _, _, xs, rfl, s4, e4, pw4⟩
    · rintro σ' H3 ⟨oy, ox, o4, xs, rfl, s3, e3, pw3⟩
      walk_at "rd"
      exact k lf xs H3 s3 nlf e3 pw3
end


section
variable {P : Program} {w : World} {K : PySem.W.Frag} {mg : Str → Option Value} {base : Heap} {t : Ad}
theorem ixN_of {n j : Nat} (h : j < n) : ixN n (j : Int) = some j := by
  unfold ixN
  simp [h]
  try omega
theorem goodT_set {rows : List (List Int)} (g : GoodT rows) {y : Nat} (hy : y < rows.length) {r' : List Int} (hr : r'.length = wdT rows) : GoodT (rows.set y r') ∧ wdT (rows.set y r') = wdT rows ∧ (rows.set y r').length = rows.length := by
  have ll : (rows.set y r').length = rows.length := List.length_set ..
  have ew : wdT (rows.set y r') = wdT rows := by
    unfold wdT at hr ⊢
    rw [List.getD_eq_getElem?_getD, List.getElem?_set]
    by_cases h0 : y = 0
    · rw [if_pos h0, if_pos hy]; exact hr
    · rw [if_neg h0, ← List.getD_eq_getElem?_getD]
  refine ⟨⟨by rw [ll]; exact g.1, by rw [ew]; exact g.2.1, fun r hm => ?_⟩, ew, ll⟩
  rw [ew]
  rcases List.mem_or_eq_of_mem_set hm with h | h
  · exact g.2.2 r h
  · rw [h]; exact hr
theorem bitsT_iff {rows : List (List Int)} : bitsT rows = true ↔ ∀ r ∈ rows, ∀ z ∈ r, z = 0 ∨ z = 1 := by
  unfold bitsT
  rw [List.all_eq_true]
  refine forall_congr' fun r => forall_congr' fun _ => ?_
  rw [List.all_eq_true]
  refine forall_congr' fun z => forall_congr' fun _ => ?_
  unfold isBit
  rw [Bool.and_eq_true, decide_eq_true_eq, decide_eq_true_eq]; omega
theorem bitsT_set {rows : List (List Int)} (b : bitsT rows = true) {y : Nat} {r' : List Int} (hr : ∀ z ∈ r', z = 0 ∨ z = 1) : bitsT (rows.set y r') = true :=
  bitsT_iff.mpr fun r hm => by
    rcases List.mem_or_eq_of_mem_set hm with h | h
    · exact bitsT_iff.mp b r h
    · rw [h]; exact hr
/-- [list(row) for row in table] -/
theorem copyF {H0 H : Hp} {lt : Addr} {rows : List (List Int)} {xs : List V} {as : List Addr} (lx : xs.length = rows.length) (nl : H0 lt = none) (e : H lt = some (.lst (as.map V.ref))) (la : as.length = xs.length) (nd : as.Nodup) (hR : ∀ (i : Nat) b, as[i]? = some b → b ≠ lt ∧ H0 b = none ∧ ∀ r, rows[i]? = some r → H b = some (.lst (r.map V.int))) : TblF H0 H lt rows :=
  ⟨nl, as, e, la.trans lx, nd, fun a ha => let ⟨i, hi⟩ := List.mem_iff_getElem?.mp ha; (hR i a hi).2.1, fun i a r e1 e2 => ⟨(hR i a e1).1, (hR i a e1).2.2 r e2⟩⟩
def sp_Lspots : Sp := fun vs H Q _ => ∃ (ls l : Addr) (zs : List Int) (m : Nat) (rows : List (List Int)), vs = [.ref ls, .ref l, .int m] ∧ H ls = some (.lst (zs.map V.int)) ∧ TblAt H l rows ∧ GoodT rows ∧ bitsT rows = true ∧ m ≤ 10 ∧ 20 ≤ zs.length ∧
  ∀ lt rows' H', Same H H' → TblF H H' lt rows' → GoodT rows' → wdT rows' = wdT rows → rows'.length = rows.length → bitsT rows' = true → Q (.ref lt) H'
theorem ok_Lspots (T : Txt K mg t) : FnOk P w K mg base CX0 1 t.f_Lspots t.d_Lspots ["_law_some", "_law_table_here", "_law_many"] sp_Lspots := by
  refine T.F_Lspots.ok sc_Lspots (fun vs H Q E h => ?_) (fun cdv A outer s H vs Q E hr h => ?_)
  · obtain ⟨ls, l, zs, m, rows, rfl, _⟩ := h; rfl
  · obtain ⟨ls, l, zs, m, rows, rfl, hls, tb, g, b, lm, lz, k⟩ := h
    obtain ⟨⟨g1, g2⟩, ⟨g3, g4⟩, g5⟩ := id g
    obtain ⟨xs, hl, lx, it⟩ := tbl_at tb
    refine cutC (ps_setC (i := 1) sc_Lspots.nd rfl (Or.inl rfl) (N := ["_law_row_here"]) (cap := [none]) rfl ⟨rfl, rfl, rfl, rfl, rfl, rfl⟩ (pi_list (pv 1)) (fun _ _ _ => (pg_name (i := 0) (show (["_law_row_here"] : List Str).Nodup by decide +kernel) rfl (Or.inl rfl))) (fun _ _ _ => pts_nil) (fun _ _ _ => (pe_callTy (cI_listK K rfl) rfl T.no_list (by rfl) (pa_cons (pv 0) pa_nil))) (by rfl)) fun _ _ => cutC (ps_for PassesOwn.never rfl (pi_range1 rfl T.no_range (pa_cons (pv 2) pa_nil)) (pg_name (i := 3) sc_Lspots.nd rfl (Or.inl rfl)) (pss_cons (ps_set (i := 4) sc_Lspots.nd rfl (Or.inl rfl) (pe_op op_mod (pe_ix (ix_listK K rfl) (pv 0) (pe_op op_mul pe_int (pv 3)) (fun _ _ => rfl)) (pe_callB (cI_lenK K rfl) rfl T.no_len (by rfl) (pa_cons (pe_ix (ix_listK K rfl) (pv 1) pe_int (fun _ _ => rfl)) pa_nil)))) (pss_cons (ps_set (i := 5) sc_Lspots.nd rfl (Or.inl rfl) (pe_op op_mod (pe_ix (ix_listK K rfl) (pv 0) (pe_op op_add (pe_op op_mul pe_int (pv 3)) pe_int) (fun _ _ => rfl)) (pe_callB (cI_lenK K rfl) rfl T.no_len (by rfl) (pa_cons (pv 1) pa_nil)))) (pss_one (ps_asg (pe_op op_sub pe_int (pe_ix (ix_listK K rfl) (pe_ix (ix_listK K rfl) (pv 1) (pv 5) (fun _ _ => rfl)) (pv 4) (fun _ _ => rfl))) (pg_sub (pe_ix (ix_listK K rfl) (pv 1) (pv 5) (fun _ _ => rfl)) (pv 4) set_list)))))) fun _ _ => cutE (ps_ret (pv 1)) fun _ _ => ?_
    walk_at "rd"
    refine ⟨⟨_, SqL.of hl⟩, fun lt nlt => ?_⟩
    refine compW_listN (fun i b H' => ∀ r, rows[i]? = some r → H' b = some (.lst (r.map V.int))) (SqL.of hl) (by omega) nlt (fun i b Ha Hb sb hb q r hr => sb _ _ (q r hr) hb) (fun i x o H' Q' hx s1 q => ?_) (fun as H1 s1 e1 la nd hR => ?_)
    · have hi : i < rows.length := by rw [← lx]; exact (List.getElem?_eq_some_iff.mp hx).1
      obtain ⟨a, rfl, ha⟩ := it i x _ hx (List.getElem?_eq_getElem hi)
      walk_at "rd"
      refine rd_listL (s1 _ _ ha) fun u nu => ?_
      exact q u _ (Same.new nu) nu ⟨_, upd_same⟩ fun r hr => by rw [List.getElem?_eq_getElem hi] at hr; cases hr; exact upd_same
    · have tf := copyF lx nlt e1 la nd hR
      walk_at "rd"
      refine ⟨m, rfl, by omega, by omega, ?_⟩
      rw [Int.toNat_natCast]
      refine forW_range (fun i σ' H' => ∃ (o3 o4 o5 : Option V) (rows' : List (List Int)), σ' = [some (.ref ls), some (.ref lt), some (.int m), o3, o4, o5] ∧ Same H H' ∧ TblF H H' lt rows' ∧ GoodT rows' ∧ wdT rows' = wdT rows ∧ rows'.length = rows.length ∧ bitsT rows' = true) ⟨none, none, none, rows, rfl, s1, tf, g, rfl, rfl, b⟩ ?_ ?_
      · rintro i σ' H2 hi ⟨o3, o4, o5, rows', rfl, s2, tf2, gg, ew, el, bb⟩
        rw [Int.zero_add]
        have tb2 := tf2.tbl
        obtain ⟨xs2, hl2, lx2, _⟩ := tbl_at tb2
        obtain ⟨xs1, a1, q1, q2, q3⟩ := tb2.row (i := 0) (by omega) (by omega)
        rw [show (0 : Int).toNat = 0 from rfl] at q3
        have hls2 := s2 _ _ hls
        walk_at "rd"
        refine rd_I (.inl ⟨by decide, by decide⟩) ?_
        walk_at "rd"
        refine rd_ixL (SqL.of hls2) (atI_ints (by omega) (by omega)) ?_
        walk_at "rd"
        refine rd_ixL (SqL.of q1) q2 ?_
        walk_at "rd"
        refine rd_lenL q3 ?_
        rw [List.length_map, show (rows'.getD 0 []).length = wdT rows' from rfl, ew]
        walk_at "rd"
        refine rd_I (show (0 : Int) < ((wdT rows : Nat) : Int) by omega) ?_
        walk_at "rd"
        refine rd_I (.inl ⟨by decide, by decide⟩) ?_
        walk_at "rd"
        refine rd_ixL (SqL.of hls2) (atI_ints (by omega) (by omega)) ?_
        walk_at "rd"
        refine rd_lenL hl2 ?_
        rw [lx2, el]
        walk_at "rd"
        refine rd_I (show (0 : Int) < ((rows.length : Nat) : Int) by omega) ?_
        generalize zs.getD (2 * ((i : Nat) : Int)).toNat 0 = z1
        generalize zs.getD (2 * ((i : Nat) : Int) + 1).toNat 0 = z2
        have p0 := Int.emod_nonneg z1 (show ((wdT rows : Nat) : Int) ≠ 0 by omega)
        have p1 := Int.emod_lt_of_pos z1 (show (0 : Int) < (wdT rows : Nat) by omega)
        obtain ⟨x, hx, xl⟩ : ∃ x : Nat, z1 % ((wdT rows : Nat) : Int) = x ∧ x < wdT rows := ⟨(z1 % ((wdT rows : Nat) : Int)).toNat, by omega, by omega⟩
        have p2 := Int.emod_nonneg z2 (show ((rows.length : Nat) : Int) ≠ 0 by omega)
        have p3 := Int.emod_lt_of_pos z2 (show (0 : Int) < (rows.length : Nat) by omega)
        obtain ⟨y, hy, yl⟩ : ∃ y : Nat, z2 % ((rows.length : Nat) : Int) = y ∧ y < rows.length := ⟨(z2 % ((rows.length : Nat) : Int)).toNat, by omega, by omega⟩
        rw [hx, hy]
        obtain ⟨w1, b1⟩ := goodT_row gg bb (show y < rows'.length by omega)
        obtain ⟨as, a, f1, f2, f3, f4, f5, f6⟩ := tf2.set (i := y) (by omega) ((rows'.getD y []).set x (1 - (rows'.getD y []).getD x 0))
        walk_at "rd"
        refine rd_ixL (SqL.of f1) (atI_nat f2) ?_
        walk_at "rd"
        refine rd_ixL (SqL.of f3) (atI_ints (i := ((x : Nat) : Int)) (by omega) (by omega)) ?_
        rw [Int.toNat_natCast]
        walk_at "rd"
        refine rd_ixL (SqL.of f1) (atI_nat f2) ?_
        walk_at "rd"
        refine rd_setl f3 (ixN_of (by rw [List.length_map]; omega)) ?_
        rw [← List.map_set]
        obtain ⟨h1, h2, h3⟩ := goodT_set gg (show y < rows'.length by omega) (r' := (rows'.getD y []).set x (1 - (rows'.getD y []).getD x 0)) (by rw [List.length_set]; exact w1)
        walk_at "rd"
        refine ⟨_, _, _, _, rfl, fun c o e => ?_, f6, h1, by rw [h2]; exact ew, by rw [h3]; exact el, bitsT_set bb fun z hz => ?_⟩
        · rw [upd_ne (ne_of_none e f4)]; exact s2 _ _ e
        · rcases List.mem_or_eq_of_mem_set hz with h | h
          · exact b1 z h
          · have := getD_bit b1 x; omega
      · rintro σ' H2 ⟨o3, o4, o5, rows', rfl, s2, tf2, gg, ew, el, bb⟩
        walk_at "rd"
        exact k lt rows' H2 s2 tf2 gg ew el bb
end


section
variable {P : Program} {w : World} {K : PySem.W.Frag} {mg : Str → Option Value} {base : Heap} {t : Ad}
def Scal (d : PyData) : Prop := (∃ i, d = .int i) ∨ (∃ b, d = .bool b) ∨ d = .none
def OkS (S : PyData → Prop) (d : PyData) : Prop := Scal d ∨ (∃ ds, d = .list ds ∧ ds.length ≤ 5000 ∧ ∀ e ∈ ds, S e) ∨ ∃ ds, d = .tuple ds ∧ ds.length ≤ 5000 ∧ ∀ e ∈ ds, S e
def sp_same (S : PyData → Prop) : Sp := fun vs H Q _ => ∃ (x y : V) (d : PyData), vs = [x, y] ∧ S d ∧ Rep H d x ∧ Rep H d y ∧ ∀ H', Same H H' → Q (.bl true) H'
theorem same_step {S : PyData → Prop} {n : Nat} (T : Txt K mg t) (G_Lsame : FnOk P w K mg base CX0 n t.f_Lsame t.d_Lsame ["_law_told", "_law_due_here"] (sp_same S)) : FnOk P w K mg base CX0 (n + 1) t.f_Lsame t.d_Lsame ["_law_told", "_law_due_here"] (sp_same (OkS S)) := by
  refine T.F_Lsame.ok sc_Lsame (fun vs H Q E h => ?_) (fun cdv A outer s H vs Q E hr h => ?_)
  · obtain ⟨x, y, d, rfl, _⟩ := h; rfl
  · obtain ⟨x, y, d, rfl, ok, rx, ry, k⟩ := h
    refine cutC (ps_if (PW.pt (pw_or (pt_cmpR op_ne (pe_callB (cI_isinstK K rfl) rfl T.no_isinstance (by rfl) (pa_cons (pv 0) (pa_cons (pe_bltn (v := .ty "bool") rfl T.no_bool (by rfl : bootBuiltins "bool" = some (.type "bool")) rfl) pa_nil))) (pe_callB (cI_isinstK K rfl) rfl T.no_isinstance (by rfl) (pa_cons (pv 1) (pa_cons (pe_bltn (v := .ty "bool") rfl T.no_bool (by rfl : bootBuiltins "bool" = some (.type "bool")) rfl) pa_nil))) (nomark _)) (pw_or1 (pt_cmpR op_ne (pe_callB (cI_isinstK K rfl) rfl T.no_isinstance (by rfl) (pa_cons (pv 0) (pa_cons (pe_bltn (v := .ty "int") rfl T.no_int (by rfl : bootBuiltins "int" = some (.type "int")) rfl) pa_nil))) (pe_callB (cI_isinstK K rfl) rfl T.no_isinstance (by rfl) (pa_cons (pv 1) (pa_cons (pe_bltn (v := .ty "int") rfl T.no_int (by rfl : bootBuiltins "int" = some (.type "int")) rfl) pa_nil))) (nomark _))))) (pss_one (ps_ret pe_bl)) pss_nil) fun _ _ => cutC (ps_if (PW.pt (pw_or (pt_cmpR op_ne (pe_callB (cI_isinstK K rfl) rfl T.no_isinstance (by rfl) (pa_cons (pv 0) (pa_cons (pe_bltn (v := .ty "list") rfl T.no_list (by rfl : bootBuiltins "list" = some (.type "list")) rfl) pa_nil))) (pe_callB (cI_isinstK K rfl) rfl T.no_isinstance (by rfl) (pa_cons (pv 1) (pa_cons (pe_bltn (v := .ty "list") rfl T.no_list (by rfl : bootBuiltins "list" = some (.type "list")) rfl) pa_nil))) (nomark _)) (pw_or1 (pt_cmpR op_ne (pe_callB (cI_isinstK K rfl) rfl T.no_isinstance (by rfl) (pa_cons (pv 0) (pa_cons (pe_bltn (v := .ty "tuple") rfl T.no_tuple (by rfl : bootBuiltins "tuple" = some (.type "tuple")) rfl) pa_nil))) (pe_callB (cI_isinstK K rfl) rfl T.no_isinstance (by rfl) (pa_cons (pv 1) (pa_cons (pe_bltn (v := .ty "tuple") rfl T.no_tuple (by rfl : bootBuiltins "tuple" = some (.type "tuple")) rfl) pa_nil))) (nomark _))))) (pss_one (ps_ret pe_bl)) pss_nil) fun _ _ => cutC (ps_if (PW.pt (pw_and (pt_not (pt_val (pe_callB (cI_isinstK K rfl) rfl T.no_isinstance (by rfl) (pa_cons (pv 1) (pa_cons (pe_bltn (v := .ty "list") rfl T.no_list (by rfl : bootBuiltins "list" = some (.type "list")) rfl) pa_nil))))) (pw_and1 (pt_not (pt_val (pe_callB (cI_isinstK K rfl) rfl T.no_isinstance (by rfl) (pa_cons (pv 1) (pa_cons (pe_bltn (v := .ty "tuple") rfl T.no_tuple (by rfl : bootBuiltins "tuple" = some (.type "tuple")) rfl) pa_nil)))))))) (pss_one (ps_ret (pe_and (pe_cmpR op_eq (pe_callB (cI_isinstK K rfl) rfl T.no_isinstance (by rfl) (pa_cons (pv 0) (pa_cons (pe_bltn (v := .ty "str") rfl T.no_str (by rfl : bootBuiltins "str" = some (.type "str")) rfl) pa_nil))) (pe_callB (cI_isinstK K rfl) rfl T.no_isinstance (by rfl) (pa_cons (pv 1) (pa_cons (pe_bltn (v := .ty "str") rfl T.no_str (by rfl : bootBuiltins "str" = some (.type "str")) rfl) pa_nil))) (nomark _)) (pe_one (pe_cmpR (op_eqD hr.units) (pv 0) (pv 1) (nomark _)))))) pss_nil) fun _ _ => cutE (ps_ret (pe_and (pe_cmpR op_eq (pe_callB (cI_lenK K rfl) rfl T.no_len (by rfl) (pa_cons (pv 0) pa_nil)) (pe_callB (cI_lenK K rfl) rfl T.no_len (by rfl) (pa_cons (pv 1) pa_nil)) (nomark _)) (pe_one (pe_callB (cI_allK K rfl rfl) rfl T.no_all (by rfl) (pa_cons (pe_comp (N := ["_law_one", "_law_other"]) (cap := [none, none]) rfl ⟨rfl, rfl, rfl, rfl, rfl, rfl⟩ (pi_zipS rfl T.no_zip (pa_cons (pv 0) (pa_cons (pv 1) pa_nil))) (fun _ _ _ => (pg_tupK (n := 2) K rfl rfl (pgs_cons (pg_name (i := 0) (show (["_law_one", "_law_other"] : List Str).Nodup by decide +kernel) rfl (Or.inl rfl)) (pgs_cons (pg_name (i := 1) (show (["_law_one", "_law_other"] : List Str).Nodup by decide +kernel) rfl (Or.inl rfl)) pgs_nil)))) (fun _ _ _ => pts_nil) (fun _ _ _ => (pe_call G_Lsame (hr.mono (by first | decide | omega)) rfl T.mg_Lsame T.F_Lsame.kp T.b_Lsame .nil pass0 (pa_cons (pv 0) (pa_cons (pv 1) pa_nil))))) pa_nil))))) fun _ _ => ?_
    walk_at "rd"
    refine rd_isi rx.ty (kit_bool d) ?_
    walk_at "rd"
    refine rd_isi ry.ty (kit_bool d) ?_
    walk_at "rd"
    rw [decide_eq_true rfl]
    walk_at "rd"
    refine rd_isi rx.ty (kit_int d) ?_
    walk_at "rd"
    refine rd_isi ry.ty (kit_int d) ?_
    walk_at "rd"
    rw [decide_eq_true rfl]
    walk_at "rd"
    refine rd_isi rx.ty (kit_list d) ?_
    walk_at "rd"
    refine rd_isi ry.ty (kit_list d) ?_
    walk_at "rd"
    rw [decide_eq_true rfl]
    walk_at "rd"
    refine rd_isi rx.ty (kit_tuple d) ?_
    walk_at "rd"
    refine rd_isi ry.ty (kit_tuple d) ?_
    walk_at "rd"
    rw [decide_eq_true rfl]
    walk_at "rd"
    refine rd_isi ry.ty (kit_list d) ?_
    walk_at "rd"
    rcases ok with sc | ⟨ds, rfl, hl, hS⟩ | ⟨ds, rfl, hl, hS⟩
    · have e1 : isD "list" d = false := by rcases sc with ⟨i, rfl⟩ | ⟨b, rfl⟩ | rfl <;> simp [isD]
      have e2 : isD "tuple" d = false := by rcases sc with ⟨i, rfl⟩ | ⟨b, rfl⟩ | rfl <;> simp [isD]
      rw [e1]
      walk_at "rd"
      refine rd_isi ry.ty (kit_tuple d) ?_
      rw [e2]
      walk_at "rd"
      refine rd_isi rx.ty (kit_str d) ?_
      walk_at "rd"
      refine rd_isi ry.ty (kit_str d) ?_
      walk_at "rd"
      rw [decide_eq_true rfl]
      walk_at "rd"
      have sd : SeqAt.shaped d = true := by rcases sc with ⟨i, rfl⟩ | ⟨b, rfl⟩ | rfl <;> rfl
      refine ⟨d, d, rx, ry, sd, sd, ?_⟩
      have e3 : PyData.eqv d d = true := by rcases sc with ⟨i, rfl⟩ | ⟨b, rfl⟩ | rfl <;> simp [PyData.eqv]
      rw [e3]
      exact k _ (Same.refl _)
    · have e1 : isD "list" (.list ds) = true := by simp [isD]
      rw [e1]
      simp only [Rep] at rx ry
      obtain ⟨a, xs, rfl, ha, ra⟩ := rx
      obtain ⟨b, ys, rfl, hb, rb⟩ := ry
      obtain ⟨l1, g1⟩ := repL_get ra
      obtain ⟨l2, g2⟩ := repL_get rb
      walk_at "rd"
      refine rd_lenL ha ?_
      walk_at "rd"
      refine rd_lenL hb ?_
      walk_at "rd"
      rw [decide_eq_true (by omega : (xs.length : Int) = ys.length)]
      walk_at "rd"
      refine ⟨a, b, rfl, .inl ⟨⟨_, SqL.of ha⟩, ⟨_, SqL.of hb⟩, fun l hn => ?_⟩⟩
      refine compW_zip5 (fun _ => .bl true) ha hb (by omega) (by omega) hn (fun i x y H' Q' ex ey s1 q => ?_) (fun H' s1 e => ?_)
      · walk_at "rd"
        obtain ⟨d, hd, rd⟩ := g1 i x ex
        obtain ⟨d', hd', rd'⟩ := g2 i y ey
        rw [hd] at hd'
        cases hd'
        exact ⟨x, y, d, rfl, hS d (List.mem_of_getElem? hd), rd.mono s1, rd'.mono s1, q⟩
      · walk_at "rd"
        have e' : H' l = some (.lst (((List.range xs.length).map fun _ => true).map V.bl)) := by rw [e, List.map_map]; rfl
        refine rd_all e' ?_
        have e4 : ((List.range xs.length).map fun _ => true).all id = true := by simp
        rw [e4]
        exact k H' s1
    · have e1 : isD "list" (.tuple ds) = false := by simp [isD]
      have e2 : isD "tuple" (.tuple ds) = true := by simp [isD]
      rw [e1]
      walk_at "rd"
      refine rd_isi ry.ty (kit_tuple _) ?_
      rw [e2]
      simp only [Rep] at rx ry
      obtain ⟨a, xs, rfl, ha, ra⟩ := rx
      obtain ⟨b, ys, rfl, hb, rb⟩ := ry
      obtain ⟨l1, g1⟩ := repL_get ra
      obtain ⟨l2, g2⟩ := repL_get rb
      walk_at "rd"
      refine rd_lenT ha ?_
      walk_at "rd"
      refine rd_lenT hb ?_
      walk_at "rd"
      rw [decide_eq_true (by omega : (xs.length : Int) = ys.length)]
      walk_at "rd"
      refine ⟨a, b, rfl, .inr ⟨⟨_, SqT.of ha⟩, ⟨_, SqT.of hb⟩, fun l hn => ?_⟩⟩
      refine compW_zipT5 (fun _ => .bl true) ha hb (by omega) (by omega) hn (fun i x y H' Q' ex ey s1 q => ?_) (fun H' s1 e => ?_)
      · walk_at "rd"
        obtain ⟨d, hd, rd⟩ := g1 i x ex
        obtain ⟨d', hd', rd'⟩ := g2 i y ey
        rw [hd] at hd'
        cases hd'
        exact ⟨x, y, d, rfl, hS d (List.mem_of_getElem? hd), rd.mono s1, rd'.mono s1, q⟩
      · walk_at "rd"
        have e' : H' l = some (.lst (((List.range xs.length).map fun _ => true).map V.bl)) := by rw [e, List.map_map]; rfl
        refine rd_all e' ?_
        have e4 : ((List.range xs.length).map fun _ => true).all id = true := by simp
        rw [e4]
        exact k H' s1
/-- data five deep -/
def Ok5 : PyData → Prop := OkS (OkS (OkS (OkS (OkS fun _ => False))))
theorem ok_Lsame (T : Txt K mg t) : FnOk P w K mg base CX0 5 t.f_Lsame t.d_Lsame ["_law_told", "_law_due_here"] (sp_same Ok5) :=
  same_step T (same_step T (same_step T (same_step T (same_step T ⟨fun vs H Q E h => (by obtain ⟨_, _, _, _, h, _⟩ := h; exact h.elim), fun A outer s H args us vs Q E _ _ _ _ h => (by obtain ⟨_, _, _, _, h, _⟩ := h; exact h.elim)⟩))))
theorem okS_int {S : PyData → Prop} (i : Int) : OkS S (.int i) := .inl (.inl ⟨i, rfl⟩)
end

section
variable {P : Program} {w : World} {K : PySem.W.Frag} {mg : Str → Option Value} {base : Heap} {t : Ad}
/-! what is told of a refusal -/
def dueW : List Str := ["BadSize", "BadBit", "NoCell", "NoLine", "NoStep", "NoPoint"]
def dueL (nm : Str) : List Bool := dueW.map (fun x => decide (x = nm)) ++ [true]
/-- C is the class of that name -/
structure Cls6 (K : PySem.W.Frag) (t : Ad) (C : Addr) (nm : Str) : Prop where
  xi : ExcIn K C
  ct : PySem.W.exmOne K (.ref C) (.ref t.a_SewError) = some true
  k1 : PySem.W.kitOne K (.ref C) (.ref t.a_BadSize) = some (decide (("BadSize" : Str) = nm))
  k2 : PySem.W.kitOne K (.ref C) (.ref t.a_BadBit) = some (decide (("BadBit" : Str) = nm))
  k3 : PySem.W.kitOne K (.ref C) (.ref t.a_NoCell) = some (decide (("NoCell" : Str) = nm))
  k4 : PySem.W.kitOne K (.ref C) (.ref t.a_NoLine) = some (decide (("NoLine" : Str) = nm))
  k5 : PySem.W.kitOne K (.ref C) (.ref t.a_NoStep) = some (decide (("NoStep" : Str) = nm))
  k6 : PySem.W.kitOne K (.ref C) (.ref t.a_NoPoint) = some (decide (("NoPoint" : Str) = nm))
  kv : PySem.W.kitOne K (.ref C) (.type "ValueError") = some true
def sp_Lmarks (K : PySem.W.Frag) (t : Ad) : Sp := fun vs H Q _ => ∃ (e C : Addr) (nm : Str), vs = [.ref e] ∧ H e = some (ExcO e C) ∧ Cls6 K t C nm ∧ ∀ l, H l = none → Q (.ref l) (upd H l (.lst ((dueL nm).map V.bl)))
theorem okq_Lmarks (T : Txt K mg t) : FnOkQ P w K mg base 1 t.f_Lmarks t.d_Lmarks ["_law_e"] (sp_Lmarks K t) := by
  refine T.F_Lmarks.okQ sc_Lmarks (fun vs H Q E h => ?_) (fun cdv A outer s H vs Q E hr h => ?_)
  · obtain ⟨e, C, nm, rfl, _⟩ := h; rfl
  · obtain ⟨e, C, nm, rfl, he, c, k⟩ := h
    refine ⟨_, (pss_one (ps_ret (pe_lst (pa_cons (pe_callB (cI_isinstXK K rfl) rfl T.no_isinstance (by rfl) (pa_cons (pv 0) (pa_cons (pe_glob (v := .ref _) rfl T.mg_BadSize rfl) pa_nil))) (pa_cons (pe_callB (cI_isinstXK K rfl) rfl T.no_isinstance (by rfl) (pa_cons (pv 0) (pa_cons (pe_glob (v := .ref _) rfl T.mg_BadBit rfl) pa_nil))) (pa_cons (pe_callB (cI_isinstXK K rfl) rfl T.no_isinstance (by rfl) (pa_cons (pv 0) (pa_cons (pe_glob (v := .ref _) rfl T.mg_NoCell rfl) pa_nil))) (pa_cons (pe_callB (cI_isinstXK K rfl) rfl T.no_isinstance (by rfl) (pa_cons (pv 0) (pa_cons (pe_glob (v := .ref _) rfl T.mg_NoLine rfl) pa_nil))) (pa_cons (pe_callB (cI_isinstXK K rfl) rfl T.no_isinstance (by rfl) (pa_cons (pv 0) (pa_cons (pe_glob (v := .ref _) rfl T.mg_NoStep rfl) pa_nil))) (pa_cons (pe_callB (cI_isinstXK K rfl) rfl T.no_isinstance (by rfl) (pa_cons (pv 0) (pa_cons (pe_glob (v := .ref _) rfl T.mg_NoPoint rfl) pa_nil))) (pa_cons (pe_callB (cI_isinstXK K rfl) rfl T.no_isinstance (by rfl) (pa_cons (pv 0) (pa_cons (pe_bltn (v := .ty "ValueError") rfl T.no_ValueError (by rfl : bootBuiltins "ValueError" = some (.type "ValueError")) rfl) pa_nil))) pa_nil)))))))))), ?_⟩
    walk_at "rd"
    refine rd_isiX he c.xi c.k1 ?_
    walk_at "rd"
    refine rd_isiX he c.xi c.k2 ?_
    walk_at "rd"
    refine rd_isiX he c.xi c.k3 ?_
    walk_at "rd"
    refine rd_isiX he c.xi c.k4 ?_
    walk_at "rd"
    refine rd_isiX he c.xi c.k5 ?_
    walk_at "rd"
    refine rd_isiX he c.xi c.k6 ?_
    walk_at "rd"
    refine rd_isiXT he c.xi c.kv ?_
    walk_at "rd"
    exact ⟨by show 7 ≤ sizeLine; decide, k⟩
def sp_Ldue : Sp := fun vs H Q _ => ∃ (nm : Str), vs = [.str nm] ∧ ∀ l H', Same H H' → H' l = some (.lst ((dueL nm).map V.bl)) → Q (.ref l) H'
theorem ok_Ldue (T : Txt K mg t) : FnOk P w K mg base CX0 1 t.f_Ldue t.d_Ldue ["_law_word"] sp_Ldue := by
  refine T.F_Ldue.ok sc_Ldue (fun vs H Q E h => ?_) (fun cdv A outer s H vs Q E hr h => ?_)
  · obtain ⟨nm, rfl, _⟩ := h; rfl
  · obtain ⟨nm, rfl, k⟩ := h
    refine ⟨_, (pss_cons (ps_set (i := 1) sc_Ldue.nd rfl (Or.inl rfl) (pe_lst (pa_cons pe_str (pa_cons pe_str (pa_cons pe_str (pa_cons pe_str (pa_cons pe_str (pa_cons pe_str pa_nil)))))))) (pss_one (ps_ret (pe_op op_cat (pe_comp (N := ["_law_one", "_law_word"]) (cap := [none, some 0]) rfl ⟨rfl, rfl, rfl, rfl, rfl, rfl⟩ (pi_list (pv 1)) (fun _ _ _ => (pg_name (i := 0) (show (["_law_one", "_law_word"] : List Str).Nodup by decide +kernel) rfl (Or.inl rfl))) (fun _ _ _ => pts_nil) (fun _ _ _ => (pe_cmpR op_eq (pv 0) (pv 1) (nomark _)))) (pe_lst (pa_cons pe_bl pa_nil)))))), ?_⟩
    walk_at "rd"
    refine ⟨by show 6 ≤ sizeLine; decide, fun l1 n1 => ?_⟩
    have e0 : [V.str "BadSize", V.str "BadBit", V.str "NoCell", V.str "NoLine", V.str "NoStep", V.str "NoPoint"] = dueW.map V.str := rfl
    rw [e0]
    have s1 := Same.new (o := HO.lst (dueW.map V.str)) n1
    walk_at "rd"
    refine ⟨⟨_, SqL.of upd_same⟩, fun l2 n2 => ?_⟩
    refine compW_list (fun v => match v with | .str x => .bl (decide (x = nm)) | _ => .non) (SqL.of upd_same) (by rw [List.length_map]; decide) n2 (fun x o H' Q' hx s2 q => ?_) (fun H' s2 e2 => ?_)
    · obtain ⟨i, _, rfl⟩ := List.mem_map.mp hx
      walk_at "rd"
      exact q H' (Same.refl _)
    · walk_at "rd"
      refine ⟨by show 1 ≤ sizeLine; decide, fun l3 n3 => ?_⟩
      have s3 := Same.new (o := HO.lst [V.bl true]) n3
      rw [List.map_map] at e2
      refine rd_cat (s3 _ _ e2) upd_same (by rw [List.length_map]; show 6 + 1 ≤ sizeLine; decide) fun l4 n4 => ?_
      have s4 := Same.new (o := HO.lst ((dueL nm).map V.bl)) n4
      have e4 : dueW.map ((fun v => match v with | .str x => V.bl (decide (x = nm)) | _ => V.non) ∘ V.str) ++ [V.bl true] = (dueL nm).map V.bl := by
        unfold dueL
        rw [List.map_append, List.map_map]; rfl
      rw [e4]
      exact k l4 _ (s1.trans (s2.trans (s3.trans s4))) upd_same
end


section
variable {P : Program} {w : World} {K : PySem.W.Frag} {mg : Str → Option Value} {base : Heap} {t : Ad}
theorem Txt.c_BadSize (T : Txt K mg t) : Cls6 K t t.a_BadSize "BadSize" := ⟨T.xi_BadSize, T.cat_BadSize, T.kt_BadSize_BadSize, T.kt_BadSize_BadBit, T.kt_BadSize_NoCell, T.kt_BadSize_NoLine, T.kt_BadSize_NoStep, T.kt_BadSize_NoPoint, T.kv_BadSize⟩
theorem Txt.c_BadBit (T : Txt K mg t) : Cls6 K t t.a_BadBit "BadBit" := ⟨T.xi_BadBit, T.cat_BadBit, T.kt_BadBit_BadSize, T.kt_BadBit_BadBit, T.kt_BadBit_NoCell, T.kt_BadBit_NoLine, T.kt_BadBit_NoStep, T.kt_BadBit_NoPoint, T.kv_BadBit⟩
def sp_Ltried : Sp := fun vs H Q _ => ∃ (l : Addr) (rows : List (List Int)) (door : Int) (nm : Str), vs = [.ref l, .int door] ∧ TblAt H l rows ∧ rows.length ≤ 1000 ∧ (∀ r ∈ rows, r.length ≤ 1000) ∧ (door = 0 ∨ door = 1) ∧ ((¬ GoodT rows ∧ nm = "BadSize") ∨ (GoodT rows ∧ bitsT rows = false ∧ nm = "BadBit")) ∧
  ∀ l' H', Same H H' → H' l' = some (.lst ((dueL nm).map V.bl)) → Q (.ref l') H'
theorem ok_Ltried (T : Txt K mg t) : FnOk P w K mg base CX0 9 t.f_Ltried t.d_Ltried ["_law_table_here", "_law_door"] sp_Ltried := by
  have GX_evenblocks := okx_evenblocks (P := P) (w := w) (base := base) T
  have GX_clothof := okx_clothof (P := P) (w := w) (base := base) T
  have GQ_Lmarks := okq_Lmarks (P := P) (w := w) (base := base) T
  refine T.F_Ltried.ok sc_Ltried (fun vs H Q E h => ?_) (fun cdv A outer s H vs Q E hr h => ?_)
  · obtain ⟨l, rows, door, nm, rfl, _⟩ := h; rfl
  · obtain ⟨l, rows, door, nm, rfl, tb, lr, lw, hd, hn, k⟩ := h
    refine cutC (ps_set (i := 2) sc_Ltried.nd rfl (Or.inl rfl) (pe_lst pa_nil)) fun _ _ => cutC (ps_try (i := 3) sc_Ltried.nd rfl rfl rfl T.mg_SewError (fun _ _ => (pss_one (ps_if (pt_cmpR op_eq (pv 1) pe_int (nomark _)) (pss_one (ps_expr (pe_callS GX_evenblocks (hr.mono (by first | decide | omega)) rfl T.mg_evenblocks T.F_evenblocks.kp T.b_evenblocks .nil passT (pa_cons (pv 0) pa_nil)))) (pss_one (ps_expr (pe_callS GX_clothof (hr.mono (by first | decide | omega)) rfl T.mg_clothof T.F_clothof.kp T.b_clothof .nil passT (pa_cons (pv 0) pa_nil))))))) (fun _ => (pss_one (ps_set (i := 2) sc_Ltried.nd rfl (Or.inl rfl) (pe_callQ GQ_Lmarks (RoomQ.mark (RoomQ.mono hr.q (by first | decide | omega))) rfl T.mg_Lmarks T.F_Lmarks.kp T.b_Lmarks .nil (pa_cons (pv 3) pa_nil)))))) fun _ _ => cutE (ps_ret (pv 2)) fun _ _ => ?_
    walk_at "rd"
    refine ⟨by show 0 ≤ sizeLine; decide, fun l1 nl1 => ?_⟩
    have sl1 := Same.new (o := HO.lst []) nl1
    have el1 := upd_same (H := H) (a := l1) (o := HO.lst [])
    generalize upd H l1 (HO.lst []) = H1 at sl1 el1 ⊢
    have tb1 := tb.mono sl1
    walk_at "rd"
    rcases hd with rfl | rfl
    · rw [decide_eq_true (rfl : (0 : Int) = 0)]
      walk_at "rd"
      rcases hn with ⟨n, rfl⟩ | ⟨g, b, rfl⟩
      · refine ⟨l, rows, rfl, tb1, lr, lw, .inl ⟨n, fun H2 s2 => ⟨t.a_BadSize, rfl, T.cat_BadSize, fun e he => ?_⟩⟩⟩
        walk_at "rd"
        refine ⟨e, t.a_BadSize, _, rfl, upd_same, T.c_BadSize, fun l' hl => ?_⟩
        dsimp only [Dh]
        walk_at "rd"
        exact k l' _ (sl1.trans (s2.trans ((Same.new he).trans (Same.new hl)))) upd_same
      · refine ⟨l, rows, rfl, tb1, lr, lw, .inr ⟨g, b, fun H2 s2 => ⟨t.a_BadBit, rfl, T.cat_BadBit, fun e he => ?_⟩⟩⟩
        walk_at "rd"
        refine ⟨e, t.a_BadBit, _, rfl, upd_same, T.c_BadBit, fun l' hl => ?_⟩
        dsimp only [Dh]
        walk_at "rd"
        exact k l' _ (sl1.trans (s2.trans ((Same.new he).trans (Same.new hl)))) upd_same
    · rw [decide_eq_false (by decide : ¬ (1 : Int) = 0)]
      walk_at "rd"
      rcases hn with ⟨n, rfl⟩ | ⟨g, b, rfl⟩
      · refine ⟨l, rows, rfl, tb1, lr, lw, .inl ⟨n, fun H2 s2 => ⟨t.a_BadSize, rfl, T.cat_BadSize, fun e he => ?_⟩⟩⟩
        walk_at "rd"
        refine ⟨e, t.a_BadSize, _, rfl, upd_same, T.c_BadSize, fun l' hl => ?_⟩
        dsimp only [Dh]
        walk_at "rd"
        exact k l' _ (sl1.trans (s2.trans ((Same.new he).trans (Same.new hl)))) upd_same
      · refine ⟨l, rows, rfl, tb1, lr, lw, .inr ⟨g, b, fun H2 s2 => ⟨t.a_BadBit, rfl, T.cat_BadBit, fun e he => ?_⟩⟩⟩
        walk_at "rd"
        refine ⟨e, t.a_BadBit, _, rfl, upd_same, T.c_BadBit, fun l' hl => ?_⟩
        dsimp only [Dh]
        walk_at "rd"
        exact k l' _ (sl1.trans (s2.trans ((Same.new he).trans (Same.new hl)))) upd_same
theorem flat_rep (n : Nat) : (List.replicate n [V.int 0]).flatten = (List.replicate n (0 : Int)).map V.int := by
  induction n with
  | zero => rfl
  | succ n ih => rw [List.replicate_succ, List.flatten_cons, ih, List.replicate_succ]; rfl
/-- addresses with rows -/
def PwR (H : Hp) (as : List Addr) (rows : List (List Int)) : Prop := as.length = rows.length ∧ ∀ (i : Nat) a r, as[i]? = some a → rows[i]? = some r → H a = some (.lst (r.map V.int))
theorem PwR.mono {H H' : Hp} {as : List Addr} {rows : List (List Int)} (s : Same H H') (h : PwR H as rows) : PwR H' as rows := ⟨h.1, fun i a r e1 e2 => s _ _ (h.2 i a r e1 e2)⟩
theorem PwR.append {H : Hp} {as bs : List Addr} {rows qs : List (List Int)} (h : PwR H as rows) (h' : PwR H bs qs) : PwR H (as ++ bs) (rows ++ qs) := by
  refine ⟨by rw [List.length_append, List.length_append, h.1, h'.1], fun i v q e1 e2 => ?_⟩
  by_cases hi : i < as.length
  · rw [List.getElem?_append_left hi] at e1
    rw [List.getElem?_append_left (by rw [← h.1]; exact hi)] at e2
    exact h.2 i v q e1 e2
  · rw [List.getElem?_append_right (by omega)] at e1
    rw [List.getElem?_append_right (by rw [← h.1]; omega), ← h.1] at e2
    exact h'.2 _ v q e1 e2
theorem PwR.rep {H : Hp} {as : List Addr} {rows : List (List Int)} (h : PwR H as rows) : ∀ n, PwR H (List.replicate n as).flatten (List.replicate n rows).flatten
  | 0 => ⟨rfl, fun i a r e => by simp at e⟩
  | n + 1 => by
    rw [List.replicate_succ, List.replicate_succ, List.flatten_cons, List.flatten_cons]
    exact h.append (h.rep n)
theorem PwR.take {H : Hp} {as : List Addr} {rows : List (List Int)} (h : PwR H as rows) (n : Nat) : PwR H (as.take n) (rows.take n) := by
  refine ⟨by rw [List.length_take, List.length_take, h.1], fun i a r e1 e2 => ?_⟩
  rw [List.getElem?_take] at e1 e2
  by_cases hi : i < n
  · rw [if_pos hi] at e1 e2
    exact h.2 i a r e1 e2
  · rw [if_neg hi] at e1; cases e1
theorem PwR.tbl {H H' : Hp} {as : List Addr} {rows : List (List Int)} {l : Addr} (h : PwR H as rows) (s : Same H H') (nl : H l = none) (e : H' l = some (.lst (as.map V.ref))) : TblAt H' l rows :=
  ⟨as, e, h.1, fun i a r e1 e2 => ⟨ne_of_none (h.2 i a r e1 e2) nl, s _ _ (h.2 i a r e1 e2)⟩⟩
theorem tbl_pw {H : Hp} {l : Addr} {rows : List (List Int)} (h : TblAt H l rows) : ∃ as : List Addr, H l = some (.lst (as.map V.ref)) ∧ PwR H as rows := by
  obtain ⟨as, h1, h2, h3⟩ := h.ob
  exact ⟨as, h1, h2, fun i a r e1 e2 => (h3 i a r e1 e2).2⟩
theorem rep_map (n : Nat) (as : List Addr) : (List.replicate n (as.map V.ref)).flatten = ((List.replicate n as).flatten).map V.ref := by
  induction n with
  | zero => rfl
  | succ n ih => rw [List.replicate_succ, List.flatten_cons, ih, List.replicate_succ, List.flatten_cons, List.map_append]
def sp_Lmisshapen : Sp := fun vs H Q _ => ∃ (ls l : Addr) (zs : List Int) (rows : List (List Int)), vs = [.ref ls, .ref l] ∧ H ls = some (.lst (zs.map V.int)) ∧ TblAt H l rows ∧ GoodT rows ∧ 2 ≤ zs.length ∧
  ∀ lt rows' H', Same H H' → TblAt H' lt rows' → ¬ GoodT rows' → rows'.length ≤ 1000 → (∀ r ∈ rows', r.length ≤ 1000) → Q (.ref lt) H'
theorem ok_Lmisshapen (T : Txt K mg t) : FnOk P w K mg base CX0 1 t.f_Lmisshapen t.d_Lmisshapen ["_law_some", "_law_table_here"] sp_Lmisshapen := by
  refine T.F_Lmisshapen.ok sc_Lmisshapen (fun vs H Q E h => ?_) (fun cdv A outer s H vs Q E hr h => ?_)
  · obtain ⟨ls, l, zs, rows, rfl, _⟩ := h; rfl
  · obtain ⟨ls, l, zs, rows, rfl, hls, tb, g, lz, k⟩ := h
    obtain ⟨⟨g1, g2⟩, ⟨g3, g4⟩, g5⟩ := id g
    obtain ⟨xs, hl, lx, it⟩ := tbl_at tb
    refine cutC (ps_setC (i := 1) sc_Lmisshapen.nd rfl (Or.inl rfl) (N := ["_law_row_here"]) (cap := [none]) rfl ⟨rfl, rfl, rfl, rfl, rfl, rfl⟩ (pi_list (pv 1)) (fun _ _ _ => (pg_name (i := 0) (show (["_law_row_here"] : List Str).Nodup by decide +kernel) rfl (Or.inl rfl))) (fun _ _ _ => pts_nil) (fun _ _ _ => (pe_callTy (cI_listK K rfl) rfl T.no_list (by rfl) (pa_cons (pv 0) pa_nil))) (by rfl)) fun _ _ => cutC (ps_set (i := 2) sc_Lmisshapen.nd rfl (Or.inl rfl) (pe_op op_mod (pe_ix (ix_listK K rfl) (pv 0) pe_int (fun _ _ => rfl)) pe_int)) fun _ _ => cutC (ps_set (i := 3) sc_Lmisshapen.nd rfl (Or.inl rfl) (pe_op op_mod (pe_ix (ix_listK K rfl) (pv 0) pe_int (fun _ _ => rfl)) (pe_callB (cI_lenK K rfl) rfl T.no_len (by rfl) (pa_cons (pv 1) pa_nil)))) fun _ _ => cutC (ps_if (pt_cmpR op_eq (pv 2) pe_int (nomark _)) (pss_one (ps_ret (pe_lst pa_nil))) pss_nil) fun _ _ => cutC (ps_if (pt_cmpR op_eq (pv 2) pe_int (nomark _)) (pss_one (ps_ret (pe_comp (N := ["_law_row_here"]) (cap := [none]) rfl ⟨rfl, rfl, rfl, rfl, rfl, rfl⟩ (pi_list (pv 1)) (fun _ _ _ => (pg_name (i := 0) (show (["_law_row_here"] : List Str).Nodup by decide +kernel) rfl (Or.inl rfl))) (fun _ _ _ => pts_nil) (fun _ _ _ => (pe_op op_cat (pv 0) (pe_op op_rep (pe_lst (pa_cons pe_int pa_nil)) (pe_op op_sub pe_int (pe_callB (cI_lenK K rfl) rfl T.no_len (by rfl) (pa_cons (pv 0) pa_nil))))))))) pss_nil) fun _ _ => cutC (ps_if (pt_cmpR op_eq (pv 2) pe_int (nomark _)) (pss_one (ps_ret (pe_slice (sl_listK K rfl) (pe_op op_rep (pv 1) pe_int) po_none (po_some (pe_op op_add pe_int (pe_op op_mod (pe_ix (ix_listK K rfl) (pv 0) pe_int (fun _ _ => rfl)) pe_int)))))) pss_nil) fun _ _ => cutC (ps_if (pt_cmpR op_eq (pv 2) pe_int (nomark _)) (pss_cons (ps_asg (pe_lst pa_nil) (pg_sub (pv 1) (pv 3) set_list)) (pss_one (ps_ret (pv 1)))) pss_nil) fun _ _ => cutC (ps_asg (pe_op op_cat (pe_ix (ix_listK K rfl) (pv 1) (pv 3) (fun _ _ => rfl)) (pe_lst (pa_cons pe_int pa_nil))) (pg_sub (pv 1) (pv 3) set_list)) fun _ _ => cutE (ps_ret (pe_op op_cat (pv 1) (pe_lst (pa_cons (pe_op op_cat (pe_slice (sl_listK K rfl) (pe_ix (ix_listK K rfl) (pv 1) pe_int (fun _ _ => rfl)) po_none po_none) (pe_lst (pa_cons pe_int (pa_cons pe_int pa_nil)))) pa_nil)))) fun _ _ => ?_
    walk_at "rd"
    refine ⟨⟨_, SqL.of hl⟩, fun lt nlt => ?_⟩
    refine compW_listN (fun i b H' => ∀ r, rows[i]? = some r → H' b = some (.lst (r.map V.int))) (SqL.of hl) (by omega) nlt (fun i b Ha Hb sb hb q r hr => sb _ _ (q r hr) hb) (fun i x o H' Q' hx s1 q => ?_) (fun as H1 s1 e1 la nd hR => ?_)
    · have hi : i < rows.length := by rw [← lx]; exact (List.getElem?_eq_some_iff.mp hx).1
      obtain ⟨a, rfl, ha⟩ := it i x _ hx (List.getElem?_eq_getElem hi)
      walk_at "rd"
      refine rd_listL (s1 _ _ ha) fun u nu => ?_
      exact q u _ (Same.new nu) nu ⟨_, upd_same⟩ fun r hr => by rw [List.getElem?_eq_getElem hi] at hr; cases hr; exact upd_same
    · have tf := copyF lx nlt e1 la nd hR
      have hls1 := s1 _ _ hls
      have tb1 := tf.tbl
      obtain ⟨xs1, hl1, lx1, it1⟩ := tbl_at tb1
      walk_at "rd"
      refine rd_ixL (SqL.of hls1) (atI_ints (i := 0) (by decide) (by omega)) ?_
      walk_at "rd"
      refine rd_I (by decide) ?_
      walk_at "rd"
      refine rd_ixL (SqL.of hls1) (atI_ints (i := 1) (by decide) (by omega)) ?_
      walk_at "rd"
      refine rd_lenL hl1 ?_
      rw [lx1]
      walk_at "rd"
      refine rd_I (show (0 : Int) < ((rows.length : Nat) : Int) by omega) ?_
      generalize zs.getD (0 : Int).toNat 0 = z0
      generalize zs.getD (1 : Int).toNat 0 = z1
      have p2 := Int.emod_nonneg z1 (show ((rows.length : Nat) : Int) ≠ 0 by omega)
      have p3 := Int.emod_lt_of_pos z1 (show (0 : Int) < (rows.length : Nat) by omega)
      obtain ⟨y, hy, yl⟩ : ∃ y : Nat, z1 % ((rows.length : Nat) : Int) = y ∧ y < rows.length := ⟨(z1 % ((rows.length : Nat) : Int)).toNat, by omega, by omega⟩
      rw [hy]
      walk_at "rd"
      by_cases c0 : z0 % 5 = 0
      · rw [decide_eq_true c0]
        walk_at "rd"
        refine ⟨by show 0 ≤ sizeLine; decide, fun l0 nl0 => ?_⟩
        have sl0 := Same.new (o := HO.lst []) nl0
        have el0 := upd_same (H := H1) (a := l0) (o := HO.lst [])
        generalize upd H1 l0 (HO.lst []) = H2 at sl0 el0 ⊢
        exact k l0 [] H2 (s1.trans sl0) ⟨[], el0, rfl, fun i a r e => by simp at e⟩ (fun g => absurd g.1.1 (by decide)) (by decide) (fun r h => nomatch h)
      rw [decide_eq_false c0]
      walk_at "rd"
      by_cases c1 : z0 % 5 = 1
      · rw [decide_eq_true c1]
        walk_at "rd"
        refine ⟨⟨_, SqL.of hl1⟩, fun l2 n2 => ?_⟩
        refine compW_listN (fun i b H' => ∀ r, rows[i]? = some r → H' b = some (.lst ((r ++ List.replicate (41 - r.length) (0 : Int)).map V.int))) (SqL.of hl1) (by omega) n2 (fun i b Ha Hb sb hb q r hr => sb _ _ (q r hr) hb) (fun i x o H' Q' hx s2 q => ?_) (fun as2 H2 s2 e2 la2 nd2 hR2 => ?_)
        · have hi : i < rows.length := by rw [← lx1]; exact (List.getElem?_eq_some_iff.mp hx).1
          have er := List.getElem?_eq_getElem hi
          have em := g5 _ (List.getElem_mem hi)
          obtain ⟨a, rfl, ha⟩ := it1 i x _ hx er
          generalize rows[i] = r at er ha em
          walk_at "rd"
          refine ⟨by show 1 ≤ sizeLine; decide, fun u0 nu0 => ?_⟩
          have su0 := Same.new (o := HO.lst [V.int 0]) nu0
          have eu0 := upd_same (H := H') (a := u0) (o := HO.lst [V.int 0])
          generalize upd H' u0 (HO.lst [V.int 0]) = H3 at su0 eu0 ⊢
          walk_at "rd"
          refine rd_lenL (su0 _ _ (s2 _ _ ha)) ?_
          rw [List.length_map]
          walk_at "rd"
          refine rd_repS eu0 (by omega) (by omega) (Nat.le_of_lt (small1000 (by show 1 * (41 - ((r.length : Nat) : Int)).toNat ≤ 1000; omega))) fun u1 H4 s4 n4 e4 => ?_
          rw [flat_rep, show (41 - ((r.length : Nat) : Int)).toNat = 41 - r.length by omega] at e4
          refine rd_catS (s4 _ _ (su0 _ _ (s2 _ _ ha))) e4 (by rw [List.length_map, List.length_map, List.length_replicate]; exact Nat.le_of_lt (small1000 (by omega))) fun u2 H5 s5 n5 e5 => ?_
          rw [← List.map_append] at e5
          refine q u2 H5 (su0.trans (s4.trans s5)) ?_ ⟨_, e5⟩ fun r' hr' => by rw [er] at hr'; cases hr'; exact e5
          exact su0.free (s4.free n5)
        · have pw2 : TblAt H2 l2 (rows.map fun r => r ++ List.replicate (41 - r.length) (0 : Int)) := ⟨as2, e2, by rw [List.length_map, la2, lx1], fun i a r h1 h2 => by
            rw [List.getElem?_map] at h2
            obtain ⟨r0, h0, rfl⟩ := Option.map_eq_some_iff.mp h2
            exact ⟨(hR2 i a h1).1, (hR2 i a h1).2.2 r0 h0⟩⟩
          walk_at "rd"
          refine k l2 _ H2 (s1.trans s2) pw2 (fun gg => ?_) (by rw [List.length_map]; omega) fun r hr => ?_
          · have := gg.2.1.2
            unfold wdT at this
            rw [List.getD_eq_getElem?_getD, List.getElem?_map, List.getElem?_eq_getElem g1] at this
            have e : (rows[0] ++ List.replicate (41 - rows[0].length) (0 : Int)).length < 41 := this
            rw [List.length_append, List.length_replicate] at e
            omega
          · obtain ⟨r0, h0, rfl⟩ := List.mem_map.mp hr
            have := g5 r0 h0
            rw [List.length_append, List.length_replicate]
            omega
      rw [decide_eq_false c1]
      walk_at "rd"
      obtain ⟨as1, ea1, pw1⟩ := tbl_pw tb1
      by_cases c2 : z0 % 5 = 2
      · rw [decide_eq_true c2]
        walk_at "rd"
        refine rd_repS ea1 (by decide) (by decide) (Nat.le_of_lt (small1000' (by rw [List.length_map, pw1.1]; show rows.length * 41 < 2000; omega))) fun u1 H4 s4 n4 e4 => ?_
        rw [show (41 : Int).toNat = 41 from rfl, rep_map] at e4
        walk_at "rd"
        refine rd_ixL (SqL.of (s4 _ _ hls1)) (atI_ints (i := 1) (by decide) (by omega)) ?_
        generalize zs.getD (1 : Int).toNat 0 = z1'
        walk_at "rd"
        refine rd_I (by decide) ?_
        walk_at "rd"
        refine rd_slS e4 fun u2 H5 s5 n5 e5 => ?_
        obtain ⟨q, hq, q3⟩ : ∃ q : Nat, (41 : Int) + z1' % 3 = q ∧ 41 ≤ q ∧ q ≤ 43 := ⟨((41 : Int) + z1' % 3).toNat, by omega, by omega, by omega⟩
        rw [hq, cutV_takeG, ← List.map_take] at e5
        have pwq := ((pw1.rep 41).take q).mono s4
        have lq : ((List.replicate 41 rows).flatten.take q).length = min q (41 * rows.length) := by rw [List.length_take, len_rep]
        refine k u2 _ H5 (s1.trans (s4.trans s5)) (pwq.tbl s5 n5 e5) (fun gg => ?_) (by rw [lq]; omega) fun r hr => ?_
        · have := gg.1.2
          rw [lq] at this
          omega
        · have hm := List.mem_of_mem_take hr
          obtain ⟨rr, h1, h2⟩ := List.mem_flatten.mp hm
          rw [(List.mem_replicate.mp h1).2] at h2
          have := g5 r h2
          omega
      rw [decide_eq_false c2]
      walk_at "rd"
      by_cases c3 : z0 % 5 = 3
      · rw [decide_eq_true c3]
        walk_at "rd"
        refine ⟨by show 0 ≤ sizeLine; decide, fun u0 nu0 => ?_⟩
        have su0 := Same.new (o := HO.lst []) nu0
        have eu0 := upd_same (H := H1) (a := u0) (o := HO.lst [])
        generalize upd H1 u0 (HO.lst []) = H2 at su0 eu0 ⊢
        obtain ⟨as2, f1, f2, f3⟩ := (tf.mono su0).put (i := y) yl (r' := []) (b := u0) eu0 (ne_of_none e1 nu0).symm
        walk_at "rd"
        refine rd_setl f1 (ixN_of (by rw [List.length_map]; omega)) ?_
        walk_at "rd"
        refine k lt _ _ (fun c o e => by rw [upd_ne (ne_of_none e nlt)]; exact su0 _ _ (s1 _ _ e)) f3 (fun gg => ?_) (by rw [List.length_set]; omega) fun r hr => ?_
        · have h0 : ([] : List Int) ∈ rows.set y [] := List.mem_of_getElem? (i := y) (by rw [List.getElem?_set, if_pos rfl, if_pos yl])
          have := gg.2.2 _ h0
          have := gg.2.1.1
          simp at *
          omega
        · rcases List.mem_or_eq_of_mem_set hr with h | h
          · have := g5 r h; omega
          · rw [h]; decide
      rw [decide_eq_false c3]
      walk_at "rd"
      obtain ⟨asF, aF, f1, f2, f3, _, _, _⟩ := tf.set (i := y) yl []
      refine rd_ixL (SqL.of f1) (atI_nat f2) ?_
      walk_at "rd"
      refine ⟨by show 1 ≤ sizeLine; decide, fun u0 nu0 => ?_⟩
      have su0 := Same.new (o := HO.lst [V.int 1]) nu0
      have eu0 := upd_same (H := H1) (a := u0) (o := HO.lst [V.int 1])
      generalize upd H1 u0 (HO.lst [V.int 1]) = H2 at su0 eu0 ⊢
      refine rd_catS (zs := [(1 : Int)].map V.int) (su0 _ _ f3) eu0 (by rw [List.length_map]; have := g5 (rows.getD y []) (by rw [List.getD_eq_getElem?_getD, List.getElem?_eq_getElem yl]; exact List.getElem_mem yl); exact Nat.le_of_lt (small1000 (by show (rows.getD y []).length + 1 ≤ 1000; omega))) fun u1 H3 s3 n3 e3 => ?_
      rw [← List.map_append] at e3
      have s13 := su0.trans s3
      have n31 : H1 u1 = none := su0.free n3
      obtain ⟨as2, h1, h2, h3⟩ := (tf.mono s13).put (i := y) yl (b := u1) e3 (ne_of_none e1 n31).symm
      walk_at "rd"
      refine rd_setl h1 (ixN_of (by rw [List.length_map]; omega)) ?_
      have wy := g5 (rows.getD y []) (by rw [List.getD_eq_getElem?_getD, List.getElem?_eq_getElem yl]; exact List.getElem_mem yl)
      generalize hrr : rows.getD y [] ++ [(1 : Int)] = rr at h3 e3 ⊢
      have lrr : rr.length = wdT rows + 1 := by rw [← hrr, List.length_append, wy]; rfl
      have hw : ∀ r ∈ rows.set y rr, r.length ≤ 42 := fun r hr => by
        rcases List.mem_or_eq_of_mem_set hr with h | h
        · have := g5 r h; omega
        · rw [h]; omega
      have sH : Same H (upd H3 lt (.lst ((as2.map V.ref).set y (.ref u1)))) := fun c o e => by rw [upd_ne (ne_of_none e nlt)]; exact s13 _ _ (s1 _ _ e)
      generalize upd H3 lt (.lst ((as2.map V.ref).set y (.ref u1))) = H4 at h3 sH ⊢
      have ls : (rows.set y rr).length = rows.length := List.length_set ..
      generalize rows.set y rr = rows4 at h3 hw ls ⊢
      obtain ⟨as4, ea4, pw4⟩ := tbl_pw h3
      walk_at "rd"
      obtain ⟨xs5, a5, q1, q2, q3⟩ := h3.row (i := 0) (by omega) (by omega)
      rw [show (0 : Int).toNat = 0 from rfl] at q3
      refine rd_ixL (SqL.of q1) q2 ?_
      walk_at "rd"
      refine rd_slS q3 fun u5 H5 s5 n5 e5 => ?_
      have ec : cutV ((rows4.getD 0 []).map V.int) none none = (rows4.getD 0 []).map V.int := by
        unfold cutV
        rw [HT.sIx_none, HT.sIx_none, List.drop_zero, Nat.sub_zero, List.take_of_length_le (Nat.le_refl _)]
      rw [ec] at e5
      have w0 : (rows4.getD 0 []).length ≤ 42 := hw _ (by rw [List.getD_eq_getElem?_getD, List.getElem?_eq_getElem (by omega)]; exact List.getElem_mem _)
      walk_at "rd"
      refine ⟨by show 2 ≤ sizeLine; decide, fun u6 nu6 => ?_⟩
      have su6 := Same.new (o := HO.lst [V.int 0, V.int 1]) nu6
      have eu6 := upd_same (H := H5) (a := u6) (o := HO.lst [V.int 0, V.int 1])
      generalize upd H5 u6 (HO.lst [V.int 0, V.int 1]) = H6 at su6 eu6 ⊢
      refine rd_catS (zs := [(0 : Int), 1].map V.int) (su6 _ _ e5) eu6 (by rw [List.length_map]; exact Nat.le_of_lt (small1000 (by show (rows4.getD 0 []).length + 2 ≤ 1000; omega))) fun u7 H7 s7 n7 e7 => ?_
      rw [← List.map_append] at e7
      walk_at "rd"
      refine ⟨by show 1 ≤ sizeLine; decide, fun u8 nu8 => ?_⟩
      have su8 := Same.new (o := HO.lst [V.ref u7]) nu8
      have eu8 := upd_same (H := H7) (a := u8) (o := HO.lst [V.ref u7])
      generalize upd H7 u8 (HO.lst [V.ref u7]) = H8 at su8 eu8 ⊢
      have s48 := s5.trans (su6.trans (s7.trans su8))
      refine rd_catS (s48 _ _ ea4) eu8 (by rw [List.length_map, pw4.1]; exact Nat.le_of_lt (small1000 (by show rows4.length + 1 ≤ 1000; omega))) fun u9 H9 s9 n9 e9 => ?_
      have pw9 : PwR H8 (as4 ++ [u7]) (rows4 ++ [rows4.getD 0 [] ++ [(0 : Int), 1]]) := (pw4.mono s48).append ⟨rfl, fun i a r i1 i2 => by
        cases i with
        | zero => simp only [List.getElem?_cons_zero, Option.some.injEq] at i1 i2; subst i1 i2; exact su8 _ _ e7
        | succ i => simp at i1⟩
      have e9' : H9 u9 = some (.lst ((as4 ++ [u7]).map V.ref)) := by rw [e9, List.map_append]; rfl
      refine k u9 _ H9 (sH.trans (s48.trans s9)) (pw9.tbl s9 n9 e9') (fun gg => ?_) (by rw [List.length_append]; show rows4.length + 1 ≤ 1000; omega) fun r hr => ?_
      · have h1 := gg.2.2 (rows4.getD 0 [] ++ [(0 : Int), 1]) (List.mem_append_right _ (List.mem_singleton.mpr rfl))
        have h2 : wdT (rows4 ++ [rows4.getD 0 [] ++ [(0 : Int), 1]]) = (rows4.getD 0 []).length := by
          unfold wdT
          rw [List.getD_eq_getElem?_getD, List.getElem?_append_left (by omega), ← List.getD_eq_getElem?_getD]
        rw [h2, List.length_append] at h1
        have : [(0 : Int), 1].length = 2 := rfl
        omega
      · rcases List.mem_append.mp hr with h | h
        · have := hw r h; omega
        · rw [List.mem_singleton.mp h, List.length_append]
          show (rows4.getD 0 []).length + 2 ≤ 1000
          omega
end


section
variable {K : PySem.W.Frag} {σ : L2.St} {H : Hp} {Q : VK} {te : TE} {cap : List (Option Nat)} {l : Addr}
theorem compW_rangeR2 {n : Nat} (R : Nat → V → Hp → Prop) (hz : n ≤ 1000) (hl : H l = none) (mono : ∀ i v H1 H2, SameBut l H1 H2 → R i v H1 → R i v H2)
    (step : ∀ i o H' (Q' : VK), i < n → Same H H' → (∃ ys : List V, H' l = some (.lst ys) ∧ ys.length = i ∧ ∀ (j : Nat) v, ys[j]? = some v → R j v H') → (∀ v H5, Same H' H5 → R i v H5 → Q' v H5) → te (((capS (none :: cap) σ).set 0 o).set 0 (some (.int ((0 : Int) + (i : Nat))))) H' Q')
    (fin : ∀ ys H', Same H H' → H' l = some (.lst ys) → ys.length = n → (∀ (i : Nat) v, ys[i]? = some v → R i v H') → Q (.ref l) H') : CompW (Itr 0 n) (gName 0) tTrue te (none :: cap) l σ H Q := by
  refine ⟨n, fun i ys σ' H' => ys.length = i ∧ (∀ (j : Nat) v, ys[j]? = some v → R j v H') ∧ (∃ o, σ' = (capS (none :: cap) σ).set 0 o) ∧ Same H H' ∧ H' l = some (.lst ys), ⟨rfl, fun j v e => by simp at e, ⟨none, rfl⟩, Same.new hl, upd_same⟩, ?_, ?_⟩
  · rintro i ys σ' H' hi ⟨ly, hR, ⟨o, rfl⟩, s, e⟩
    refine ⟨hi, fun x H2 y => ?_⟩
    obtain ⟨e2, rfl⟩ := y
    subst e2
    refine rd_name (rd_true (iteT ?_))
    refine step i o H2 _ hi s ⟨ys, e, ly, hR⟩ fun v H5 s5 r => ⟨s5 _ _ e, small1000 (by omega), ?_⟩
    have sb : SameBut l H5 (upd H5 l (.lst (ys ++ [v]))) := fun b u eb hb => by rw [upd_ne hb]; exact eb
    refine ⟨by rw [List.length_append, ly]; rfl, fun j u ej => ?_, ⟨_, List.set_set ..⟩, (s.trans s5).later hl, upd_same⟩
    by_cases hj : j < ys.length
    · rw [List.getElem?_append_left hj] at ej
      exact mono j u _ _ sb (mono j u _ _ (s5.but l) (hR j u ej))
    · rw [List.getElem?_append_right (by omega)] at ej
      have : j = i := by
        have hh := (List.getElem?_eq_some_iff.mp ej).1
        rw [List.length_singleton] at hh
        omega
      subst this
      rw [ly, Nat.sub_self] at ej
      cases ej
      exact mono j _ _ _ sb r
  · rintro ys σ' H' ⟨ly, hR, _, s, e⟩
    exact ⟨Nat.le_refl _, fin ys H' s e ly hR⟩
end
section
variable {P : Program} {w : World} {K : PySem.W.Frag} {mg : Str → Option Value} {base : Heap} {t : Ad}
def ptD (q : Int × Int) : PyData := .tuple [.int q.1, .int q.2]
theorem rep_pt {H : Hp} {v : V} {q : Int × Int} (h : Pt H v q) : Rep H (ptD q) v := by
  obtain ⟨a, rfl, ha⟩ := h
  unfold ptD
  simp only [Rep, RepL]
  exact ⟨a, _, rfl, ha, _, _, rfl, rfl, _, _, rfl, rfl, rfl⟩
theorem repL_pts {H : Hp} : ∀ {xs : List V} {ps : List (Int × Int)}, PwPt H xs ps → RepL H (ps.map ptD) xs
  | [], [], _ => by simp only [List.map_nil, RepL]
  | [], _ :: _, h => by have := h.1; simp at this
  | _ :: _, [], h => by have := h.1; simp at this
  | v :: xs, p :: ps, h => by
    obtain ⟨v', r, e, h1, h2⟩ := h.inv
    cases e
    simp only [List.map_cons, RepL]
    exact ⟨v, xs, rfl, rep_pt h1, repL_pts h2⟩
theorem rep_pts {H : Hp} {l : Addr} {xs : List V} {ps : List (Int × Int)} (e : H l = some (.lst xs)) (h : PwPt H xs ps) : Rep H (.list (ps.map ptD)) (.ref l) := by
  simp only [Rep]
  exact ⟨l, xs, rfl, e, repL_pts h⟩
theorem ok5_pts {ps : List (Int × Int)} (h : ps.length ≤ 5000) : Ok5 (.list (ps.map ptD)) :=
  .inr (.inl ⟨_, rfl, by rw [List.length_map]; exact h, fun e he => by
    obtain ⟨q, _, rfl⟩ := List.mem_map.mp he
    exact .inr (.inr ⟨_, rfl, by show 2 ≤ 5000; omega, fun e he => by
      simp only [List.mem_cons, List.not_mem_nil, or_false] at he
      rcases he with rfl | rfl <;> exact okS_int _⟩)⟩)
def tbD (rows : List (List Int)) : PyData := .list (rows.map fun r => PyData.list (r.map PyData.int))
theorem tbD_eqv (rows : List (List Int)) : PyData.eqv (tbD rows) (tbD rows) = true := by
  unfold tbD
  simp only [PyData.eqv]
  induction rows with
  | nil => rfl
  | cons r rows ih => simp only [List.map_cons, PyData.eqvAll, PyData.eqv, eqv_ints, decide_true, Bool.true_and]; exact ih
theorem tbD_lay : ∀ rows : List (List Int), PyData.canLayAll0 (rows.map fun r => PyData.list (r.map PyData.int)) = true
  | [] => rfl
  | r :: rows => by simp only [List.map_cons, PyData.canLayAll0, PyData.canLay0, lay_ints, tbD_lay rows, Bool.and_self]
theorem tbD_deep : ∀ rows : List (List Int), PyData.depthAll (rows.map fun r => PyData.list (r.map PyData.int)) ≤ 1
  | [] => Nat.zero_le _
  | r :: rows => by
    have := tbD_deep rows
    simp only [List.map_cons, PyData.depthAll, PyData.depth, deep_ints]
    omega
theorem tbD_shp (rows : List (List Int)) : SeqAt.shaped (tbD rows) = true := by
  have h1 := tbD_lay rows
  have h2 := tbD_deep rows
  unfold tbD
  simp only [SeqAt.shaped, PyData.canLay0, PyData.depth, h1, Bool.true_and]
  simp
  omega
theorem tblOf_good {s : Int} {cs rs : List Int} (lc : cs.length ≤ 39) (lr : rs.length ≤ 39) : GoodT (tblOf s cs rs (rs.length + 1)) ∧ bitsT (tblOf s cs rs (rs.length + 1)) = true := by
  have hr : ∀ r ∈ tblOf s cs rs (rs.length + 1), r.length = cs.length + 1 ∧ ∀ z ∈ r, z = 0 ∨ z = 1 := fun r hm => by
    unfold tblOf at hm
    obtain ⟨y, _, rfl⟩ := List.mem_map.mp hm
    refine ⟨rowOf_len _ _ _ _ _, fun z hz => ?_⟩
    unfold rowOf at hz
    obtain ⟨x, _, rfl⟩ := List.mem_map.mp hz
    exact colr_bit _ _ _ _ _
  have ll := tblOf_len s cs rs (rs.length + 1)
  have ew : wdT (tblOf s cs rs (rs.length + 1)) = cs.length + 1 := by
    unfold wdT
    rw [List.getD_eq_getElem?_getD, List.getElem?_eq_getElem (by omega)]
    exact (hr _ (List.getElem_mem _)).1
  exact ⟨⟨by rw [ll]; omega, by rw [ew]; omega, fun r hm => by rw [ew]; exact (hr r hm).1⟩, bitsT_iff.mpr fun r hm => (hr r hm).2⟩
theorem choose_rows {H : Hp} {l : Addr} {n : Nat} : ∀ {ys : List V}, (∀ (i : Nat) v, ys[i]? = some v → ∃ b bs, v = .ref b ∧ b ≠ l ∧ H b = some (.lst (List.map V.int bs)) ∧ bs.length = n ∧ ∀ z ∈ bs, z = 0 ∨ z = 1) → ∃ as rows, ys = as.map V.ref ∧ PwR H as rows ∧ (∀ a ∈ as, a ≠ l) ∧ (∀ r ∈ rows, r.length = n ∧ ∀ z ∈ r, z = 0 ∨ z = 1) ∧ rows.length = ys.length
  | [], _ => ⟨[], [], rfl, ⟨rfl, fun i a r e => by simp at e⟩, (fun _ h => nomatch h), (fun _ h => nomatch h), rfl⟩
  | v :: ys, h => by
    obtain ⟨b, bs, rfl, hb, hB, hl, hz⟩ := h 0 v rfl
    obtain ⟨as, rows, e1, p, q, r, ll⟩ := choose_rows (ys := ys) fun i v hv => h (i + 1) v (by simpa using hv)
    refine ⟨b :: as, bs :: rows, by rw [e1]; rfl, ⟨by rw [List.length_cons, List.length_cons, p.1], fun i a r e1 e2 => ?_⟩, fun a ha => ?_, fun x hx => ?_, by rw [List.length_cons, List.length_cons, ll]⟩
    · cases i with
      | zero => simp only [List.getElem?_cons_zero, Option.some.injEq] at e1 e2; subst e1 e2; exact hB
      | succ i => exact p.2 i a r (by simpa using e1) (by simpa using e2)
    · rcases List.mem_cons.mp ha with rfl | ha
      · exact hb
      · exact q a ha
    · rcases List.mem_cons.mp hx with rfl | hx
      · exact ⟨hl, hz⟩
      · exact r x hx
def sp_law (K : PySem.W.Frag) : Sp := fun vs H Q _ => ∃ (a : Addr) (ns : List Int), vs = [.ref a] ∧ SqL K H a (ns.map V.int) ∧ ns.length ≤ 63 ∧ ∀ H', Q (.bl true) H'
theorem ok_law (T : Txt K mg t) : FnOk P w K mg base CX0 11 t.f_law t.d_law ["_law_script"] (sp_law K) := by
  have G_Ldraws := ok_Ldraws (P := P) (w := w) (base := base) T
  have G_Lplan := ok_Lplan (P := P) (w := w) (base := base) T
  have G_Ltable := ok_Ltable (P := P) (w := w) (base := base) T
  have G_Lrow := ok_Lrow (P := P) (w := w) (base := base) T
  have G_Lspots := ok_Lspots (P := P) (w := w) (base := base) T
  have G_Leven := ok_Leven (P := P) (w := w) (base := base) T
  have G_evenblocks := ok_evenblocks (P := P) (w := w) (base := base) T
  have G_Lsame := ok_Lsame (P := P) (w := w) (base := base) T
  have G_Lmisshapen := ok_Lmisshapen (P := P) (w := w) (base := base) T
  have G_Ltried := ok_Ltried (P := P) (w := w) (base := base) T
  have G_Ldue := ok_Ldue (P := P) (w := w) (base := base) T
  refine T.F_law.ok sc_law (fun vs H Q E h => ?_) (fun cdv A outer s H vs Q E hr h => ?_)
  · obtain ⟨a, ns, rfl, _⟩ := h; rfl
  · obtain ⟨a, ns, rfl, hS, hl, z⟩ := h
    refine cutC (ps_set (i := 1) sc_law.nd rfl (Or.inr rfl) (pe_call G_Ldraws (hr.mono (by first | decide | omega)) rfl T.mg_Ldraws T.F_Ldraws.kp T.b_Ldraws .nil pass0 (pa_cons (pv 0) (pa_cons pe_int pa_nil)))) fun _ _ => cutC (ps_set (i := 2) sc_law.nd rfl (Or.inr rfl) (pe_call G_Ltable (hr.mono (by first | decide | omega)) rfl T.mg_Ltable T.F_Ltable.kp T.b_Ltable .nil pass0 (pa_cons (pe_call G_Lplan (hr.mono (by first | decide | omega)) rfl T.mg_Lplan T.F_Lplan.kp T.b_Lplan .nil pass0 (pa_cons (pv 1) pa_nil)) pa_nil))) fun _ _ => cutC (ps_join (ps_if (pt_cmpR op_eq (pe_op op_mod (pe_ix (ix_listK K rfl) (pv 1) pe_int (fun _ _ => rfl)) pe_int) pe_int (nomark _)) (pss_one (ps_set (i := 2) sc_law.nd rfl (Or.inr rfl) (pe_comp (N := ["_law_y", "_law_some", "_law_table_here"]) (cap := [none, some 1, some 2]) rfl ⟨rfl, rfl, rfl, rfl, rfl, rfl⟩ (pi_range1 rfl T.no_range (pa_cons (pe_callB (cI_lenK K rfl) rfl T.no_len (by rfl) (pa_cons (pv 2) pa_nil)) pa_nil)) (fun _ _ _ => (pg_name (i := 0) (show (["_law_y", "_law_some", "_law_table_here"] : List Str).Nodup by decide +kernel) rfl (Or.inl rfl))) (fun _ _ _ => pts_nil) (fun _ _ _ => (pe_call G_Lrow (hr.mono (by first | decide | omega)) rfl T.mg_Lrow T.F_Lrow.kp T.b_Lrow .nil pass0 (pa_cons (pe_slice (sl_listK K rfl) (pv 1) (po_some (pe_op op_add pe_int (pe_op op_mod (pv 0) pe_int))) po_none) (pa_cons (pe_callB (cI_lenK K rfl) rfl T.no_len (by rfl) (pa_cons (pe_ix (ix_listK K rfl) (pv 2) pe_int (fun _ _ => rfl)) pa_nil)) pa_nil))))))) pss_nil)) fun _ _ => cutC (ps_set (i := 2) sc_law.nd rfl (Or.inr rfl) (pe_call G_Lspots (hr.mono (by first | decide | omega)) rfl T.mg_Lspots T.F_Lspots.kp T.b_Lspots .nil pass0 (pa_cons (pe_slice (sl_listK K rfl) (pv 1) (po_some pe_int) po_none) (pa_cons (pv 2) (pa_cons (pe_op op_mod (pe_ix (ix_listK K rfl) (pv 1) pe_int (fun _ _ => rfl)) pe_int) pa_nil))))) fun _ _ => cutC (ps_set (i := 3) sc_law.nd rfl (Or.inl rfl) (pe_call G_Leven (hr.mono (by first | decide | omega)) rfl T.mg_Leven T.F_Leven.kp T.b_Leven .nil pass0 (pa_cons (pv 2) pa_nil))) fun _ _ => cutC (ps_setC (i := 4) sc_law.nd rfl (Or.inl rfl) (N := ["_law_row_here"]) (cap := [none]) rfl ⟨rfl, rfl, rfl, rfl, rfl, rfl⟩ (pi_list (pv 2)) (fun _ _ _ => (pg_name (i := 0) (show (["_law_row_here"] : List Str).Nodup by decide +kernel) rfl (Or.inl rfl))) (fun _ _ _ => pts_nil) (fun _ _ _ => (pe_callTy (cI_listK K rfl) rfl T.no_list (by rfl) (pa_cons (pv 0) pa_nil))) (by rfl)) fun _ _ => cutC (ps_for PassesOwn.never rfl (pi_range1 rfl T.no_range (pa_cons pe_int pa_nil)) (pg_name (i := 5) sc_law.nd rfl (Or.inl rfl)) (pss_cons (ps_set (i := 6) sc_law.nd rfl (Or.inl rfl) (pe_call G_evenblocks (hr.mono (by first | decide | omega)) rfl T.mg_evenblocks T.F_evenblocks.kp T.b_evenblocks .nil pass0 (pa_cons (pv 4) pa_nil))) (pss_cons (ps_if (PW.pt (pw_or (pt_not (pt_val (pe_call G_Lsame (hr.mono (by first | decide | omega)) rfl T.mg_Lsame T.F_Lsame.kp T.b_Lsame .nil pass0 (pa_cons (pv 6) (pa_cons (pv 3) pa_nil))))) (pw_or1 (pt_cmpR (op_neD hr.units) (pv 4) (pv 2) (nomark _))))) (pss_one (ps_ret pe_bl)) pss_nil) (pss_one (ps_expr (pe_bm PySem.F.plainAttrs_list PySem.F.slot_list_append PySem.F.type_list_append mt_append (pv 6) (pa_cons (pe_tup (pa_cons pe_int (pa_cons pe_int pa_nil))) pa_nil))))))) fun _ _ => cutC (ps_setC (i := 7) sc_law.nd rfl (Or.inl rfl) (N := ["_law_row_here"]) (cap := [none]) rfl ⟨rfl, rfl, rfl, rfl, rfl, rfl⟩ (pi_list (pv 2)) (fun _ _ _ => (pg_name (i := 0) (show (["_law_row_here"] : List Str).Nodup by decide +kernel) rfl (Or.inl rfl))) (fun _ _ _ => pts_nil) (fun _ _ _ => (pe_callTy (cI_listK K rfl) rfl T.no_list (by rfl) (pa_cons (pv 0) pa_nil))) (by rfl)) fun _ _ => cutC (ps_asg (pe_ix (ix_listK K rfl) (pe_lst (pa_cons pe_int (pa_cons (pe_un un_neg pe_int) (pa_cons (pe_op op_add pe_int (pe_op op_mul (pe_callB cI_abs rfl T.no_abs (by rfl) (pa_cons (pe_ix (ix_listK K rfl) (pv 1) pe_int (fun _ _ => rfl)) pa_nil)) (pe_op op_pow pe_int pe_int))) pa_nil)))) (pe_op op_mod (pe_ix (ix_listK K rfl) (pv 1) pe_int (fun _ _ => rfl)) pe_int) (fun _ _ => rfl)) (pg_sub (pe_ix (ix_listK K rfl) (pv 7) (pe_op op_mod (pe_ix (ix_listK K rfl) (pv 1) pe_int (fun _ _ => rfl)) (pe_callB (cI_lenK K rfl) rfl T.no_len (by rfl) (pa_cons (pv 2) pa_nil))) (fun _ _ => rfl)) (pe_op op_mod (pe_ix (ix_listK K rfl) (pv 1) pe_int (fun _ _ => rfl)) (pe_callB (cI_lenK K rfl) rfl T.no_len (by rfl) (pa_cons (pe_ix (ix_listK K rfl) (pv 2) pe_int (fun _ _ => rfl)) pa_nil))) set_list)) fun _ _ => cutC (ps_set (i := 8) sc_law.nd rfl (Or.inl rfl) (pe_call G_Lmisshapen (hr.mono (by first | decide | omega)) rfl T.mg_Lmisshapen T.F_Lmisshapen.kp T.b_Lmisshapen .nil pass0 (pa_cons (pe_slice (sl_listK K rfl) (pv 1) (po_some pe_int) po_none) (pa_cons (pe_ix (ix_listK K rfl) (pe_lst (pa_cons (pv 2) (pa_cons (pv 7) pa_nil))) (pe_op op_mod (pe_ix (ix_listK K rfl) (pv 1) pe_int (fun _ _ => rfl)) pe_int) (fun _ _ => rfl)) pa_nil)))) fun _ _ => cutC (ps_for PassesOwn.never rfl (pi_range1 rfl T.no_range (pa_cons pe_int pa_nil)) (pg_name (i := 9) sc_law.nd rfl (Or.inl rfl)) (pss_one (ps_if (PW.pt (pw_or (pt_cmpR (op_neD hr.units) (pe_call G_Ltried (hr.mono (by first | decide | omega)) rfl T.mg_Ltried T.F_Ltried.kp T.b_Ltried .nil pass0 (pa_cons (pv 7) (pa_cons (pv 9) pa_nil))) (pe_call G_Ldue (hr.mono (by first | decide | omega)) rfl T.mg_Ldue T.F_Ldue.kp T.b_Ldue .nil pass0 (pa_cons pe_str pa_nil)) (nomark _)) (pw_or1 (pt_cmpR (op_neD hr.units) (pe_call G_Ltried (hr.mono (by first | decide | omega)) rfl T.mg_Ltried T.F_Ltried.kp T.b_Ltried .nil pass0 (pa_cons (pv 8) (pa_cons (pv 9) pa_nil))) (pe_call G_Ldue (hr.mono (by first | decide | omega)) rfl T.mg_Ldue T.F_Ldue.kp T.b_Ldue .nil pass0 (pa_cons pe_str pa_nil)) (nomark _))))) (pss_one (ps_ret pe_bl)) pss_nil))) fun _ _ => cutE (ps_ret pe_bl) fun _ _ => ?_
    walk_at "rd"
    refine ⟨a, 44, ns, rfl, hS, hl, by decide, fun ls zs H1 s1 es lz _ sm => ?_⟩
    walk_at "rd"
    refine ⟨ls, zs, rfl, es, by omega, fun pp s cs rs H2 s2 pl => ?_⟩
    walk_at "rd"
    have es := s2 _ _ es
    refine ⟨pp, s, cs, rs, rfl, pl, fun l H3 s3 nl3 tb => ?_⟩
    have es := s3 _ _ es
    obtain ⟨gd, bt⟩ := tblOf_good (s := s) pl.bc.1 pl.br.1
    generalize tblOf s cs rs (rs.length + 1) = rows at tb gd bt
    clear pl
    walk_at "rd"
    refine rd_join (fun σ' H' => ∃ (l : Addr) (rows : List (List Int)), σ' = [some (.ref a), some (.ref ls), some (.ref l), none, none, none, none, none, none, none] ∧ H' ls = some (.lst (zs.map V.int)) ∧ TblAt H' l rows ∧ GoodT rows ∧ bitsT rows = true) ?_ ?_
    · obtain ⟨⟨g1, g2⟩, ⟨g3, g4⟩, g5⟩ := id gd
      walk_at "rd"
      refine rd_ixL (SqL.of es) (atI_ints (i := 12) (by decide) (by omega)) ?_
      walk_at "rd"
      refine rd_I (by decide) ?_
      walk_at "rd"
      refine ite2 (fun _ => ?_) (fun _ => ?_)
      · obtain ⟨xs, hl3, lx, _⟩ := tbl_at tb
        walk_at "rd"
        refine rd_lenL hl3 ?_
        rw [lx]
        walk_at "rd"
        refine ⟨_, rfl, by omega, by omega, fun l4 n4 => ?_⟩
        rw [Int.toNat_natCast]
        refine compW_rangeR2 (fun i v H' => ∃ b bs, v = .ref b ∧ b ≠ l4 ∧ H' b = some (.lst (List.map V.int bs)) ∧ bs.length = wdT rows ∧ ∀ z ∈ bs, z = 0 ∨ z = 1) (by omega) n4 (fun i v Ha Hb sb q => ?_) (fun i o H' Q' hi s4 hl4 q => ?_) (fun ys H4 s4 e4 ly hR => ?_)
        · obtain ⟨b, bs, rfl, hb, hB, r⟩ := q
          exact ⟨b, bs, rfl, hb, sb _ _ hB hb, r⟩
        · rw [Int.zero_add]
          walk_at "rd"
          refine rd_I (by decide) ?_
          walk_at "rd"
          obtain ⟨m, hm, m1, m2⟩ : ∃ m : Nat, (13 : Int) + ((i : Nat) : Int) % 20 = m ∧ 13 ≤ m ∧ m ≤ 32 := ⟨13 + i % 20, by omega, by omega, by omega⟩
          rw [hm]
          refine rd_slS (s4 _ _ es) fun u5 H5 s5 _ e5 => ?_
          rw [cutV_drop] at e5
          obtain ⟨xs6, a6, q1, q2, q3⟩ := (tb.mono (s4.trans s5)).row (i := 0) (by omega) (by omega)
          rw [show (0 : Int).toNat = 0 from rfl] at q3
          walk_at "rd"
          refine rd_ixL (SqL.of q1) q2 ?_
          walk_at "rd"
          refine rd_lenL q3 ?_
          rw [List.length_map, show (rows.getD 0 []).length = wdT rows from rfl]
          walk_at "rd"
          refine ⟨u5, wdT rows, zs.drop m, rfl, e5, by rw [List.length_drop]; omega, by omega, fun lb bs H6 s6 e6 l6 b6 => ?_⟩
          obtain ⟨yy, hyy, lyy, hRR⟩ := hl4
          refine q (.ref lb) H6 (s5.trans s6) ⟨lb, bs, rfl, fun zz => ?_, e6, l6, b6⟩
          have e7 := s6 _ _ (s5 _ _ hyy)
          rw [← zz, e6] at e7
          injection e7 with e7
          injection e7 with e7
          cases bs with
          | nil => rw [← l6] at g3; exact absurd g3 (by decide)
          | cons b0 bs =>
            obtain ⟨b', _, hb', _⟩ := hRR 0 (.int b0) (by rw [← e7]; rfl)
            cases hb'
        · obtain ⟨as, rows', e5, p, q, r, ll⟩ := choose_rows (fun i v hv => hR i v hv)
          subst e5
          have tb4 : TblAt H4 l4 rows' := ⟨as, e4, p.1, fun i a r e1 e2 => ⟨q a (List.mem_of_getElem? e1), p.2 i a r e1 e2⟩⟩
          have l0 : rows'.length = rows.length := by rw [ll, ly]
          have ew : wdT rows' = wdT rows := by
            show (rows'.getD 0 []).length = _
            rw [List.getD_eq_getElem?_getD, List.getElem?_eq_getElem (by omega)]
            exact (r _ (List.getElem_mem _)).1
          walk_at "rd"
          exact ⟨l4, rows', rfl, s4 _ _ es, tb4, ⟨by rw [l0]; exact ⟨g1, g2⟩, by rw [ew]; exact ⟨g3, g4⟩, fun x hx => by rw [ew]; exact (r x hx).1⟩, bitsT_iff.mpr fun x hx => (r x hx).2⟩
      · walk_at "rd"
        exact ⟨l, rows, rfl, es, tb, gd, bt⟩
    · rintro σ' H4 ⟨l, rows, rfl, es4, tb4, gd, bt⟩
      clear tb es nl3 s3 s2
      walk_at "rd"
      refine rd_slS es4 fun l5 H5 s5 _ e5 => ?_
      replace e5 : H5 l5 = some (.lst ((zs.drop 13).map V.int)) := e5.trans (congrArg (fun x => some (HO.lst x)) (cutV_drop (k := 13)))
      walk_at "rd"
      refine rd_ixL (SqL.of (s5 _ _ es4)) (atI_ints (i := 33) (by decide) (by omega)) ?_
      walk_at "rd"
      refine rd_I (by decide) ?_
      walk_at "rd"
      generalize zs.getD (33 : Int).toNat 0 = z33
      refine ⟨l5, l, zs.drop 13, (z33 % 11).toNat, rows, (by rw [show ((z33 % 11).toNat : Int) = z33 % 11 by omega]; rfl), e5, tb4.mono s5, gd, bt, by omega, by rw [List.length_drop]; omega, fun lt rows' H6 s6 tf6 g6 ew6 el6 b6 => ?_⟩
      have es6 := s6 _ _ (s5 _ _ es4)
      have tb6 := tf6.tbl
      clear tf6 tb4 es4 e5 s5 s6 ew6 el6 gd bt rows
      walk_at "rd"
      refine ⟨lt, rows', rfl, tb6, g6, b6, fun ld xd H7 s7 nd7 e7 pw7 => ?_⟩
      have es7 := s7 _ _ es6
      have tb7 := tb6.mono s7
      clear tb6 es6 s7
      obtain ⟨⟨g1, g2⟩, ⟨g3, g4⟩, g5⟩ := id g6
      obtain ⟨xs7, hl7, lx7, it7⟩ := tbl_at tb7
      have row7 : ∀ {i : Nat} {x : V}, xs7[i]? = some x → ∃ (hi : i < rows'.length) (a : Addr), x = .ref a ∧ H7 a = some (.lst (rows'[i].map V.int)) := fun {i x} hx => by
        have hi : i < rows'.length := by rw [← lx7]; exact (List.getElem?_eq_some_iff.mp hx).1
        obtain ⟨a, e, ha⟩ := it7 i x _ hx (List.getElem?_eq_getElem hi)
        exact ⟨hi, a, e, ha⟩
      walk_at "rd"
      refine ⟨⟨_, SqL.of hl7⟩, fun lh nlh => ?_⟩
      refine compW_listN (fun i b H' => ∀ r, rows'[i]? = some r → H' b = some (.lst (r.map V.int))) (SqL.of hl7) (by omega) nlh (fun i b Ha Hb sb hb q r hr => sb _ _ (q r hr) hb) (fun i x o H' Q' hx s8 q => ?_) (fun as H8 s8 e8 la nd hR => ?_)
      · obtain ⟨hi, a', rfl, ha⟩ := row7 hx
        walk_at "rd"
        refine rd_listL (s8 _ _ ha) fun u nu => ?_
        exact q u _ (Same.new nu) nu ⟨_, upd_same⟩ fun r hr => by rw [List.getElem?_eq_getElem hi] at hr; cases hr; exact upd_same
      have tfh := copyF lx7 nlh e8 la nd hR
      walk_at "rd"
      refine ⟨_, rfl, by decide, by decide, ?_⟩
      refine forW_range (fun i σ' H' => ∃ (o5 o6 : Option V), σ' = [some (.ref a), some (.ref ls), some (.ref lt), some (.ref ld), some (.ref lh), o5, o6, none, none, none] ∧ Same H8 H') ⟨none, none, rfl, Same.refl _⟩ ?_ ?_
      · rintro i σ' H9 hi ⟨o5, o6, rfl, s9⟩
        have s79 := s8.trans s9
        walk_at "rd"
        refine ⟨lh, rows', rfl, tfh.tbl.mono s9, g6, b6, fun lf xf H10 s10 n10 e10 pw10 => ?_⟩
        have s7A := s79.trans s10
        walk_at "rd"
        refine ⟨.ref lf, .ref ld, _, rfl, ok5_pts (Nat.le_trans (evs_small (by omega) g4) (by decide)), rep_pts e10 pw10, rep_pts (s7A _ _ e7) (pw7.mono s7A), fun H11 s11 => ?_⟩
        walk_at "rd"
        refine ⟨tbD rows', tbD rows', (tfh.tbl.mono (s9.trans (s10.trans s11))).rep, (tb7.mono (s7A.trans s11)).rep, tbD_shp _, tbD_shp _, ?_⟩
        rw [tbD_eqv, show (if (true : Bool) = true then !true else true) = false from rfl]
        walk_at "rd"
        refine rd_bmL (s11 _ _ e10) ?_
        walk_at "rd"
        refine ⟨by show 2 ≤ sizeLine; decide, fun pq npq => ?_⟩
        have spq := Same.new (o := HO.tup [V.int 0, V.int 0]) npq
        have epq := upd_same (H := H11) (a := pq) (o := HO.tup [V.int 0, V.int 0])
        generalize upd H11 pq (HO.tup [V.int 0, V.int 0]) = H12 at spq epq ⊢
        walk_at "rd"
        refine rd_append (spq _ _ (s11 _ _ e10)) (by rw [pw10.1]; have := evs_small (rows := rows') (n := rows'.length - 1) (by omega) g4; exact small1000' (by omega)) ?_
        walk_at "rd"
        exact ⟨_, _, rfl, fun c o e => by rw [upd_ne (ne_of_none (s9 _ _ e) n10)]; exact spq _ _ (s11 _ _ (s10 _ _ (s9 _ _ e)))⟩
      · rintro σ' H9 ⟨o5, o6, rfl, s9⟩
        have s79 := s8.trans s9
        have es9 := s79 _ _ es7
        have hl9 := s79 _ _ hl7
        have tb9 := tb7.mono s79
        walk_at "rd"
        refine ⟨⟨_, SqL.of hl9⟩, fun lp nlp => ?_⟩
        refine compW_listN (fun i b H' => ∀ r, rows'[i]? = some r → H' b = some (.lst (r.map V.int))) (SqL.of hl9) (by omega) nlp (fun i b Ha Hb sb hb q r hr => sb _ _ (q r hr) hb) (fun i x o H' Q' hx sA q => ?_) (fun as2 HA sA eA laA ndA hRA => ?_)
        · obtain ⟨hi, a', rfl, ha⟩ := row7 hx
          walk_at "rd"
          refine rd_listL (sA _ _ (s79 _ _ ha)) fun u nu => ?_
          exact q u _ (Same.new nu) nu ⟨_, upd_same⟩ fun r hr => by rw [List.getElem?_eq_getElem hi] at hr; cases hr; exact upd_same
        have tfp := copyF lx7 nlp eA laA ndA hRA
        have esA := sA _ _ es9
        have tbA := tb9.mono sA
        walk_at "rd"
        refine rd_ixL (SqL.of esA) (atI_ints (i := 36) (by decide) (by omega)) ?_
        walk_at "rd"
        have sm36 : Sm (zs.getD (36 : Int).toNat 0) := by
          rw [List.getD_eq_getElem?_getD, List.getElem?_eq_getElem (by show 36 < zs.length; omega)]
          exact sm _ (List.getElem_mem _)
        generalize zs.getD (36 : Int).toNat 0 = z36 at sm36 ⊢
        refine rd_I ⟨by decide, by decide, by decide⟩ ?_
        walk_at "rd"
        refine rd_I (.inl ⟨by have := sm36.1; have := sm36.2; split <;> omega, by have := sm36.1; have := sm36.2; split <;> omega⟩) ?_
        have hfar : (0 : Int) ≤ (if z36 < 0 then -z36 else z36) * 10 ^ (30 : Int).toNat := Int.mul_nonneg (by split <;> omega) (by decide)
        generalize (if z36 < 0 then -z36 else z36) * 10 ^ (30 : Int).toNat = far at hfar ⊢
        walk_at "rd"
        refine ⟨by show 3 ≤ sizeLine; decide, fun u1 nu1 => ?_⟩
        have su1 := Same.new (o := HO.lst [V.int 2, V.int (-1), V.int (3 + far)]) nu1
        have eu1 := upd_same (H := HA) (a := u1) (o := HO.lst [V.int 2, V.int (-1), V.int (3 + far)])
        generalize upd HA u1 (HO.lst [V.int 2, V.int (-1), V.int (3 + far)]) = HB at su1 eu1 ⊢
        walk_at "rd"
        refine rd_ixL (SqL.of (su1 _ _ esA)) (atI_ints (i := 37) (by decide) (by omega)) ?_
        walk_at "rd"
        refine rd_I (by decide) ?_
        generalize zs.getD (37 : Int).toNat 0 = z37
        obtain ⟨ix, hix, ixl⟩ : ∃ ix : Nat, z37 % 3 = ix ∧ ix < 3 := ⟨(z37 % 3).toNat, by omega, by omega⟩
        rw [hix]
        obtain ⟨bad, hbad, nb⟩ : ∃ bad : Int, [V.int 2, V.int (-1), V.int (3 + far)][ix]? = some (.int bad) ∧ ¬ (bad = 0 ∨ bad = 1) := by
          match ix, ixl with
          | 0, _ => exact ⟨2, rfl, by omega⟩
          | 1, _ => exact ⟨-1, rfl, by omega⟩
          | 2, _ => exact ⟨3 + far, rfl, by omega⟩
        refine rd_ixL (SqL.of eu1) (atI_nat hbad) ?_
        have tfB := tfp.mono su1
        have esB := su1 _ _ esA
        have tbB := tbA.mono su1
        have hlB := su1 _ _ (sA _ _ hl9)
        walk_at "rd"
        refine rd_ixL (SqL.of esB) (atI_ints (i := 34) (by decide) (by omega)) ?_
        walk_at "rd"
        refine rd_lenL hlB ?_
        rw [lx7]
        walk_at "rd"
        refine rd_I (show (0 : Int) < ((rows'.length : Nat) : Int) by omega) ?_
        generalize zs.getD (34 : Int).toNat 0 = z34
        have p2 := Int.emod_nonneg z34 (show ((rows'.length : Nat) : Int) ≠ 0 by omega)
        have p3 := Int.emod_lt_of_pos z34 (show (0 : Int) < (rows'.length : Nat) by omega)
        obtain ⟨y, hy, yl⟩ : ∃ y : Nat, z34 % ((rows'.length : Nat) : Int) = y ∧ y < rows'.length := ⟨(z34 % ((rows'.length : Nat) : Int)).toNat, by omega, by omega⟩
        rw [hy]
        obtain ⟨w1, b1⟩ := goodT_row g6 b6 yl
        generalize hx0 : zs.getD (35 : Int).toNat 0 = z35
        have p0 := Int.emod_nonneg z35 (show ((wdT rows' : Nat) : Int) ≠ 0 by omega)
        have p1 := Int.emod_lt_of_pos z35 (show (0 : Int) < (wdT rows' : Nat) by omega)
        obtain ⟨x, hx, xl⟩ : ∃ x : Nat, z35 % ((wdT rows' : Nat) : Int) = x ∧ x < wdT rows' := ⟨(z35 % ((wdT rows' : Nat) : Int)).toNat, by omega, by omega⟩
        obtain ⟨asB, aB, f1, f2, f3, f4, f5, f6⟩ := tfB.set (i := y) yl ((rows'.getD y []).set x bad)
        obtain ⟨hg, hw, hll⟩ := goodT_set g6 yl (r' := (rows'.getD y []).set x bad) (by rw [List.length_set]; exact w1)
        have hbb : bitsT (rows'.set y ((rows'.getD y []).set x bad)) = false := by
          rw [Bool.eq_false_iff]
          intro hb
          have hm : (rows'.getD y []).set x bad ∈ rows'.set y ((rows'.getD y []).set x bad) := List.mem_of_getElem? (i := y) (by rw [List.getElem?_set, if_pos rfl, if_pos yl])
          have hm2 : bad ∈ (rows'.getD y []).set x bad := List.mem_of_getElem? (i := x) (by rw [List.getElem?_set, if_pos rfl, if_pos (by omega)])
          exact nb (bitsT_iff.mp hb _ hm _ hm2)
        walk_at "rd"
        refine rd_ixL (SqL.of f1) (atI_nat f2) ?_
        walk_at "rd"
        refine rd_ixL (SqL.of esB) (atI_ints (i := 35) (by decide) (by omega)) ?_
        rw [hx0]
        obtain ⟨xs8, a8, q1, q2, q3⟩ := tbB.row (i := 0) (by omega) (by omega)
        rw [show (0 : Int).toNat = 0 from rfl] at q3
        walk_at "rd"
        refine rd_ixL (SqL.of q1) q2 ?_
        walk_at "rd"
        refine rd_lenL q3 ?_
        rw [List.length_map, show (rows'.getD 0 []).length = wdT rows' from rfl]
        walk_at "rd"
        refine rd_I (show (0 : Int) < ((wdT rows' : Nat) : Int) by omega) ?_
        rw [hx]
        refine rd_setl f3 (ixN_of (by rw [List.length_map]; omega)) ?_
        rw [← List.map_set]
        have s9C : Same H9 (upd HB aB (.lst (((rows'.getD y []).set x bad).map V.int))) := fun c o e => by rw [upd_ne (ne_of_none e f4)]; exact su1 _ _ (sA _ _ e)
        generalize upd HB aB (.lst (((rows'.getD y []).set x bad).map V.int)) = HC at s9C f6 ⊢
        generalize rows'.set y ((rows'.getD y []).set x bad) = rowsP at f6 hg hw hll hbb
        have tbC := f6.tbl
        have esC := s9C _ _ es9
        have tbT := tb9.mono s9C
        walk_at "rd"
        refine rd_slS esC fun l12 HD sD _ eD => ?_
        replace eD : HD l12 = some (.lst ((zs.drop 38).map V.int)) := eD.trans (congrArg (fun x => some (HO.lst x)) (cutV_drop (k := 38)))
        walk_at "rd"
        refine ⟨by show 2 ≤ sizeLine; decide, fun u2 nu2 => ?_⟩
        have su2 := Same.new (o := HO.lst [V.ref lt, V.ref lp]) nu2
        have eu2 := upd_same (H := HD) (a := u2) (o := HO.lst [V.ref lt, V.ref lp])
        generalize upd HD u2 (HO.lst [V.ref lt, V.ref lp]) = HE at su2 eu2 ⊢
        have sCE := sD.trans su2
        walk_at "rd"
        refine rd_ixL (SqL.of (sCE _ _ esC)) (atI_ints (i := 40) (by decide) (by omega)) ?_
        walk_at "rd"
        refine rd_I (by decide) ?_
        generalize zs.getD (40 : Int).toNat 0 = z40
        obtain ⟨iy, hiy, iyl⟩ : ∃ iy : Nat, z40 % 2 = iy ∧ iy < 2 := ⟨(z40 % 2).toNat, by omega, by omega⟩
        rw [hiy]
        obtain ⟨lb, rowsB, hlb, tbE, gE⟩ : ∃ lb rowsB, [V.ref lt, V.ref lp][iy]? = some (.ref lb) ∧ TblAt HE lb rowsB ∧ GoodT rowsB := by
          match iy, iyl with
          | 0, _ => exact ⟨lt, rows', rfl, tbT.mono sCE, g6⟩
          | 1, _ => exact ⟨lp, rowsP, rfl, tbC.mono sCE, hg⟩
        refine rd_ixL (SqL.of eu2) (atI_nat hlb) ?_
        walk_at "rd"
        refine ⟨l12, lb, zs.drop 38, rowsB, rfl, su2 _ _ eD, tbE, gE, by rw [List.length_drop]; omega, fun lm rowsM HF sF tbF nF lF wF => ?_⟩
        have tbP := tbC.mono (sCE.trans sF)
        walk_at "rd"
        refine ⟨_, rfl, by decide, by decide, ?_⟩
        refine forW_range (fun i σ' H' => ∃ (o9 : Option V), σ' = [some (.ref a), some (.ref ls), some (.ref lt), some (.ref ld), some (.ref lh), o5, o6, some (.ref lp), some (.ref lm), o9] ∧ Same HF H') ⟨none, rfl, Same.refl _⟩ ?_ ?_
        · rintro i σ' HG hi ⟨o9, rfl, sG⟩
          have hi2 : (0 : Int) + ((i : Nat) : Int) = 0 ∨ (0 : Int) + ((i : Nat) : Int) = 1 := by
            have : i < 2 := hi
            omega
          walk_at "rd"
          refine ⟨lp, rowsP, _, "BadBit", rfl, tbP.mono sG, by have := hg.1.2; omega, fun r hr => by rw [hg.2.2 r hr]; have := hg.2.1.2; omega, hi2, .inr ⟨hg, hbb, rfl⟩, fun l1 HH sH eH => ?_⟩
          walk_at "rd"
          refine ⟨"BadBit", rfl, fun l2 HI sI eI => ?_⟩
          refine rd_neBools (sI _ _ eH) eI ?_
          rw [decide_eq_true rfl]
          walk_at "rd"
          have sGI := sG.trans (sH.trans sI)
          refine ⟨lm, rowsM, _, "BadSize", rfl, tbF.mono sGI, lF, wF, hi2, .inl ⟨nF, rfl⟩, fun l3 HJ sJ eJ => ?_⟩
          walk_at "rd"
          refine ⟨"BadSize", rfl, fun l4 HK sK eK => ?_⟩
          refine rd_neBools (sK _ _ eJ) eK ?_
          rw [decide_eq_true rfl]
          walk_at "rd"
          exact ⟨_, rfl, sGI.trans (sJ.trans sK)⟩
        · rintro σ' HG ⟨o9, rfl, sG⟩
          walk_at "rd"
          exact z _
end

end My

set_option Elab.async false
set_option linter.all false
set_option maxRecDepth 100000
theorem PySem.W.Fast.tw5697902227267874489 : True := True.intro
theorem PySem.W.Fast.tw17533831368273889727 : True := True.intro
theorem PySem.W.Fast.tw16644542069283918087 : True := True.intro
theorem PySem.W.Fast.tw12419653409382773886 : True := True.intro
theorem PySem.W.Fast.tw3147540831298200741 : True := True.intro
theorem PySem.W.Fast.tw16009541728361551955 : True := True.intro
theorem PySem.W.Fast.tw13558002146734632003 : True := True.intro
theorem PySem.W.Fast.tw7648587828948251982 : True := True.intro
theorem PySem.W.Fast.tw4293455695962209002 : True := True.intro
theorem PySem.W.Fast.tw8891926775108267387 : True := True.intro
theorem PySem.W.Fast.tw10311977129138436880 : True := True.intro
theorem PySem.W.Fast.tw4552477771734512515 : True := True.intro
theorem PySem.W.Fast.tw5196762506430722372 : True := True.intro
theorem PySem.W.Fast.tw12762777010512699923 : True := True.intro
theorem PySem.W.Fast.tw13805949738764311045 : True := True.intro
theorem PySem.W.Fast.tw15910768330374840508 : True := True.intro
theorem PySem.W.Fast.tw15428228939324150352 : True := True.intro
theorem PySem.W.Fast.tw11867700969263548173 : True := True.intro
theorem PySem.W.Fast.tw13741916286487987766 : True := True.intro
theorem PySem.W.Fast.tw1156455451734342174 : True := True.intro
theorem PySem.W.Fast.tw308174214306468736 : True := True.intro
theorem PySem.W.Fast.tw16659230412754557093 : True := True.intro
theorem PySem.W.Fast.tw1040820454129524645 : True := True.intro
theorem PySem.W.Fast.tw5907018728364167588 : True := True.intro
theorem PySem.W.Fast.tw2582665880887979895 : True := True.intro
theorem PySem.W.Fast.tw1132852325623548323 : True := True.intro
theorem PySem.W.Fast.tw3693188534903076549 : True := True.intro
theorem PySem.W.Fast.tw2464889319458841350 : True := True.intro
theorem PySem.W.Fast.tw8533851857871632430 : True := True.intro
theorem PySem.W.Fast.tw17026843360805246034 : True := True.intro
theorem PySem.W.Fast.tw9194324797304555169 : True := True.intro
theorem PySem.W.Fast.tw9070912975055354959 : True := True.intro
theorem PySem.W.Fast.tw9582025133618373477 : True := True.intro
theorem PySem.W.Fast.tw18404162096977849049 : True := True.intro
theorem PySem.W.Fast.tw12664413979132652272 : True := True.intro
theorem PySem.W.Fast.tw6247745012582964060 : True := True.intro
theorem PySem.W.Fast.tw4692439415085058686 : True := True.intro
theorem PySem.W.Fast.tw8628079875001114444 : True := True.intro
theorem PySem.W.Fast.tw9287395743107161253 : True := True.intro
theorem PySem.W.Fast.tw4055233322220651468 : True := True.intro
theorem PySem.W.Fast.tw16917172528972067277 : True := True.intro
theorem PySem.W.Fast.tw7378745942135516284 : True := True.intro
theorem PySem.W.Fast.tw13891510796438454844 : True := True.intro
theorem PySem.W.Fast.tw1333170373681445275 : True := True.intro
theorem PySem.W.Fast.tw8753478966864349942 : True := True.intro
theorem PySem.W.Fast.tw10763944723407164644 : True := True.intro
theorem PySem.W.Fast.tw5103850385788359325 : True := True.intro
theorem PySem.W.Fast.tw18351964372749900180 : True := True.intro
theorem PySem.W.Fast.tw17064252300824426606 : True := True.intro
theorem PySem.W.Fast.tw14858208353184624428 : True := True.intro
theorem PySem.W.Fast.tw9418732208462142203 : True := True.intro
theorem PySem.W.Fast.tw18280476455854545524 : True := True.intro
theorem PySem.W.Fast.tw8860518873779567673 : True := True.intro
theorem PySem.W.Fast.tw11623204716629921948 : True := True.intro
theorem PySem.W.Fast.tw16332611002543798843 : True := True.intro
theorem PySem.W.Fast.tw5264457656574660089 : True := True.intro
theorem PySem.W.Fast.tw1113833107235662521 : True := True.intro
theorem PySem.W.Fast.tw14361326589973378736 : True := True.intro
theorem PySem.W.Fast.tw11106879925291598180 : True := True.intro
theorem PySem.W.Fast.tw3850066346883295277 : True := True.intro
theorem PySem.W.Fast.tw11280996741073633012 : True := True.intro
theorem PySem.W.Fast.tw11513437849119928068 : True := True.intro
theorem PySem.W.Fast.tw5153484504985908402 : True := True.intro
theorem PySem.W.Fast.tw1438309681943110635 : True := True.intro
theorem PySem.W.Fast.tw7575624312128347389 : True := True.intro
theorem PySem.W.Fast.tw557615381134094564 : True := True.intro
theorem PySem.W.Fast.tw4317527434034347392 : True := True.intro
theorem PySem.W.Fast.tw5011283675446507687 : True := True.intro
theorem PySem.W.Fast.tw1399050717311172350 : True := True.intro
theorem PySem.W.Fast.tw17773972157628511389 : True := True.intro
theorem PySem.W.Fast.tw16819021167660907254 : True := True.intro
theorem PySem.W.Fast.tw10659514876520122677 : True := True.intro
theorem PySem.W.Fast.tw17116585254653442038 : True := True.intro
theorem PySem.W.Fast.tw2351748390279771342 : True := True.intro
theorem PySem.W.Fast.tw14638511659018151572 : True := True.intro
theorem PySem.W.Fast.tw17937957550373300994 : True := True.intro
theorem PySem.W.Fast.tw8302091636575015337 : True := True.intro
theorem PySem.W.Fast.tw5932511886756320509 : True := True.intro
theorem PySem.W.Fast.tw3642059201938032549 : True := True.intro
theorem PySem.W.Fast.tw1153522398559845247 : True := True.intro
theorem PySem.W.Fast.tw5467124220356879137 : True := True.intro
theorem PySem.W.Fast.tw17039378236542976306 : True := True.intro
theorem PySem.W.Fast.tw10674389581636694479 : True := True.intro
theorem PySem.W.Fast.tw39042476340268789 : True := True.intro
theorem PySem.W.Fast.tw15556277756988347017 : True := True.intro
theorem PySem.W.Fast.tw13598246642063301130 : True := True.intro
theorem PySem.W.Fast.tw6863248752508779543 : True := True.intro
theorem PySem.W.Fast.tw12431376783838025948 : True := True.intro
theorem PySem.W.Fast.tw722201988259542377 : True := True.intro
theorem PySem.W.Fast.tw18281689815949433903 : True := True.intro
theorem PySem.W.Fast.tw13896041190181833031 : True := True.intro
theorem PySem.W.Fast.tw2026499629339119307 : True := True.intro
theorem PySem.W.Fast.tw13833754003792468544 : True := True.intro
theorem PySem.W.Fast.tw16147423992223492181 : True := True.intro
theorem PySem.W.Fast.tw12505954322859363993 : True := True.intro
theorem PySem.W.Fast.tw9255706086959904217 : True := True.intro
theorem PySem.W.Fast.tw6064122614378941143 : True := True.intro
theorem PySem.W.Fast.tw9258815562517816393 : True := True.intro
theorem PySem.W.Fast.tw6915242613951833364 : True := True.intro
theorem PySem.W.Fast.tw15470106662383205968 : True := True.intro
theorem PySem.W.Fast.tw11023423839241474644 : True := True.intro
theorem PySem.W.Fast.tw1611482360775808037 : True := True.intro
theorem PySem.W.Fast.tw1766837135603214668 : True := True.intro
theorem PySem.W.Fast.tw9093782043422503358 : True := True.intro
theorem PySem.W.Fast.tw2170167061237261267 : True := True.intro
theorem PySem.W.Fast.tw6234955590195625535 : True := True.intro
theorem PySem.W.Fast.tw8358696413576147832 : True := True.intro
theorem PySem.W.Fast.tw6307155584987985518 : True := True.intro
theorem PySem.W.Fast.tw11836381418054970574 : True := True.intro
theorem PySem.W.Fast.tw5909439172337518651 : True := True.intro
theorem PySem.W.Fast.tw14100895497315018983 : True := True.intro
theorem PySem.W.Fast.tw1740706907543815136 : True := True.intro
theorem PySem.W.Fast.tw6886746176658475061 : True := True.intro
theorem PySem.W.Fast.tw4753799050377747965 : True := True.intro
theorem PySem.W.Fast.tw7683164364194911832 : True := True.intro
theorem PySem.W.Fast.tw10537091226565875957 : True := True.intro
theorem PySem.W.Fast.tw4002570851770629140 : True := True.intro
theorem PySem.W.Fast.tw14856569271418415018 : True := True.intro
theorem PySem.W.Fast.tw13419405829622842131 : True := True.intro
theorem PySem.W.Fast.tw7346039175805323406 : True := True.intro
theorem PySem.W.Fast.tw6949256784804517341 : True := True.intro
theorem PySem.W.Fast.tw14672268673041614643 : True := True.intro
theorem PySem.W.Fast.tw12124983689387137784 : True := True.intro
theorem PySem.W.Fast.tw10734793809588126428 : True := True.intro
theorem PySem.W.Fast.tw6336548975666952721 : True := True.intro
theorem PySem.W.Fast.tw985097452405347795 : True := True.intro
theorem PySem.W.Fast.tw12509989292825467131 : True := True.intro
theorem PySem.W.Fast.tw3629420489960833198 : True := True.intro
theorem PySem.W.Fast.tw16200092683677623087 : True := True.intro
theorem PySem.W.Fast.tw11089867088399448006 : True := True.intro
theorem PySem.W.Fast.tw8077125625946532532 : True := True.intro
theorem PySem.W.Fast.tw17332542635046903911 : True := True.intro
theorem PySem.W.Fast.tw16876361693542632840 : True := True.intro
theorem PySem.W.Fast.tw16673239134660010795 : True := True.intro
theorem PySem.W.Fast.tw5392780597216316165 : True := True.intro
theorem PySem.W.Fast.tw10172840721417015813 : True := True.intro
theorem PySem.W.Fast.tw5518998534600213392 : True := True.intro
theorem PySem.W.Fast.tw17681197020531401541 : True := True.intro
theorem PySem.W.Fast.tw6354614103622368096 : True := True.intro
theorem PySem.W.Fast.tw9194605998996884665 : True := True.intro
theorem PySem.W.Fast.tw1791217742486293801 : True := True.intro
theorem PySem.W.Fast.tw1126435082294274570 : True := True.intro
theorem PySem.W.Fast.tw1468081257348886722 : True := True.intro
theorem PySem.W.Fast.tw11335519494850507826 : True := True.intro
theorem PySem.W.Fast.tw1480382189370058365 : True := True.intro
theorem PySem.W.Fast.tw12759128103346826784 : True := True.intro
theorem PySem.W.Fast.tw5976449925560502139 : True := True.intro
theorem PySem.W.Fast.tw2589823279829851854 : True := True.intro
theorem PySem.W.Fast.tw16478426781066415016 : True := True.intro
theorem PySem.W.Fast.tw10588971100061567405 : True := True.intro
theorem PySem.W.Fast.tw3225553371622948691 : True := True.intro
theorem PySem.W.Fast.tw9733143075883064592 : True := True.intro
theorem PySem.W.Fast.tw14384999978204300608 : True := True.intro
theorem PySem.W.Fast.tw11986514469375571106 : True := True.intro
theorem PySem.W.Fast.tw8668884211308343444 : True := True.intro
theorem PySem.W.Fast.tw12135628899867403996 : True := True.intro
theorem PySem.W.Fast.tw16189260029294673024 : True := True.intro
theorem PySem.W.Fast.tw2917585563227222916 : True := True.intro
theorem PySem.W.Fast.tw12468060385815176816 : True := True.intro
theorem PySem.W.Fast.tw14660742427872790652 : True := True.intro
theorem PySem.W.Fast.tw17837572092417129861 : True := True.intro
theorem PySem.W.Fast.tw7473363839949419084 : True := True.intro
theorem PySem.W.Fast.tw3289085931953201117 : True := True.intro
theorem PySem.W.Fast.tw12800146564761891280 : True := True.intro
theorem PySem.W.Fast.tw11694323647068827305 : True := True.intro
theorem PySem.W.Fast.tw11739594212889750585 : True := True.intro
theorem PySem.W.Fast.tw7553555192834739180 : True := True.intro
theorem PySem.W.Fast.tw12650551188253642818 : True := True.intro
theorem PySem.W.Fast.tw12854628590177277581 : True := True.intro
theorem PySem.W.Fast.tw5775808405423338823 : True := True.intro
theorem PySem.W.Fast.tw13531052335243069580 : True := True.intro
theorem PySem.W.Fast.tw12701766854669506860 : True := True.intro
theorem PySem.W.Fast.tw8234742959952117077 : True := True.intro
theorem PySem.W.Fast.tw3306034038760397205 : True := True.intro
theorem PySem.W.Fast.tw16974655119607074541 : True := True.intro
theorem PySem.W.Fast.tw5200356792466759205 : True := True.intro
theorem PySem.W.Fast.tw10812621186762614164 : True := True.intro
theorem PySem.W.Fast.tw10266900136052977619 : True := True.intro
theorem PySem.W.Fast.tw11084218574562528095 : True := True.intro
theorem PySem.W.Fast.tw14269892985946776439 : True := True.intro
theorem PySem.W.Fast.tw4471364578189738681 : True := True.intro
theorem PySem.W.Fast.tw3558719939482511570 : True := True.intro
theorem PySem.W.Fast.tw10969967898090993632 : True := True.intro
theorem PySem.W.Fast.tw14587709704213279570 : True := True.intro
theorem PySem.W.Fast.tw14471200765730213168 : True := True.intro
theorem PySem.W.Fast.tw4711120393069506099 : True := True.intro
theorem PySem.W.Fast.tw12382998610222698155 : True := True.intro
theorem PySem.W.Fast.tw17257471604589853627 : True := True.intro
theorem PySem.W.Fast.tw7586925905662164150 : True := True.intro
theorem PySem.W.Fast.tw5460246441203838653 : True := True.intro
theorem PySem.W.Fast.tw16602441071845753607 : True := True.intro
theorem PySem.W.Fast.tw15945373495428332167 : True := True.intro
theorem PySem.W.Fast.tw3011547647472655462 : True := True.intro
theorem PySem.W.Fast.tw10814938635157132206 : True := True.intro
theorem PySem.W.Fast.tw13338453802520641123 : True := True.intro
theorem PySem.W.Fast.tw13722004189306105612 : True := True.intro
theorem PySem.W.Fast.tw15256739627205679218 : True := True.intro
theorem PySem.W.Fast.tw17479969922335580673 : True := True.intro
theorem PySem.W.Fast.tw11114101851696504434 : True := True.intro
theorem PySem.W.Fast.tw14678335420984997151 : True := True.intro
theorem PySem.W.Fast.tw11175943429862640067 : True := True.intro
theorem PySem.W.Fast.tw14371445135717275530 : True := True.intro
theorem PySem.W.Fast.tw8362092637080545937 : True := True.intro
theorem PySem.W.Fast.tw9669767907187770792 : True := True.intro
theorem PySem.W.Fast.tw5632579313468930495 : True := True.intro
theorem PySem.W.Fast.tw10854840827094849926 : True := True.intro
theorem PySem.W.Fast.tw2917992981233746493 : True := True.intro
theorem PySem.W.Fast.tw8767976014076174712 : True := True.intro
theorem PySem.W.Fast.tw14635930036331474195 : True := True.intro
theorem PySem.W.Fast.tw9800991961103097552 : True := True.intro
theorem PySem.W.Fast.tw8941663351899082907 : True := True.intro
theorem PySem.W.Fast.tw9641863094924338827 : True := True.intro
theorem PySem.W.Fast.tw6010672218828108450 : True := True.intro
theorem PySem.W.Fast.tw3215692640791859658 : True := True.intro
theorem PySem.W.Fast.tw7324345469023304677 : True := True.intro
theorem PySem.W.Fast.tw13625417371644819155 : True := True.intro
theorem PySem.W.Fast.tw1656026454102021421 : True := True.intro
theorem PySem.W.Fast.tw16221840519836336965 : True := True.intro
theorem PySem.W.Fast.tw17678959255233578981 : True := True.intro
theorem PySem.W.Fast.tw9614241873016263717 : True := True.intro
theorem PySem.W.Fast.tw8934581221047150888 : True := True.intro
theorem PySem.W.Fast.tw1805022864464127493 : True := True.intro
theorem PySem.W.Fast.tw1389077639484636195 : True := True.intro
theorem PySem.W.Fast.tw12732440498646613020 : True := True.intro
theorem PySem.W.Fast.tw13107970571729970187 : True := True.intro
theorem PySem.W.Fast.tw5282054354376716389 : True := True.intro
theorem PySem.W.Fast.tw14899787977016303302 : True := True.intro
theorem PySem.W.Fast.tw13357979885183644643 : True := True.intro
theorem PySem.W.Fast.tw6607351872344375961 : True := True.intro
theorem PySem.W.Fast.tw8905948542775290264 : True := True.intro
theorem PySem.W.Fast.tw8939317957403505879 : True := True.intro
theorem PySem.W.Fast.tw3371707560020522472 : True := True.intro
theorem PySem.W.Fast.tw18130169409895255346 : True := True.intro
theorem PySem.W.Fast.tw11061299996627512781 : True := True.intro
theorem PySem.W.Fast.tw18224428895254937463 : True := True.intro
theorem PySem.W.Fast.tw7770959948141649291 : True := True.intro
theorem PySem.W.Fast.tw13107829934494047647 : True := True.intro
theorem PySem.W.Fast.tw9125383272862143633 : True := True.intro
theorem PySem.W.Fast.tw9295546533273193294 : True := True.intro
theorem PySem.W.Fast.tw17841239725974512834 : True := True.intro
theorem PySem.W.Fast.tw5774447989681481697 : True := True.intro
theorem PySem.W.Fast.tw17771240841946069262 : True := True.intro
theorem PySem.W.Fast.tw13910231416377386943 : True := True.intro
theorem PySem.W.Fast.tw1866874560002349095 : True := True.intro
theorem PySem.W.Fast.tw5579348483299126796 : True := True.intro
theorem PySem.W.Fast.tw15837930850874529038 : True := True.intro
theorem PySem.W.Fast.tw8894289734935509486 : True := True.intro
theorem PySem.W.Fast.tw3065531738072588508 : True := True.intro
theorem PySem.W.Fast.tw5052623616855046297 : True := True.intro
theorem PySem.W.Fast.tw11700171064897175570 : True := True.intro
theorem PySem.W.Fast.tw12912347080231496173 : True := True.intro
theorem PySem.W.Fast.tw4878958045787422330 : True := True.intro
theorem PySem.W.Fast.tw13633395742151468125 : True := True.intro
theorem PySem.W.Fast.tw15471725975469961356 : True := True.intro
theorem PySem.W.Fast.tw6121007074771523320 : True := True.intro
theorem PySem.W.Fast.tw14721409555723891411 : True := True.intro
theorem PySem.W.Fast.tw14386851392952009180 : True := True.intro
theorem PySem.W.Fast.tw11961228313997151530 : True := True.intro
theorem PySem.W.Fast.tw4678856027691736957 : True := True.intro
theorem PySem.W.Fast.tw300015727022055596 : True := True.intro
theorem PySem.W.Fast.tw255221236142488460 : True := True.intro
theorem PySem.W.Fast.tw8695738450014222918 : True := True.intro
theorem PySem.W.Fast.tw12585603340002862675 : True := True.intro
theorem PySem.W.Fast.tw11246576248493975466 : True := True.intro
theorem PySem.W.Fast.tw13322244043356543622 : True := True.intro
theorem PySem.W.Fast.tw11433562386261708888 : True := True.intro
theorem PySem.W.Fast.tw11414972457766944612 : True := True.intro
theorem PySem.W.Fast.tw6827980341016046682 : True := True.intro
theorem PySem.W.Fast.tw1107584098950776388 : True := True.intro
theorem PySem.W.Fast.tw10124750950574561994 : True := True.intro
theorem PySem.W.Fast.tw3665175707931630505 : True := True.intro
theorem PySem.W.Fast.tw7418098147987701774 : True := True.intro
theorem PySem.W.Fast.tw7423072558782057192 : True := True.intro
theorem PySem.W.Fast.tw18384158601478114805 : True := True.intro
theorem PySem.W.Fast.tw14456736484456103047 : True := True.intro
theorem PySem.W.Fast.tw9138045824604551162 : True := True.intro
theorem PySem.W.Fast.tw5053544086646816705 : True := True.intro
theorem PySem.W.Fast.tw11044208559113724841 : True := True.intro
theorem PySem.W.Fast.tw6324802518573396147 : True := True.intro
theorem PySem.W.Fast.tw10217538684409590694 : True := True.intro
theorem PySem.W.Fast.tw5977200791832375717 : True := True.intro
theorem PySem.W.Fast.tw2859186484886722464 : True := True.intro
theorem PySem.W.Fast.tw6047672428561759003 : True := True.intro
theorem PySem.W.Fast.tw4355719900894571525 : True := True.intro
theorem PySem.W.Fast.tw4354824044814207119 : True := True.intro
theorem PySem.W.Fast.tw3745625825669593048 : True := True.intro
theorem PySem.W.Fast.tw4474664130109346039 : True := True.intro
theorem PySem.W.Fast.tw13452641363663946771 : True := True.intro
theorem PySem.W.Fast.tw14420057639233451608 : True := True.intro
theorem PySem.W.Fast.tw247842559830242948 : True := True.intro
theorem PySem.W.Fast.tw4783843910572480089 : True := True.intro
theorem PySem.W.Fast.tw17118251134733670631 : True := True.intro
theorem PySem.W.Fast.tw9607507395208849570 : True := True.intro
theorem PySem.W.Fast.tw5801171058481478628 : True := True.intro
theorem PySem.W.Fast.tw12005098752970003056 : True := True.intro
theorem PySem.W.Fast.tw6236513504306904694 : True := True.intro
theorem PySem.W.Fast.tw7985356865652722628 : True := True.intro
theorem PySem.W.Fast.tw4524691656586892179 : True := True.intro
theorem PySem.W.Fast.tw5365451353875347441 : True := True.intro
theorem PySem.W.Fast.tw3186133014831517753 : True := True.intro
theorem PySem.W.Fast.tw7147344083599977808 : True := True.intro
theorem PySem.W.Fast.tw757350619577648611 : True := True.intro
theorem PySem.W.Fast.tw8343295998353759228 : True := True.intro
theorem PySem.W.Fast.tw7899866576241764420 : True := True.intro
theorem PySem.W.Fast.tw10968185444957699552 : True := True.intro
theorem PySem.W.Fast.tw2578876196605821328 : True := True.intro
theorem PySem.W.Fast.tw6257167412563302825 : True := True.intro
theorem PySem.W.Fast.tw11069512377434394434 : True := True.intro
theorem PySem.W.Fast.tw9130819964763286338 : True := True.intro
theorem PySem.W.Fast.tw7282661401663612475 : True := True.intro
theorem PySem.W.Fast.tw13928838299831213425 : True := True.intro
theorem PySem.W.Fast.tw6421707318748542191 : True := True.intro
theorem PySem.W.Fast.tw4474847452857493433 : True := True.intro
theorem PySem.W.Fast.tw11447816062597088240 : True := True.intro
theorem PySem.W.Fast.tw9285345822364423260 : True := True.intro
theorem PySem.W.Fast.tw2810768570948106133 : True := True.intro
theorem PySem.W.Fast.tw1189133184756845859 : True := True.intro
theorem PySem.W.Fast.tw5172091443138038704 : True := True.intro
theorem PySem.W.Fast.tw15377271164224184924 : True := True.intro
theorem PySem.W.Fast.tw5266206474280499057 : True := True.intro
theorem PySem.W.Fast.tw1174194973006083186 : True := True.intro
theorem PySem.W.Fast.tw14115886733969042508 : True := True.intro
theorem PySem.W.Fast.tw3941693093548324218 : True := True.intro
theorem PySem.W.Fast.tw18446139944693134060 : True := True.intro
theorem PySem.W.Fast.tw16914783489504354351 : True := True.intro
theorem PySem.W.Fast.tw129336869466112037 : True := True.intro
theorem PySem.W.Fast.tw9289940015458006634 : True := True.intro
theorem PySem.W.Fast.tw6394203880936921182 : True := True.intro
theorem PySem.W.Fast.tw12549319511497266653 : True := True.intro
theorem PySem.W.Fast.tw13605808380222194143 : True := True.intro
theorem PySem.W.Fast.tw894517149362843725 : True := True.intro
theorem PySem.W.Fast.tw3008234403132236262 : True := True.intro
theorem PySem.W.Fast.tw8535469265707229818 : True := True.intro
theorem PySem.W.Fast.tw17952996746110097085 : True := True.intro
theorem PySem.W.Fast.tw1668399082905525465 : True := True.intro
theorem PySem.W.Fast.tw16393908237869263032 : True := True.intro
theorem PySem.W.Fast.tw2722160676532381075 : True := True.intro
theorem PySem.W.Fast.tw5559177046383897112 : True := True.intro
theorem PySem.W.Fast.tw5252605641772420890 : True := True.intro
theorem PySem.W.Fast.tw18139728615154551620 : True := True.intro
theorem PySem.W.Fast.tw5990582296993335874 : True := True.intro
theorem PySem.W.Fast.tw5409724919867515196 : True := True.intro
theorem PySem.W.Fast.tw11278039110660313953 : True := True.intro
theorem PySem.W.Fast.tw12199428637723000439 : True := True.intro
theorem PySem.W.Fast.tw3156652892436783922 : True := True.intro
theorem PySem.W.Fast.tw5577382112924585758 : True := True.intro
theorem PySem.W.Fast.tw6874153072553069736 : True := True.intro
theorem PySem.W.Fast.tw711284947147494822 : True := True.intro
theorem PySem.W.Fast.tw14626401495087793144 : True := True.intro
theorem PySem.W.Fast.tw10670325262408166545 : True := True.intro
theorem PySem.W.Fast.tw6267800587678784564 : True := True.intro
theorem PySem.W.Fast.tw10291003586926206186 : True := True.intro
theorem PySem.W.Fast.tw5086172784694203027 : True := True.intro
theorem PySem.W.Fast.tw17473910949962170932 : True := True.intro
theorem PySem.W.Fast.tw12476267909521556696 : True := True.intro
theorem PySem.W.Fast.tw6018658801328611523 : True := True.intro
theorem PySem.W.Fast.tw2386476811439487894 : True := True.intro
theorem PySem.W.Fast.tw10488214764799608800 : True := True.intro
theorem PySem.W.Fast.tw4731659365410106199 : True := True.intro
theorem PySem.W.Fast.tw4025532692930337622 : True := True.intro
open PySem PySem.W PyProof.Rows
set_option maxRecDepth 100000 in
set_option maxHeartbeats 0 in
theorem PySem.Challenge.cw_sashiko_k22_even_blocks_holds : PySem.Challenge.rw_sashiko_k22_even_blocks.Holds := by
  w_on; o_law; k_head; (case hw => w_witness2)
  k_fill
  refine L2.walk_ofK (l := PySem.Challenge.rw_sashiko_k22_even_blocks) (n := 63) (k := 11) (x := "_law_script") (CX := L2.CX0) (sp := My.sp_law) rfl (by decide) rfl ⟨rfl, by decide, by decide⟩ (fun w h Y => PySem.W.kIn_of Y) ?F ?S ?C
  case F =>
    intro w mg fa h KX G hmg
    have T : ∃ t : My.Ad, My.Txt (L2.KOf KX) mg t ∧ (∀ (s : Shared) (v : Value), BindsTo s t.d_law ⟨[v], []⟩ [("_law_script", v)]) := by
      dsimp only [L2.KOf]
      refine' My.txt_mk KX G ?a_isnumber ?l_isnumber ?c_isnumber ?k_isnumber ?a_isbelow ?l_isbelow ?c_isbelow ?k_isbelow ?a_isbit ?l_isbit ?c_isbit ?k_isbit ?a_allbits ?l_allbits ?c_allbits ?k_allbits ?a_isside ?l_isside ?c_isside ?k_isside ?a_needtable ?l_needtable ?c_needtable ?k_needtable ?a_iseven ?l_iseven ?c_iseven ?k_iseven ?a_evenblocks ?l_evenblocks ?c_evenblocks ?k_evenblocks ?a_clothof ?l_clothof ?c_clothof ?k_clothof ?a_Lmarks ?l_Lmarks ?c_Lmarks ?k_Lmarks ?a_Ldraws ?l_Ldraws ?c_Ldraws ?k_Ldraws ?a_Lsewn ?l_Lsewn ?c_Lsewn ?k_Lsewn ?a_Ltable ?l_Ltable ?c_Ltable ?k_Ltable ?a_Lbits ?l_Lbits ?c_Lbits ?k_Lbits ?a_Lrow ?l_Lrow ?c_Lrow ?k_Lrow ?a_Lplan ?l_Lplan ?c_Lplan ?k_Lplan ?a_Lspots ?l_Lspots ?c_Lspots ?k_Lspots ?a_Leven ?l_Leven ?c_Leven ?k_Leven ?a_Lsame ?l_Lsame ?c_Lsame ?k_Lsame ?a_Ldue ?l_Ldue ?c_Ldue ?k_Ldue ?a_Ltried ?l_Ltried ?c_Ltried ?k_Ltried ?a_Lmisshapen ?l_Lmisshapen ?c_Lmisshapen ?k_Lmisshapen ?a_law ?l_law ?c_law ?k_law ?aX_SewError ?aX_BadSize ?aX_BadBit ?aX_NoCell ?aX_NoLine ?aX_NoStep ?aX_NoPoint ?bb ?bm ?bt ?ogs ?otk ?x_BadSize ?ga_BadSize ?gt_BadSize ?gc_BadSize ?go_BadSize ?gb_BadSize ?sb_BadSize ?kt_BadSize_BadSize ?kt_BadSize_BadBit ?kt_BadSize_NoCell ?kt_BadSize_NoLine ?kt_BadSize_NoStep ?kt_BadSize_NoPoint ?kv_BadSize ?x_BadBit ?ga_BadBit ?gt_BadBit ?gc_BadBit ?go_BadBit ?gb_BadBit ?sb_BadBit ?kt_BadBit_BadSize ?kt_BadBit_BadBit ?kt_BadBit_NoCell ?kt_BadBit_NoLine ?kt_BadBit_NoStep ?kt_BadBit_NoPoint ?kv_BadBit ?v_LONGEST_SIDE ?z_isinstance ?z_int ?z_bool ?z_all ?z_len ?z_tuple ?z_list ?z_range ?z_abs ?z_sum ?z_min ?z_str ?z_zip ?z_ValueError
      (case a_isnumber => k_is)
      (case l_isnumber => k_is)
      (case c_isnumber => k_is)
      (case k_isnumber => k_is)
      (case a_isbelow => k_is)
      (case l_isbelow => k_is)
      (case c_isbelow => k_is)
      (case k_isbelow => k_is)
      (case a_isbit => k_is)
      (case l_isbit => k_is)
      (case c_isbit => k_is)
      (case k_isbit => k_is)
      (case a_allbits => k_is)
      (case l_allbits => k_is)
      (case c_allbits => k_is)
      (case k_allbits => k_is)
      (case a_isside => k_is)
      (case l_isside => k_is)
      (case c_isside => k_is)
      (case k_isside => k_is)
      (case a_needtable => k_is)
      (case l_needtable => k_is)
      (case c_needtable => k_is)
      (case k_needtable => k_is)
      (case a_iseven => k_is)
      (case l_iseven => k_is)
      (case c_iseven => k_is)
      (case k_iseven => k_is)
      (case a_evenblocks => k_is)
      (case l_evenblocks => k_is)
      (case c_evenblocks => k_is)
      (case k_evenblocks => k_is)
      (case a_clothof => k_is)
      (case l_clothof => k_is)
      (case c_clothof => k_is)
      (case k_clothof => k_is)
      (case a_Lmarks => k_is)
      (case l_Lmarks => k_is)
      (case c_Lmarks => k_is)
      (case k_Lmarks => k_is)
      (case a_Ldraws => k_is)
      (case l_Ldraws => k_is)
      (case c_Ldraws => k_is)
      (case k_Ldraws => k_is)
      (case a_Lsewn => k_is)
      (case l_Lsewn => k_is)
      (case c_Lsewn => k_is)
      (case k_Lsewn => k_is)
      (case a_Ltable => k_is)
      (case l_Ltable => k_is)
      (case c_Ltable => k_is)
      (case k_Ltable => k_is)
      (case a_Lbits => k_is)
      (case l_Lbits => k_is)
      (case c_Lbits => k_is)
      (case k_Lbits => k_is)
      (case a_Lrow => k_is)
      (case l_Lrow => k_is)
      (case c_Lrow => k_is)
      (case k_Lrow => k_is)
      (case a_Lplan => k_is)
      (case l_Lplan => k_is)
      (case c_Lplan => k_is)
      (case k_Lplan => k_is)
      (case a_Lspots => k_is)
      (case l_Lspots => k_is)
      (case c_Lspots => k_is)
      (case k_Lspots => k_is)
      (case a_Leven => k_is)
      (case l_Leven => k_is)
      (case c_Leven => k_is)
      (case k_Leven => k_is)
      (case a_Lsame => k_is)
      (case l_Lsame => k_is)
      (case c_Lsame => k_is)
      (case k_Lsame => k_is)
      (case a_Ldue => k_is)
      (case l_Ldue => k_is)
      (case c_Ldue => k_is)
      (case k_Ldue => k_is)
      (case a_Ltried => k_is)
      (case l_Ltried => k_is)
      (case c_Ltried => k_is)
      (case k_Ltried => k_is)
      (case a_Lmisshapen => k_is)
      (case l_Lmisshapen => k_is)
      (case c_Lmisshapen => k_is)
      (case k_Lmisshapen => k_is)
      (case a_law => k_is)
      (case l_law => k_is)
      (case c_law => k_is)
      (case k_law => k_is)
      (case aX_SewError => k_is)
      (case aX_BadSize => k_is)
      (case aX_BadBit => k_is)
      (case aX_NoCell => k_is)
      (case aX_NoLine => k_is)
      (case aX_NoStep => k_is)
      (case aX_NoPoint => k_is)
      (case bb => k_is)
      (case bm => k_is)
      (case bt => k_is)
      (case ogs => k_is)
      (case otk => k_is)
      (case x_BadSize => k_exc)
      (case ga_BadSize => k_is)
      (case gt_BadSize => k_is)
      (case gc_BadSize => k_is)
      (case go_BadSize => k_is)
      (case gb_BadSize => k_is)
      (case sb_BadSize => k_is)
      (case kt_BadSize_BadSize => kit_is)
      (case kt_BadSize_BadBit => kit_is)
      (case kt_BadSize_NoCell => kit_is)
      (case kt_BadSize_NoLine => kit_is)
      (case kt_BadSize_NoStep => kit_is)
      (case kt_BadSize_NoPoint => kit_is)
      (case kv_BadSize => kit_is)
      (case x_BadBit => k_exc)
      (case ga_BadBit => k_is)
      (case gt_BadBit => k_is)
      (case gc_BadBit => k_is)
      (case go_BadBit => k_is)
      (case gb_BadBit => k_is)
      (case sb_BadBit => k_is)
      (case kt_BadBit_BadSize => kit_is)
      (case kt_BadBit_BadBit => kit_is)
      (case kt_BadBit_NoCell => kit_is)
      (case kt_BadBit_NoLine => kit_is)
      (case kt_BadBit_NoStep => kit_is)
      (case kt_BadBit_NoPoint => kit_is)
      (case kv_BadBit => kit_is)
      (case v_LONGEST_SIDE => k_is)
      (case z_isinstance => k_is)
      (case z_int => k_is)
      (case z_bool => k_is)
      (case z_all => k_is)
      (case z_len => k_is)
      (case z_tuple => k_is)
      (case z_list => k_is)
      (case z_range => k_is)
      (case z_abs => k_is)
      (case z_sum => k_is)
      (case z_min => k_is)
      (case z_str => k_is)
      (case z_zip => k_is)
      (case z_ValueError => k_is)
    obtain ⟨t, T, hb⟩ := T
    have e0 := hmg.symm.trans T.mg_law
    cases e0
    exact ⟨t.d_law, hb, fun base _ _ => My.ok_law T⟩
  case S => exact fun K H a ns hl _ hS => ⟨a, ns, rfl, hS, hl, fun _ => rfl⟩
  case C => exact fun _ _ _ _ z => z

