import PyProof.Rows.All
import Wide.All
import OpenK.AllK
import Wide.FinOn
import Lean
import PyProof.EqAt
import PyProof.EqKinds
import PyProof.TupleCall
import KE.KItemsList
import KE.KPairComp
import PySem.Challenge.RW_sashiko_k48_cloths_that_show
set_option Elab.async false
set_option linter.all false
set_option maxRecDepth 100000
/-! THE HAND LAYER, for ints, bools, texts, own classes, LISTS and tuples (index, slices, in, append, pop ..), calls, loops. Paste it whole ahead of your own text; what your proof does not reach may be deleted. -/
namespace L2
open PySem PySem.Spec PyProof.Rows

/-- a key: an int or a str -/
abbrev Key := Sum Int Str
def keyIs : Key → Value → Bool
  | .inl k, v => Value.isInt k v
  | .inr x, v => Value.isStrOf x v
def keyH (w : World) : Key → Int
  | .inl k => hashInt k
  | .inr x => hashStr w x
theorem keyIs_shape : ∀ {k : Key} {v : Value}, keyIs k v = true → (∃ i t, k = Sum.inl i ∧ v = Value.int i t) ∨ (∃ x t, k = Sum.inr x ∧ v = Value.str x t)
  | .inl i, v, h => by
    obtain ⟨t, e⟩ := Value.isInt_shape (k := i) (v := v) h
    exact .inl ⟨i, t, rfl, e⟩
  | .inr x, v, h => by
    obtain ⟨t, e⟩ := Value.isStrOf_shape (x := x) (v := v) h
    exact .inr ⟨x, t, rfl, e⟩
theorem keyIs_int (i : Int) (t : Tok) : keyIs (.inl i) (.int i t) = true := by simp [keyIs, Value.isInt]
theorem keyIs_str (x : Str) (t : Tok) : keyIs (.inr x) (.str x t) = true := by simp [keyIs, Value.isStrOf]
theorem key_ll (a b : Int) : decide ((Sum.inl a : Key) = Sum.inl b) = (a == b) := by
  by_cases e : a = b
  · subst e; simp
  · have h : ¬ (Sum.inl a : Key) = Sum.inl b := fun q => e (Sum.inl.inj q)
    rw [decide_eq_false h]
    exact (beq_eq_false_iff_ne.mpr e).symm
theorem key_rr (a b : Str) : decide ((Sum.inr a : Key) = Sum.inr b) = decide (a = b) := by
  by_cases e : a = b
  · subst e; simp
  · have h : ¬ (Sum.inr a : Key) = Sum.inr b := fun q => e (Sum.inr.inj q)
    rw [decide_eq_false h, decide_eq_false e]
theorem key_lr (a : Int) (b : Str) : decide ((Sum.inl a : Key) = Sum.inr b) = false := decide_eq_false (fun q => nomatch q)
theorem key_rl (a : Str) (b : Int) : decide ((Sum.inr a : Key) = Sum.inl b) = false := decide_eq_false (fun q => nomatch q)

def mixKind (prog : Program) (w : World) : PySem.KeyKind prog w Key where
  is := keyIs
  hash := keyH w
  inj := fun v a b ha hb => by
    rcases keyIs_shape ha with ⟨i, t, rfl, rfl⟩ | ⟨x, t, rfl, rfl⟩
    · rcases keyIs_shape hb with ⟨j, u, rfl, e⟩ | ⟨y, u, rfl, e⟩
      · injection e with e1 _; rw [e1]
      · exact nomatch e
    · rcases keyIs_shape hb with ⟨j, u, rfl, e⟩ | ⟨y, u, rfl, e⟩
      · exact nomatch e
      · injection e with e1 _; rw [e1]
  byValue := fun k v h => by
    rcases keyIs_shape h with ⟨i, t, rfl, rfl⟩ | ⟨x, t, rfl, rfl⟩ <;> rfl
  pyHash := fun hv h => by
    rcases keyIs_shape hv with ⟨i, t, rfl, rfl⟩ | ⟨x, t, rfl, rfl⟩
    · exact wpAny_pyHash_int h
    · exact wpAny_pyHash_str h
  eqBool := fun hu hv h => by
    rcases keyIs_shape hu with ⟨i, t, rfl, rfl⟩ | ⟨x, t, rfl, rfl⟩
    · rcases keyIs_shape hv with ⟨j, u, rfl, rfl⟩ | ⟨y, u, rfl, rfl⟩
      · rw [key_ll] at h; exact wpAny_eqBool_int h
      · rw [key_lr] at h; exact SeqAt.EqAt.int_str i t y u _ _ _ _ h
    · rcases keyIs_shape hv with ⟨j, u, rfl, rfl⟩ | ⟨y, u, rfl, rfl⟩
      · rw [key_rl] at h; exact SeqAt.EqAt.str_int x t j u _ _ _ _ h
      · rw [key_rr] at h; exact wpAny_eqBool_str h
  «strs» := fun k x t v h => by
    rcases keyIs_shape h with ⟨i, u, rfl, e⟩ | ⟨y, u, rfl, e⟩
    · exact nomatch e
    · injection e with e1 _
      subst e1
      cases v <;> rfl

theorem mixKind_int (prog : Program) (w : World) (i : Int) (t : Tok) : (mixKind prog w).is (.inl i) (.int i t) = true := keyIs_int i t
theorem mixKind_str (prog : Program) (w : World) (x : Str) (t : Tok) : (mixKind prog w).is (.inr x) (.str x t) = true := keyIs_str x t
end L2

namespace L2
open PySem PySem.Spec PyProof.Rows

/-- a value, without the heap -/
inductive V where
  | non | bl (b : Bool) | int (i : Int) | str (x : Str) | byt (b : Array UInt8) | flt (b : UInt64) | ref (a : Addr) | ty (n : String)
  deriving DecidableEq

def RelV : V → Value → Prop
  | .non, u => u = Value.none
  | .bl b, u => u = Value.bool b
  | .int i, u => ∃ t, u = Value.int i t
  | .str x, u => ∃ t, u = Value.str x t
  | .byt b, u => ∃ t, u = Value.bytes b t
  | .flt b, u => ∃ t, u = Value.float b t
  | .ref a, u => u = Value.ref a
  | .ty n, u => u = Value.type n

abbrev Vals : List V → List Value → Prop := Paired RelV
theorem Vals.length {xs : List V} {us : List Value} (r : Vals xs us) : xs.length = us.length := Paired.length r
theorem Vals.get : ∀ {xs : List V} {us : List Value} {i : Nat} {x : V}, Vals xs us → xs[i]? = some x → ∃ u, us[i]? = some u ∧ RelV x u
  | _, _, _, _, .nil, e => by simp at e
  | _, _, 0, _, .cons r _, e => by simp at e; subst e; exact ⟨_, rfl, r⟩
  | _, _, i + 1, x, .cons _ t, e => by
    obtain ⟨u, h1, h2⟩ := Vals.get (i := i) (x := x) t (by simpa using e)
    exact ⟨u, by simpa using h1, h2⟩
theorem Vals.append : ∀ {xs ys : List V} {us ws : List Value}, Vals xs us → Vals ys ws → Vals (xs ++ ys) (us ++ ws)
  | _, _, _, _, .nil, s => s
  | _, _, _, _, .cons r t, s => .cons r (Vals.append t s)
theorem Vals.take : ∀ {xs : List V} {us : List Value} (n : Nat), Vals xs us → Vals (xs.take n) (us.take n)
  | _, _, 0, _ => .nil
  | _, _, _ + 1, .nil => .nil
  | _, _, n + 1, .cons r t => .cons r (Vals.take n t)
theorem Vals.drop : ∀ {xs : List V} {us : List Value} (n : Nat), Vals xs us → Vals (xs.drop n) (us.drop n)
  | _, _, 0, r => r
  | _, _, _ + 1, .nil => .nil
  | _, _, n + 1, .cons _ t => Vals.drop n t

def RelO : Option V → Option Value → Prop
  | some v, some u => RelV v u
  | none, none => True
  | _, _ => False
def KV {κ : Type} : List (κ × V) → List (κ × Value) → Prop := Paired fun (p : κ × V) (q : κ × Value) => p.1 = q.1 ∧ RelV p.2 q.2

/-- a key of a dict (00_mix): an int or a text -/
def kV : Key → V
  | .inl i => .int i
  | .inr x => .str x

/-- what stands at a tracked address -/
inductive HO where
  /-- a list -/
  | lst (xs : List V)
  /-- a tuple (never changes) -/
  | tup (xs : List V)
  /-- a dict whose keys are ints and texts; one whose keys are tuples of ints and texts (the empty one is both) -/
  | dK (kvs : List (Key × V)) | dT (kvs : List (List Key × V))
  /-- a set of ints: its members, its size -/
  | set (S : Int → Bool) (n : Nat)
  /-- an instance of the class at C, its dict at dx, its attributes -/
  | ins (C dx : Addr) (fs : List (Str × V))
  /-- the dict of the instance at x -/
  | own (x : Addr)
  /-- the dict of an exception -/
  | xd (fs : List (Str × V))
  /-- a bound method, f of x -/
  | met (f x : Addr)
  /-- a range object lo, lo + 1, .. below hi -/
  | rng (lo hi : Int)
  /-- a thing that is known to the object (the script; a dict while a loop walks it): read, never written while it is so -/
  | frz (o : Obj) (u : HO)
  /-- a code object's table -/
  | tbl (ps : Array Value)
  /-- any other thing, by what is true of its one object (a def of one's own: SetO a S n := HO.ext fun h => ..) -/
  | ext (φ : Heap → Prop)

abbrev Hp := Addr → Option HO
def upd (H : Hp) (a : Addr) (o : HO) : Hp := fun b => if b = a then some o else H b
theorem upd_same {H : Hp} {a : Addr} {o : HO} : upd H a o a = some o := by unfold upd; rw [if_pos rfl]
theorem upd_ne {H : Hp} {a b : Addr} {o : HO} (h : b ≠ a) : upd H a o b = H b := by unfold upd; rw [if_neg h]
theorem upd_upd {H : Hp} {a : Addr} {o u : HO} : upd (upd H a o) a u = upd H a u := by
  funext b; unfold upd; split <;> rfl
/-- two objects of different content stand apart -/
theorem ne_of {H : Hp} {a b : Addr} {o u : HO} (h : H a = some o) (h' : H b = some u) (d : o ≠ u) : a ≠ b := by
  intro e; subst e; rw [h] at h'; exact d (Option.some.inj h')
theorem ne_of_none {H : Hp} {a b : Addr} {o : HO} (h : H a = some o) (h' : H b = none) : a ≠ b := by
  intro e; subst e; rw [h] at h'; cases h'

section
variable (P : Program) (w : World)
def ObjOk (H : Hp) (h : Heap) (a : Addr) : HO → Prop
  | .lst xs => xs.length ≤ sizeLine ∧ ∃ (its : List Value) (n : Nat), Vals xs its ∧ h.get? a = some { cls := .type "list", data := .seq its.toArray n }
  | .tup xs => xs.length ≤ sizeLine ∧ ∃ its : List Value, Vals xs its ∧ IsTup h a its.toArray
  | .dK kvs => kvs.length ≤ sizeLine ∧ (a == sysModules) = false ∧ ∃ vs, KV kvs vs ∧ h.DictOf (mixKind P w) a vs
  | .dT kvs => kvs.length ≤ sizeLine ∧ (a == sysModules) = false ∧ ∃ xs : List (List Key × Addr × Value),
      Paired (fun (p : List Key × V) (q : List Key × Addr × Value) => p.1 = q.1 ∧ H q.2.1 = some (.tup (p.1.map kV)) ∧ RelV p.2 q.2.2) kvs xs ∧
      ∃ o es ep, h.get? a = some o ∧ o.ExactDict ∧ o.data = .dict es ep ∧ es.toList = xs.map (entryOfKey (tupleKind (mixKind P w))) ∧ (xs.map (·.1)).Nodup
  | .set S n => h.SetOf (intKind P w) a S n
  | .ins C dx fs => H dx = some (.own a) ∧ fs.length ≤ 1000 ∧ dx ≠ a ∧ h.get? a = some (PySem.W.instObj C dx) ∧
      ∃ mA, h.Ns1 dx mA ∧ (∀ f, RelO (fs.lookup f) (mA f)) ∧ PySem.Within mA (fs.map (·.1))
  | .own _ => ∃ o, h.get? a = some o
  | .xd fs => ∃ mA, h.Ns1 a mA ∧ ∀ f, RelO (fs.lookup f) (mA f)
  | .rng lo hi => ∃ t u v, h.get? a = some { cls := .type "range", data := .fields #[.int lo t, .int hi u, .int 1 v] }
  | .frz o u => h.get? a = some o ∧ ObjOk H h a u
  | .tbl ps => h.get? a = some { cls := .none, data := .fields ps }
  | .met f x => h.get? a = some (PySem.W.methodObj (.ref f) (.ref x))
  | .ext φ => φ h ∧ (∃ o, h.get? a = some o) ∧ ∀ h1 h2 : Heap, φ h1 → (∀ o, h1.get? a = some o → h2.get? a = some o) → φ h2
/-- the abstract heap is held -/
def HOk (H : Hp) (h : Heap) : Prop := ∀ a o, H a = some o → ObjOk P w H h a o
end

section
variable {P : Program} {w : World} {H H' : Hp} {h h' : Heap} {a : Addr} {o : HO}
theorem ObjOk.lt (x : ObjOk P w H h a o) : a < h.objs.size := by
  cases o with
  | lst xs => obtain ⟨_, _, _, _, e⟩ := x; exact Heap.lt_size e
  | tup xs => obtain ⟨_, _, _, p⟩ := x; exact p.lt
  | dK kvs => obtain ⟨_, _, _, _, o, _, _, e, _⟩ := x; exact Heap.lt_size e
  | dT kvs => obtain ⟨_, _, _, _, o, _, _, e, _⟩ := x; exact Heap.lt_size e
  | set S n => obtain ⟨o, _, _, _, e, _⟩ := x; exact Heap.lt_size e
  | ins C dx fs => obtain ⟨_, _, _, e, _⟩ := x; exact Heap.lt_size e
  | own y => obtain ⟨_, e⟩ := x; exact Heap.lt_size e
  | xd fs => obtain ⟨_, ⟨_, _, _, e, _⟩, _⟩ := x; exact Heap.lt_size e
  | rng lo hi => obtain ⟨_, _, _, e⟩ := x; exact Heap.lt_size e
  | frz ob u => obtain ⟨e, _⟩ := x; exact Heap.lt_size e
  | tbl ps => exact Heap.lt_size (show h.get? a = some _ from x)
  | met f y => exact Heap.lt_size (show h.get? a = some _ from x)
  | ext φ => obtain ⟨_, ⟨_, e⟩, _⟩ := x; exact Heap.lt_size e
theorem Paired.mapP {α β : Type} {F G : α → β → Prop} : ∀ {l₁ : List α} {l₂ : List β}, Paired F l₁ l₂ → (∀ a b, F a b → G a b) → Paired G l₁ l₂
  | _, _, .nil, _ => .nil
  | _, _, .cons r t, f => .cons (f _ _ r) (Paired.mapP t f)
/-- what an object's description leans on: its own object, its own dict, the tuples -/
theorem ObjOk.stay (x : ObjOk P w H h a o) (k : ∀ b u, (b = a ∨ H b = some (.own a)) → h.get? b = some u → h'.get? b = some u)
    (ho : ∀ b, H b = some (.own a) → H' b = some (.own a)) (ht : ∀ b xs, H b = some (.tup xs) → H' b = some (.tup xs)) : ObjOk P w H' h' a o := by
  induction o with
  | lst xs => obtain ⟨z, its, n, r, e⟩ := x; exact ⟨z, its, n, r, k _ _ (.inl rfl) e⟩
  | tup xs => obtain ⟨z, its, r, ob, e, c⟩ := x; exact ⟨z, its, r, ob, k _ _ (.inl rfl) e, c⟩
  | dK kvs => obtain ⟨z, y, vs, r, ob, es, ep, e, c⟩ := x; exact ⟨z, y, vs, r, ob, es, ep, k _ _ (.inl rfl) e, c⟩
  | dT kvs =>
    obtain ⟨z, y, xs, r, ob, es, ep, e, c⟩ := x
    exact ⟨z, y, xs, Paired.mapP r fun p q z => ⟨z.1, ht _ _ z.2.1, z.2.2⟩, ob, es, ep, k _ _ (.inl rfl) e, c⟩
  | set S n => obtain ⟨ob, es, ep, t, e, c⟩ := x; exact ⟨ob, es, ep, t, k _ _ (.inl rfl) e, c⟩
  | ins C dx fs =>
    obtain ⟨d, z, ne, e, mA, ⟨od, es, ep, e2, c⟩, r⟩ := x
    exact ⟨ho _ d, z, ne, k _ _ (.inl rfl) e, mA, ⟨od, es, ep, k _ _ (.inr d) e2, c⟩, r⟩
  | own y => obtain ⟨ob, e⟩ := x; exact ⟨ob, k _ _ (.inl rfl) e⟩
  | xd fs => obtain ⟨mA, ⟨od, es, ep, e, c⟩, r⟩ := x; exact ⟨mA, ⟨od, es, ep, k _ _ (.inl rfl) e, c⟩, r⟩
  | rng lo hi => obtain ⟨t, u, v, e⟩ := x; exact ⟨t, u, v, k _ _ (.inl rfl) e⟩
  | frz ob u ih => obtain ⟨e, q⟩ := x; exact ⟨k _ _ (.inl rfl) e, ih q⟩
  | tbl ps =>
    have e : h.get? a = some { cls := .none, data := .fields ps } := x
    show h'.get? a = some { cls := .none, data := .fields ps }
    exact k a _ (.inl rfl) e
  | met f y =>
    have e : h.get? a = some (PySem.W.methodObj (.ref f) (.ref y)) := x
    show h'.get? a = some (PySem.W.methodObj (.ref f) (.ref y))
    exact k a _ (.inl rfl) e
  | ext φ => obtain ⟨p, ⟨o, e⟩, st⟩ := x; exact ⟨st _ _ p fun o q => k _ _ (.inl rfl) q, ⟨o, k _ _ (.inl rfl) e⟩, st⟩
theorem HOk.lt (x : HOk P w H h) (e : H a = some o) : a < h.objs.size := (x a o e).lt
theorem HOk.fresh (x : HOk P w H h) (e : h.objs.size ≤ a) : H a = none := by
  cases q : H a with
  | none => rfl
  | some u => exact absurd (Nat.lt_of_lt_of_le (x.lt q) e) (Nat.lt_irrefl _)
/-- every object of the heap is kept -/
theorem HOk.kept (x : HOk P w H h) (k : ∀ b u, h.get? b = some u → h'.get? b = some u) : HOk P w H h' := fun a o e =>
  (x a o e).stay (fun b u _ q => k b u q) (fun _ q => q) fun _ _ q => q
/-- a new object is laid and tracked -/
theorem HOk.laid (x : HOk P w H h) (k : ∀ b u, h.get? b = some u → h'.get? b = some u) (hp : h.objs.size ≤ a) (new : ObjOk P w (upd H a o) h' a o) : HOk P w (upd H a o) h' := fun b u e => by
  have hn := x.fresh hp
  by_cases hb : b = a
  · subst hb; rw [upd_same] at e; cases e; exact new
  · rw [upd_ne hb] at e
    exact (x b u e).stay (fun c v _ q => k c v q) (fun c q => by rw [upd_ne (ne_of_none q hn)]; exact q) fun c xs q => by rw [upd_ne (ne_of_none q hn)]; exact q
end

/-- what may be read as u: it is u, or a known u -/
def Rd (H : Hp) (a : Addr) (u : HO) : Prop := H a = some u ∨ ∃ o, H a = some (.frz o u)
theorem Rd.ok {P : Program} {w : World} {H : Hp} {h : Heap} {a : Addr} {u : HO} (r : Rd H a u) (x : HOk P w H h) : ObjOk P w H h a u := by
  rcases r with r | ⟨o, r⟩
  · exact x a u r
  · obtain ⟨_, q⟩ := x a _ r
    exact q
/-- what may be written -/
def Mut : Option HO → Prop
  | some (.lst _) => True
  | some (.dK _) => True
  | some (.dT _) => True
  | some (.set _ _) => True
  | some (.ins _ _ _) => True
  | some (.ext _) => True
  | _ => False
section
variable {P : Program} {w : World} {H : Hp} {h h' : Heap} {x e : Addr} {o' : HO}
/-- the object at e is changed: x itself, or the dict of the instance x -/
theorem HOk.write (ok : HOk P w H h) (mu : Mut (H x)) (he : e = x ∨ H e = some (.own x)) (k : ∀ b u, b ≠ e → h.get? b = some u → h'.get? b = some u) (heo : ∃ u, h'.get? e = some u)
    (new : ObjOk P w (upd H x o') h' x o') : HOk P w (upd H x o') h' := fun b u q => by
  have nown : ∀ c y, H c = some (.own y) → c ≠ x := fun c y r z => by subst z; rw [r] at mu; exact mu
  have ntup : ∀ c xs, H c = some (.tup xs) → c ≠ x := fun c xs r z => by subst z; rw [r] at mu; exact mu
  by_cases hb : b = x
  · subst hb; rw [upd_same] at q; cases q; exact new
  · rw [upd_ne hb] at q
    by_cases hbe : b = e
    · have q' : H b = some (.own x) := by
        rcases he with z | z
        · exact absurd (hbe.trans z) hb
        · rw [hbe]; exact z
      rw [q] at q'; cases q'
      obtain ⟨v, hv⟩ := heo
      exact ⟨v, by rw [hbe]; exact hv⟩
    · refine (ok b u q).stay (fun c v hc r => k c v ?_ r) (fun c r => by rw [upd_ne (nown c b r)]; exact r) fun c xs r => by rw [upd_ne (ntup c xs r)]; exact r
      rcases hc with rfl | hc
      · exact hbe
      · rintro rfl
        rcases he with z | z
        · exact nown c b hc z
        · rw [hc] at z; cases z; exact hb rfl
end

/-! ### kept unless tracked; of the frames at fs (the callers') the slots may change (an exception that passes writes there); of the records at ex (iterators) nothing is said -/
structure Un (fs ex : List Addr) (H H' : Hp) (h h' : Heap) : Prop where
  keep : ∀ b o, h.get? b = some o → H b = none → b ∉ fs → b ∉ ex → h'.get? b = some o
  slot : ∀ b o, h.get? b = some o → H b = none → b ∈ fs → b ∉ ex → ∃ sl, h'.get? b = some { o with slots := sl }
  free : ∀ b o, h.get? b = some o → H b = none → b ∉ ex → H' b = none
  there : ∀ b o, h.get? b = some o → b ∉ ex → ∃ o', h'.get? b = some o'
  tups : ∀ b xs, H b = some (.tup xs) → H' b = some (.tup xs)
  frzs : ∀ b o u, H b = some (.frz o u) → H' b = some (.frz o u)
  tbls : ∀ b ps, H b = some (.tbl ps) → ∃ more, H' b = some (.tbl (ps ++ more))
section
variable {fs fs' ex ex' : List Addr} {H H1 H2 : Hp} {h h1 h2 h' : Heap} {a x e : Addr} {o : HO}
theorem Un.any (u : Un fs ex H H1 h h1) {b : Addr} {ob : Obj} (q : h.get? b = some ob) (n : H b = none) (hx : b ∉ ex) : ∃ sl, h1.get? b = some { ob with slots := sl } := by
  by_cases hb : b ∈ fs
  · exact u.slot b ob q n hb hx
  · exact ⟨ob.slots, u.keep b ob q n hb hx⟩
theorem Un.kept (k : ∀ b u, h.get? b = some u → h'.get? b = some u) : Un fs ex H H h h' :=
  ⟨fun b ob q _ _ _ => k b ob q, fun b ob q _ _ _ => ⟨ob.slots, k b ob q⟩, fun _ _ _ n _ => n, fun b ob q _ => ⟨ob, k b ob q⟩, fun _ _ q => q, fun _ _ _ q => q, fun _ ps q => ⟨#[], by rw [q]; simp⟩⟩
theorem Un.refl : Un fs ex H H h h := Un.kept fun _ _ q => q
theorem Un.laid (k : ∀ b u, h.get? b = some u → h'.get? b = some u) (hp : h.objs.size ≤ a) (hn : H a = none) : Un fs ex H (upd H a o) h h' where
  keep := fun b u q _ _ _ => k b u q
  slot := fun b u q _ _ _ => ⟨u.slots, k b u q⟩
  free := fun b u q n _ => by rw [upd_ne (Nat.ne_of_lt (Nat.lt_of_lt_of_le (Heap.lt_size q) hp))]; exact n
  there := fun b u q _ => ⟨u, k b u q⟩
  tups := fun b xs q => by rw [upd_ne (ne_of_none q hn)]; exact q
  frzs := fun b u xs q => by rw [upd_ne (ne_of_none q hn)]; exact q
  tbls := fun b ps q => ⟨#[], by rw [upd_ne (ne_of_none q hn), q]; simp⟩
theorem Un.write (mu : Mut (H x)) (he : e = x ∨ H e = some (.own x)) (k : ∀ b u, b ≠ e → h.get? b = some u → h'.get? b = some u) (heo : ∃ u, h'.get? e = some u) : Un fs ex H (upd H x o) h h' := by
  have hx : ∀ b, H b = none → b ≠ x := fun b n z => by subst z; rw [n] at mu; exact mu
  have hb : ∀ b, H b = none → b ≠ e := fun b n z => by
    subst z
    rcases he with r | r
    · exact hx b n r
    · rw [n] at r; cases r
  have hm : ∀ b u, H b = some u → ¬ Mut (some u) → b ≠ x := fun b u q nm z => by subst z; rw [q] at mu; exact nm mu
  refine ⟨fun b u q n _ _ => k b u (hb b n) q, fun b u q n _ _ => ⟨u.slots, k b u (hb b n) q⟩, fun b u q n _ => by rw [upd_ne (hx b n)]; exact n, fun b u q _ => ?_,
    fun b xs q => by rw [upd_ne (hm b _ q fun z => z)]; exact q, fun b u xs q => by rw [upd_ne (hm b _ q fun z => z)]; exact q, fun b ps q => ⟨#[], by rw [upd_ne (hm b _ q fun z => z), q]; simp⟩⟩
  by_cases hbe : b = e
  · subst hbe; exact heo
  · exact ⟨u, k b u hbe q⟩
end

/-! ### the heap without what is tracked -/
def trk (h : Heap) (H : Hp) : List Addr := (List.range h.objs.size).filter fun a => (H a).isSome
def hidT (h : Heap) (H : Hp) : Heap := PySem.W.hideAll h (trk h H)
theorem hidT_size (h : Heap) (H : Hp) : (hidT h H).objs.size = h.objs.size := PySem.W.hideAll_size _ _
theorem hidT_get {h : Heap} {H : Hp} {b : Addr} {o : Obj} (e : h.get? b = some o) (n : H b = none) : (hidT h H).get? b = some o :=
  PySem.W.hideAll_get _ e fun hm => by
    have q : (H b).isSome = true := (List.mem_filter.mp hm).2
    rw [n] at q; simp at q
theorem of_hidT {h : Heap} {H : Hp} {b : Addr} {o : Obj} (e : (hidT h H).get? b = some o) : h.get? b = some o ∧ H b = none := by
  have e' : h.get? b = some o := PySem.W.of_hideAll (trk h H) e
  refine ⟨e', ?_⟩
  cases q : H b with
  | none => rfl
  | some x =>
    have hm : b ∈ trk h H := List.mem_filter.mpr ⟨List.mem_range.mpr (Heap.lt_size e'), by simp [q]⟩
    have z : (hidT h H).get? b = none := PySem.W.hideAll_none (trk h H) hm
    rw [z] at e; cases e

/-! ### OpenK's ledger, filled with every new object but one -/
def allNews (g h : Heap) (L : Addr) : List (Addr × Obj) := (List.range h.objs.size).filterMap fun a => if a = L ∨ (g.get? a).isSome = true then none else (h.get? a).map fun o => (a, o)
def rest (g h : Heap) (L d : Addr) : List (Addr × Obj) := (allNews g h L).filter fun p => decide (p.1 ≠ d)
end L2

namespace L2
open PySem PySem.Spec PyProof.Rows

/-- the module's facts, over the base: the heap at the law's entry without what is tracked there -/
structure Mod (K : PySem.W.Frag) (mg : Str → Option Value) (base : Heap) : Prop where
  kin : K.In base
  glob : base.Ns mainGlobals mg
  blt : ∃ mb, base.Ns builtinsNs mb ∧ ∀ x : Str, x ≠ "__name__" → mb x = bootBuiltins x
  nolimit : base.NoLimit

/-- the context: a def's body (or a comprehension's block) running. base: fixed through the whole law; s₀, H₀: the entry; outer: the frames whose slots others may change (a def's callers); stack: all frames that run;
   ex: iterators that were made ahead of the entry and are walked here (a comprehension's); fn: the names whose cells were made at the entry (a def: all; a comprehension's block: its own); calm: not within an except suite; pn: pins that every state bears; xe: what is wanted of an exception that leaves the code -/
structure Cx where
  prog : Program
  w : World
  K : PySem.W.Frag
  mg : Str → Option Value
  base : Heap
  A : Around
  N : List Str
  s₀ : Shared
  H₀ : Hp
  env : Env
  outer : List Env
  stack : List Env
  ex : List Addr
  fn : Str → Bool
  calm : Bool
  pn : List (Addr × Obj)
  xe : Value → Shared → Prop
/-- the callers' frames -/
def frs (l : List Env) : List Addr := l.filterMap (·.frame)
abbrev Cx.fs (X : Cx) : List Addr := frs X.outer

def Vis (sc : Scope) (x : Str) : Prop := sc.names.lookup x = some .local ∨ sc.names.lookup x = some .cell ∨ sc.names.lookup x = some .free
def Loc (sc : Scope) (x : Str) : Prop := sc.names.lookup x = some .local ∨ sc.names.lookup x = some .cell
def Look (env : Env) (h : Heap) (m : Str → Option Value) (x : Str) (u : Value) : Prop :=
  (env.kindOf x = some .local ∧ m x = some u) ∨ ((env.kindOf x = some .cell ∨ env.kindOf x = some .free) ∧ ∃ c, env.cells.lookup x = some c ∧ h.IsCell c (some u))

structure Cx.Ok (X : Cx) : Prop where
  mod : Mod X.K X.mg X.base
  kind : X.env.scope.kind = .function
  glob : X.env.globals = mainGlobals
  blt : X.env.builtins = builtinsNs
  above : X.s₀.heap.objs.size ≤ X.env.locals
  inj : ∀ x y c, X.env.cells.lookup x = some c → X.env.cells.lookup y = some c → x = y
  has : ∀ x, (X.env.kindOf x = some .cell ∨ X.env.kindOf x = some .free) → ∃ c, X.env.cells.lookup x = some c
  cab : ∀ x c, X.fn x = true → X.env.cells.lookup x = some c → X.s₀.heap.objs.size ≤ c
  hd : X.calm = true → X.A.handled = none
  frames : X.A.frames = some X.stack
  stk : X.stack = X.outer ∨ (X.stack = X.env :: X.outer ∧ X.env.frame = some X.env.locals)
  exf : ∀ b ∈ X.ex, b ≠ X.env.locals ∧ ∀ x c, X.env.cells.lookup x = some c → c ≠ b
  bs : ∀ b o, X.base.get? b = some o → X.s₀.heap.get? b = some o ∧ X.H₀ b = none
  bsz : X.base.objs.size ≤ X.s₀.heap.objs.size
  noex : ∀ b o, X.base.get? b = some o → b ∉ X.ex
  exfs : ∀ b ∈ X.ex, b ∉ X.fs
  funs : X.s₀.heap.FunFrames X.base X.outer
  frf : ∀ b ∈ X.fs, X.H₀ b = none

structure Inv (X : Cx) (pins : List (Addr × Obj)) (σ : List (Option V)) (H : Hp) (s : Shared) : Prop where
  ok : X.Ok
  os : s.os = X.s₀.os
  bare : AllBare s.gens
  base : Un X.fs X.ex X.H₀ H X.s₀.heap s.heap
  loc : ∃ m, s.heap.Ns X.env.locals m ∧ ∀ (i : Nat) (x : Str) (v : V), X.N[i]? = some x → σ[i]? = some (some v) → Vis X.env.scope x → ∃ u, RelV v u ∧ Look X.env s.heap m x u
  cell : ∀ x c, X.env.cells.lookup x = some c → ∃ v, s.heap.IsCell c v
  free : H X.env.locals = none
  freeC : ∀ x c, X.env.cells.lookup x = some c → H c = none
  pin : ∀ p ∈ X.pn ++ pins, s.heap.get? p.1 = some p.2 ∧ H p.1 = none ∧ p.1 ≠ X.env.locals ∧ p.1 ∉ X.fs ∧ ∀ v, p.2.data ≠ .cell v
  hok : HOk X.prog X.w H s.heap
  len : σ.length = X.N.length

section
variable {X : Cx} {pins : List (Addr × Obj)} {σ : List (Option V)} {H H' : Hp} {s : Shared} {h' : Heap}

theorem Cx.Ok.nofr (ok : X.Ok) {b : Addr} {o : Obj} (e : X.base.get? b = some o) : b ∉ X.fs := fun hb => by
  have := (ok.funs.mem hb).1
  rw [e] at this; cases this
theorem Inv.bs (I : Inv X pins σ H s) : ∀ b o, X.base.get? b = some o → s.heap.get? b = some o ∧ H b = none := fun b o e =>
  ⟨I.base.keep b o (I.ok.bs b o e).1 (I.ok.bs b o e).2 (I.ok.nofr e) (I.ok.noex b o e), I.base.free b o (I.ok.bs b o e).1 (I.ok.bs b o e).2 (I.ok.noex b o e)⟩
theorem Inv.bk (I : Inv X pins σ H s) : ∀ b o, X.base.get? b = some o → s.heap.get? b = some o := fun b o e => (I.bs b o e).1
theorem Inv.mod (I : Inv X pins σ H s) : Mod X.K X.mg X.base := I.ok.mod
theorem Inv.kIn (I : Inv X pins σ H s) : X.K.In s.heap := I.ok.mod.kin.keeps I.bk
theorem Inv.lt (I : Inv X pins σ H s) : X.env.locals < s.heap.objs.size := let ⟨_, hn, _⟩ := I.loc; hn.lt
theorem Inv.sz (I : Inv X pins σ H s) : X.s₀.heap.objs.size ≤ s.heap.objs.size := Nat.le_trans I.ok.above (Nat.le_of_lt I.lt)
theorem Inv.nofs (I : Inv X pins σ H s) {a : Addr} (h : s.heap.objs.size ≤ a) : a ∉ X.fs := fun hb => by
  obtain ⟨_, o, ho, _⟩ := I.ok.funs.mem hb
  exact absurd (Nat.lt_of_lt_of_le (Heap.lt_size ho) (Nat.le_trans I.sz h)) (Nat.lt_irrefl _)
theorem Inv.cne (I : Inv X pins σ H s) : ∀ x c, X.env.cells.lookup x = some c → c ≠ X.env.locals := fun x c e z => by
  obtain ⟨v, o, ho, hd⟩ := I.cell x c e
  obtain ⟨m, ⟨o', es, ep, ho', hd', _⟩, _⟩ := I.loc
  rw [z, ho'] at ho; cases ho; rw [hd'] at hd; cases hd
theorem Inv.funs (I : Inv X pins σ H s) : s.heap.FunFrames X.base X.outer := by
  have all : ∀ (l : List Env), (∀ b ∈ frs l, b ∈ X.fs) → X.s₀.heap.FunFrames X.base l → s.heap.FunFrames X.base l := by
    intro l
    induction l with
    | nil => intro _ _; trivial
    | cons env r ih =>
      intro hs hl
      obtain ⟨hk, ⟨L, o, hf, hn, ho, hd⟩, hr⟩ := hl
      have hL : L ∈ X.fs := hs L (by unfold frs; rw [List.filterMap_cons, hf]; exact List.mem_cons_self)
      obtain ⟨sl, e⟩ := I.base.slot L o ho (I.ok.frf L hL) hL fun z => I.ok.exfs L z hL
      exact ⟨hk, ⟨L, _, hf, hn, e, hd⟩, ih (fun b hb => hs b (by unfold frs; rw [List.filterMap_cons, hf]; exact List.mem_cons_of_mem _ hb)) hr⟩
  exact all X.outer (fun _ hb => hb) I.ok.funs

/-- the frames that run, for a call -/
theorem Inv.stack (I : Inv X pins σ H s) : s.heap.FunFrames X.base X.stack := by
  rcases I.ok.stk with e | ⟨e, hf⟩
  · rw [e]; exact I.funs
  · rw [e]
    obtain ⟨m, hn, _⟩ := I.loc
    refine .cons (by rw [I.ok.kind]; decide) hf hn ?_ I.funs
    exact Heap.get?_none_of_le (Nat.le_trans I.ok.bsz I.ok.above)
theorem Inv.stkSub (I : Inv X pins σ H s) : ∀ b ∈ frs X.stack, b ∈ X.env.locals :: X.fs := fun b hb => by
  rcases I.ok.stk with e | ⟨e, hf⟩
  · rw [e] at hb; exact List.mem_cons_of_mem _ hb
  · rw [e] at hb
    unfold frs at hb
    rw [List.filterMap_cons, hf] at hb
    exact hb
theorem Inv.stkFree (I : Inv X pins σ H s) : ∀ b ∈ frs X.stack, H b = none := fun b hb => by
  rcases List.mem_cons.mp (I.stkSub b hb) with e | hb
  · rw [e]; exact I.free
  · obtain ⟨_, o, ho, _⟩ := I.ok.funs.mem hb
    exact I.base.free b o ho (I.ok.frf b hb) fun z => I.ok.exfs b z hb

/-- THE STEP: the untracked objects but the frame and the records at ch are kept (the callers' frames up to slots), the frame's map is kept, the new abstract heap is held -/
theorem Inv.step {g' : Array GenState} {t' : Nat} {d' : Drawn} {ch : List Addr} (I : Inv X pins σ H s)
    (hch : ∀ b ∈ ch, (b ∈ X.ex ∨ X.s₀.heap.objs.size ≤ b) ∧ b ≠ X.env.locals ∧ (∀ x c, X.env.cells.lookup x = some c → c ≠ b) ∧ ∀ p ∈ X.pn ++ pins, p.1 ≠ b)
    (keep : ∀ b o, b ≠ X.env.locals → b ∉ X.fs → b ∉ ch → s.heap.get? b = some o → H b = none → h'.get? b = some o)
    (slot : ∀ b o, b ≠ X.env.locals → b ∈ X.fs → b ∉ ch → s.heap.get? b = some o → H b = none → ∃ sl, h'.get? b = some { o with slots := sl }) (free : ∀ b o, b ∉ ch → s.heap.get? b = some o → H b = none → H' b = none)
    (there : ∀ b o, b ∉ ch → s.heap.get? b = some o → ∃ o', h'.get? b = some o')
    (tups : ∀ b xs, H b = some (.tup xs) → H' b = some (.tup xs)) (frzs : ∀ b o u, H b = some (.frz o u) → H' b = some (.frz o u)) (tbls : ∀ b ps, H b = some (.tbl ps) → ∃ more, H' b = some (.tbl (ps ++ more)))
    (ns : ∀ m, s.heap.Ns X.env.locals m → h'.Ns X.env.locals m) (hok : HOk X.prog X.w H' h') (hg : AllBare g') :
    Inv X pins σ H' { s with heap := h', gens := g', drawn := d', toks := t' } := by
  have neL : ∀ b o, X.s₀.heap.get? b = some o → b ≠ X.env.locals := fun b o e => Nat.ne_of_lt (Nat.lt_of_lt_of_le (Heap.lt_size e) I.ok.above)
  have neC : ∀ b o, X.s₀.heap.get? b = some o → b ∉ X.ex → b ∉ ch := fun b o e hx hb => by
    rcases (hch b hb).1 with z | z
    · exact hx z
    · exact absurd (Nat.lt_of_lt_of_le (Heap.lt_size e) z) (Nat.lt_irrefl _)
  have cellK : ∀ x c, X.env.cells.lookup x = some c → ∀ v, s.heap.IsCell c v → h'.IsCell c v := fun x c e v ⟨o, ho, hd⟩ => by
    have nch : c ∉ ch := fun z => (hch c z).2.2.1 x c e rfl
    by_cases hc : c ∈ X.fs
    · obtain ⟨sl, q⟩ := slot c o (I.cne x c e) hc nch ho (I.freeC x c e)
      exact ⟨_, q, hd⟩
    · exact ⟨o, keep c o (I.cne x c e) hc nch ho (I.freeC x c e), hd⟩
  refine ⟨I.ok, I.os, hg, ⟨fun b o e n hb hx => ?_, fun b o e n hb hx => ?_, fun b o e n hx => ?_, fun b o e hx => ?_, fun b xs e => tups b xs (I.base.tups b xs e), fun b o xs e => frzs b o xs (I.base.frzs b o xs e), fun b ps e => ?_⟩, ?_, fun x c e => ?_, ?_, fun x c e => ?_, fun p hp => ?_, hok, I.len⟩
  · exact keep b o (neL b o e) hb (neC b o e hx) (I.base.keep b o e n hb hx) (I.base.free b o e n hx)
  · obtain ⟨sl, e1⟩ := I.base.slot b o e n hb hx
    obtain ⟨sl', e2⟩ := slot b _ (neL b o e) hb (neC b o e hx) e1 (I.base.free b o e n hx)
    exact ⟨sl', e2⟩
  · obtain ⟨o', e1⟩ := I.base.there b o e hx
    exact free b o' (neC b o e hx) e1 (I.base.free b o e n hx)
  · obtain ⟨o', e1⟩ := I.base.there b o e hx
    exact there b o' (neC b o e hx) e1
  · obtain ⟨m1, e1⟩ := I.base.tbls b ps e
    obtain ⟨m2, e2⟩ := tbls b _ e1
    exact ⟨m1 ++ m2, by rw [e2, Array.append_assoc]⟩
  · obtain ⟨m, hn, hl⟩ := I.loc
    refine ⟨m, ns m hn, fun i x v e1 e2 e3 => ?_⟩
    obtain ⟨u, r, l⟩ := hl i x v e1 e2 e3
    refine ⟨u, r, ?_⟩
    rcases l with l | ⟨k, c, e, z⟩
    · exact .inl l
    · exact .inr ⟨k, c, e, cellK x c e _ z⟩
  · obtain ⟨v, z⟩ := I.cell x c e
    exact ⟨v, cellK x c e v z⟩
  · obtain ⟨m, ⟨o, _, _, ho, _⟩, _⟩ := I.loc
    exact free _ o (fun z => (hch _ z).2.1 rfl) ho I.free
  · obtain ⟨v, o, ho, hd⟩ := I.cell x c e
    exact free c o (fun z => (hch c z).2.2.1 x c e rfl) ho (I.freeC x c e)
  · obtain ⟨e, n, ne, nf, d⟩ := I.pin p hp
    have nch : p.1 ∉ ch := fun z => (hch p.1 z).2.2.2 p hp rfl
    exact ⟨keep p.1 p.2 ne nf nch e n, free p.1 p.2 nch e n, ne, nf, d⟩
/-- .. where the frame's own object is kept too -/
theorem Inv.un {t' : Nat} (I : Inv X pins σ H s) (u : Un X.fs [] H H' s.heap h') (hok : HOk X.prog X.w H' h') : Inv X pins σ H' { s with heap := h', toks := t' } := by
  obtain ⟨m, ⟨o, es, ep, ho, r⟩, _⟩ := id I.loc
  obtain ⟨sl, hL⟩ := u.any ho I.free (by simp)
  exact I.step (g' := s.gens) (d' := s.drawn) (ch := []) (fun _ z => nomatch z) (fun b o _ hb _ e n => u.keep b o e n hb (by simp)) (fun b o _ hb _ e n => u.slot b o e n hb (by simp)) (fun b o _ e n => u.free b o e n (by simp)) (fun b o _ e => u.there b o e (by simp)) u.tups u.frzs u.tbls (fun m' hm => by
    obtain ⟨o', es', ep', ho', r'⟩ := hm
    rw [ho] at ho'; cases ho'
    exact ⟨_, es', ep', hL, r'⟩) hok I.bare
/-- behind a call (or a comprehension's block): the slots of this frame may have changed too, the records at ch may have turned -/
theorem Inv.call {g' : Array GenState} {t' : Nat} {d' : Drawn} {ch : List Addr} (I : Inv X pins σ H s) (u : Un (frs X.stack) ch H H' s.heap h') (hok : HOk X.prog X.w H' h') (hg : AllBare g')
    (hch : ∀ b ∈ ch, (b ∈ X.ex ∨ X.s₀.heap.objs.size ≤ b) ∧ b ≠ X.env.locals ∧ (∀ x c, X.env.cells.lookup x = some c → c ≠ b) ∧ ∀ p ∈ X.pn ++ pins, p.1 ≠ b) :
    Inv X pins σ H' { s with heap := h', gens := g', drawn := d', toks := t' } := by
  obtain ⟨m, ⟨o, es, ep, ho, r⟩, _⟩ := id I.loc
  obtain ⟨sl, hL⟩ := u.any ho I.free fun z => (hch _ z).2.1 rfl
  exact I.step (ch := ch) hch (fun b o hL hb hc e n => u.keep b o e n (fun z => (List.mem_cons.mp (I.stkSub b z)).elim hL hb) hc) (fun b o _ _ hc e n => u.any e n hc) (fun b o hc e n => u.free b o e n hc) (fun b o hc e => u.there b o e hc) u.tups u.frzs u.tbls (fun m' hm => by
    obtain ⟨o', es', ep', ho', r'⟩ := hm
    rw [ho] at ho'; cases ho'
    exact ⟨_, es', ep', hL, r'⟩) hok hg
/-- an untracked record of ours (an iterator) has turned -/
theorem Inv.turned {t' : Nat} {it : Addr} (I : Inv X pins σ H s) (k : ∀ b o, b ≠ it → s.heap.get? b = some o → h'.get? b = some o) (hn : H it = none) (hL : it ≠ X.env.locals)
    (h1 : it ∈ X.ex ∨ X.s₀.heap.objs.size ≤ it) (h2 : ∀ x c, X.env.cells.lookup x = some c → c ≠ it) (h3 : ∀ p ∈ X.pn ++ pins, p.1 ≠ it) : Inv X pins σ H { s with heap := h', toks := t' } := by
  have nit : ∀ b u, H b = some u → b ≠ it := fun b u e z => by rw [z, hn] at e; cases e
  refine I.step (g' := s.gens) (d' := s.drawn) (ch := [it]) (fun b hb => ?_) (fun b o _ _ hc e _ => k b o (fun z => hc (by simp [z])) e) (fun b o _ _ hc e _ => ⟨o.slots, k b o (fun z => hc (by simp [z])) e⟩) (fun _ _ _ _ n => n)
    (fun b o hc e => ⟨o, k b o (fun z => hc (by simp [z])) e⟩) (fun _ _ e => e) (fun _ _ _ e => e) (fun b ps e => ⟨#[], by rw [e]; simp⟩) (fun m hm => ?_) (fun b u e => ?_) I.bare
  · have e : b = it := by simpa using hb
    subst e
    exact ⟨h1, hL, h2, h3⟩
  · obtain ⟨o, es, ep, ho, r⟩ := hm
    exact ⟨o, es, ep, k _ o (Ne.symm hL) ho, r⟩
  · refine (I.hok b u e).stay (fun c v hc q => k c v ?_ q) (fun _ q => q) fun _ _ q => q
    rcases hc with z | z
    · rw [z]; exact nit b u e
    · exact nit c _ z
theorem Inv.tok (I : Inv X pins σ H s) (t : Nat) : Inv X pins σ H { s with toks := t } := I.un (h' := s.heap) (t' := t) Un.refl I.hok
/-- all objects kept -/
theorem Inv.kept {t' : Nat} (I : Inv X pins σ H s) (k : ∀ b u, s.heap.get? b = some u → h'.get? b = some u) : Inv X pins σ H { s with heap := h', toks := t' } := I.un (Un.kept k) (I.hok.kept k)
/-- a new object laid and tracked -/
theorem Inv.laid {a : Addr} {o : HO} {t' : Nat} (I : Inv X pins σ H s) (k : ∀ b u, s.heap.get? b = some u → h'.get? b = some u) (hp : s.heap.objs.size ≤ a) (new : ObjOk X.prog X.w (upd H a o) h' a o) :
    Inv X pins σ (upd H a o) { s with heap := h', toks := t' } := I.un (Un.laid k hp (I.hok.fresh hp)) (I.hok.laid k hp new)
/-- an object written -/
theorem Inv.write {x e : Addr} {o : HO} {t' : Nat} (I : Inv X pins σ H s) (mu : Mut (H x)) (he : e = x ∨ H e = some (.own x)) (k : ∀ b u, b ≠ e → s.heap.get? b = some u → h'.get? b = some u) (heo : ∃ u, h'.get? e = some u)
    (new : ObjOk X.prog X.w (upd H x o) h' x o) : Inv X pins σ (upd H x o) { s with heap := h', toks := t' } := I.un (Un.write mu he k heo) (I.hok.write mu he k heo new)
theorem Inv.pins_of {pins' : List (Addr × Obj)} (I : Inv X pins σ H s) (h : ∀ p ∈ pins', s.heap.get? p.1 = some p.2 ∧ H p.1 = none ∧ p.1 ≠ X.env.locals ∧ p.1 ∉ X.fs ∧ ∀ v, p.2.data ≠ .cell v) : Inv X pins' σ H s :=
  ⟨I.ok, I.os, I.bare, I.base, I.loc, I.cell, I.free, I.freeC, fun p hp => (List.mem_append.mp hp).elim (fun z => I.pin p (List.mem_append_left _ z)) (h p), I.hok, I.len⟩

theorem nodup_ix {N : List Str} (hN : N.Nodup) {i j : Nat} {x : Str} (a : N[i]? = some x) (b : N[j]? = some x) : i = j := by
  obtain ⟨h1, e1⟩ := List.getElem?_eq_some_iff.mp a
  obtain ⟨h2, e2⟩ := List.getElem?_eq_some_iff.mp b
  exact (List.getElem_inj hN).mp (e1.trans e2.symm)

/-- a name is stored; what changed -/
theorem store_ok2 {M : Model} {A : Around} {E : Value → Shared → Prop} {i : Nat} {x : Str} {v : V} {u : Value} {Q : Unit → Shared → Prop} (I : Inv X pins σ H s) (hN : X.N.Nodup) (hi : X.N[i]? = some x) (hx : Loc X.env.scope x) (r : RelV v u)
    (h : ∀ s', Inv X pins (σ.set i (some v)) H s' → (∃ a, Heap.SameBut a s.heap s'.heap ∧ (a = X.env.locals ∨ X.env.cells.lookup x = some a)) → Q () s') (hf : X.fn x = true ∨ X.env.scope.names.lookup x = some .local := by first | exact .inl rfl | exact .inr rfl | assumption) : wpAny M A (storeName X.env x u) Q E s := by
  obtain ⟨m, hn, hl⟩ := id I.loc
  have hcls : (X.env.scope.kind == .class || (X.env.scope.kind == .module && X.env.locals != X.env.globals)) = false := by rw [I.ok.kind]; rfl
  have hiσ : i < σ.length := by rw [I.len]; exact (List.getElem?_eq_some_iff.mp hi).1
  have cne := I.cne
  have tracked : ∀ {a : Addr} {h' : Heap}, (∃ o, s.heap.get? a = some o ∧ H a = none) → Heap.SameBut a s.heap h' → HOk X.prog X.w H h' := fun {a h'} ha hs b ob e => by
    obtain ⟨_, _, hfree⟩ := ha
    refine (I.hok b ob e).stay (fun c w' hc q => (hs.2 c ?_).trans q) (fun _ q => q) fun _ _ q => q
    rintro rfl
    rcases hc with rfl | hc
    · rw [hfree] at e; cases e
    · rw [hfree] at hc; cases hc
  rcases hx with hk | hk
  · refine wpAny_storeName_local hk hn (fun h' hn' hs => ?_) hcls
    obtain ⟨oL, _, _, hoL, _⟩ := id hn
    refine h _ ⟨I.ok, I.os, I.bare, ⟨fun b o e n hb hx => ?_, fun b o e n hb hx => ?_, I.base.free, fun b o e hx => ?_, I.base.tups, I.base.frzs, I.base.tbls⟩, ⟨_, hn', fun j y v' e1 e2 e3 => ?_⟩, fun y c e => ?_, I.free, I.freeC, fun p hp => ?_, tracked ⟨oL, hoL, I.free⟩ hs, by simpa using I.len⟩ ⟨_, hs, .inl rfl⟩
    · exact (hs.2 b (Nat.ne_of_lt (Nat.lt_of_lt_of_le (Heap.lt_size e) I.ok.above))).trans (I.base.keep b o e n hb hx)
    · obtain ⟨sl, e1⟩ := I.base.slot b o e n hb hx
      exact ⟨sl, (hs.2 b (Nat.ne_of_lt (Nat.lt_of_lt_of_le (Heap.lt_size e) I.ok.above))).trans e1⟩
    · obtain ⟨o', e1⟩ := I.base.there b o e hx
      exact ⟨o', (hs.2 b (Nat.ne_of_lt (Nat.lt_of_lt_of_le (Heap.lt_size e) I.ok.above))).trans e1⟩
    · by_cases hj : j = i
      · subst hj
        rw [hi] at e1; cases e1
        rw [List.getElem?_set_self hiσ] at e2
        cases e2
        exact ⟨u, r, .inl ⟨hk, by simp⟩⟩
      · rw [List.getElem?_set_ne (Ne.symm hj)] at e2
        obtain ⟨u', r', q⟩ := hl j y v' e1 e2 e3
        refine ⟨u', r', ?_⟩
        rcases q with ⟨k, e⟩ | ⟨k, c, e, z⟩
        · refine .inl ⟨k, ?_⟩
          have : y ≠ x := fun e => hj (nodup_ix hN e1 (e ▸ hi))
          simp [this, e]
        · exact .inr ⟨k, c, e, z.sameBut hs (cne y c e)⟩
    · obtain ⟨w', z⟩ := I.cell y c e
      exact ⟨w', z.sameBut hs (cne y c e)⟩
    · obtain ⟨e, n, ne, nf, d⟩ := I.pin p hp
      exact ⟨(hs.2 p.1 ne).trans e, n, ne, nf, d⟩
  · have hfn : X.fn x = true := by
      rcases hf with z | z
      · exact z
      · rw [z] at hk; cases hk
    obtain ⟨c, hc⟩ := I.ok.has x (.inl hk)
    obtain ⟨w', z⟩ := I.cell x c hc
    refine wpAny_storeName_cell I.ok.kind hk hc z (fun h' hc' hs => ?_)
    obtain ⟨oc, hoc, hocd⟩ := id z
    refine h { s with heap := h' } ⟨I.ok, I.os, I.bare, ⟨fun b o e n hb hx => ?_, fun b o e n hb hx => ?_, I.base.free, fun b o e hx => ?_, I.base.tups, I.base.frzs, I.base.tbls⟩, ⟨m, hn.sameBut hs (Ne.symm (cne x c hc)), fun j y v' e1 e2 e3 => ?_⟩, fun y c' e => ?_, I.free, I.freeC, fun p hp => ?_, tracked ⟨oc, hoc, I.freeC x c hc⟩ hs, by simpa using I.len⟩ ⟨c, hs, .inr hc⟩
    · exact (hs.2 b (Nat.ne_of_lt (Nat.lt_of_lt_of_le (Heap.lt_size e) (I.ok.cab x c hfn hc)))).trans (I.base.keep b o e n hb hx)
    · obtain ⟨sl, e1⟩ := I.base.slot b o e n hb hx
      exact ⟨sl, (hs.2 b (Nat.ne_of_lt (Nat.lt_of_lt_of_le (Heap.lt_size e) (I.ok.cab x c hfn hc)))).trans e1⟩
    · obtain ⟨o', e1⟩ := I.base.there b o e hx
      exact ⟨o', (hs.2 b (Nat.ne_of_lt (Nat.lt_of_lt_of_le (Heap.lt_size e) (I.ok.cab x c hfn hc)))).trans e1⟩
    · by_cases hj : j = i
      · subst hj
        rw [hi] at e1; cases e1
        rw [List.getElem?_set_self hiσ] at e2
        cases e2
        exact ⟨u, r, .inr ⟨.inl hk, c, hc, hc'⟩⟩
      · rw [List.getElem?_set_ne (Ne.symm hj)] at e2
        obtain ⟨u', r', q⟩ := hl j y v' e1 e2 e3
        refine ⟨u', r', ?_⟩
        rcases q with q | ⟨k, c', e, z'⟩
        · exact .inl q
        · refine .inr ⟨k, c', e, z'.sameBut hs ?_⟩
          rintro rfl
          exact hj (nodup_ix hN e1 (I.ok.inj _ _ _ e hc ▸ hi))
    · by_cases hcc : c' = c
      · subst hcc; exact ⟨_, hc'⟩
      · obtain ⟨w2, z2⟩ := I.cell y c' e
        exact ⟨w2, z2.sameBut hs hcc⟩
    · obtain ⟨e, n, ne, nf, d⟩ := I.pin p hp
      refine ⟨(hs.2 p.1 ?_).trans e, n, ne, nf, d⟩
      intro q
      rw [q, hoc] at e
      have q' : oc = p.2 := Option.some.inj e
      exact d w' (by rw [← q']; exact hocd)
theorem store_ok {M : Model} {A : Around} {E : Value → Shared → Prop} {i : Nat} {x : Str} {v : V} {u : Value} {Q : Unit → Shared → Prop} (I : Inv X pins σ H s) (hN : X.N.Nodup) (hi : X.N[i]? = some x) (hx : Loc X.env.scope x) (r : RelV v u)
    (h : ∀ s', Inv X pins (σ.set i (some v)) H s' → Q () s') (hf : X.fn x = true ∨ X.env.scope.names.lookup x = some .local := by first | exact .inl rfl | exact .inr rfl | assumption) : wpAny M A (storeName X.env x u) Q E s :=
  store_ok2 I hN hi hx r (fun s' I' _ => h s' I') hf
/-- behind a call or a block, the state as it is -/
theorem Inv.call' {s' : Shared} {ch : List Addr} (I : Inv X pins σ H s) (ho : s'.os = s.os) (u : Un (frs X.stack) ch H H' s.heap s'.heap) (hok : HOk X.prog X.w H' s'.heap) (hg : AllBare s'.gens)
    (hch : ∀ b ∈ ch, (b ∈ X.ex ∨ X.s₀.heap.objs.size ≤ b) ∧ b ≠ X.env.locals ∧ (∀ x c, X.env.cells.lookup x = some c → c ≠ b) ∧ ∀ p ∈ X.pn ++ pins, p.1 ≠ b) : Inv X pins σ H' s' := by
  obtain ⟨h', g', d', t', o'⟩ := s'
  have e : o' = s.os := ho
  subst e
  exact I.call (g' := g') (t' := t') (d' := d') u hok hg hch
end

/-! ### the judgements -/
/-- an exception: its class, its own dict's address (where it has one), the abstract heap behind it -/
abbrev XK := Value → Option Addr → Hp → Prop
abbrev St := List (Option V)
abbrev VK := V → Hp → Prop
/-- an expression's reading; a test's; an argument list's -/
abbrev TE := St → Hp → VK → Prop
abbrev TT := St → Hp → (Bool → Hp → Prop) → Prop
abbrev TA := St → Hp → (List V → Hp → Prop) → Prop
/-- what is wanted behind a statement -/
structure Ends where
  nx : St → Hp → Prop
  rt : VK
  bk : St → Hp → Prop := fun _ _ => False
  ct : St → Hp → Prop := fun _ _ => False
abbrev TS := Ends → St → Hp → Prop

def EP (X : Cx) (pins : List (Addr × Obj)) (σ : St) (Q : VK) (u : Value) (s' : Shared) : Prop := ∃ v H', Inv X pins σ H' s' ∧ RelV v u ∧ Q v H'
def TP (X : Cx) (pins : List (Addr × Obj)) (σ : St) (Q : Bool → Hp → Prop) (b : Bool) (s' : Shared) : Prop := ∃ H', Inv X pins σ H' s' ∧ Q b H'
def AP (X : Cx) (pins : List (Addr × Obj)) (σ : St) (Q : List V → Hp → Prop) (us : List Value) (s' : Shared) : Prop := ∃ vs H', Inv X pins σ H' s' ∧ Vals vs us ∧ Q vs H'
def SP (X : Cx) (pins : List (Addr × Obj)) (D : Ends) (f : Flow) (s' : Shared) : Prop :=
  match f with
  | .next => ∃ σ' H', Inv X pins σ' H' s' ∧ D.nx σ' H'
  | .brk => ∃ σ' H', Inv X pins σ' H' s' ∧ D.bk σ' H'
  | .cont => ∃ σ' H', Inv X pins σ' H' s' ∧ D.ct σ' H'
  | .ret u => ∃ v σ' H', Inv X pins σ' H' s' ∧ RelV v u ∧ D.rt v H'

def PE (X : Cx) (e : Expr) (t : TE) : Prop :=
  ∀ (pins : List (Addr × Obj)) (s : Shared) (σ : St) (H : Hp) (Q : VK), Inv X pins σ H s → t σ H Q → wpAny (model X.prog X.w) X.A (eval e X.env) (EP X pins σ Q) X.xe s
def PT (X : Cx) (e : Expr) (t : TT) : Prop :=
  ∀ (pins : List (Addr × Obj)) (s : Shared) (σ : St) (H : Hp) (Q : Bool → Hp → Prop), Inv X pins σ H s → t σ H Q → wpAny (model X.prog X.w) X.A (isTrue e X.env (eval e X.env)) (TP X pins σ Q) X.xe s
/-- a test whatever its 'whole' is (and, or) -/
def PW (X : Cx) (e : Expr) (t : TT) : Prop :=
  ∀ (whole : Sem Value) (pins : List (Addr × Obj)) (s : Shared) (σ : St) (H : Hp) (Q : Bool → Hp → Prop), Inv X pins σ H s → t σ H Q → wpAny (model X.prog X.w) X.A (isTrue e X.env whole) (TP X pins σ Q) X.xe s
theorem PW.pt {X : Cx} {e : Expr} {t : TT} (h : PW X e t) : PT X e t := h _
/-- an argument list (no star), from the left -/
def PA (X : Cx) (es : List Expr) (t : TA) : Prop :=
  ∀ (pos : Pos) (pins : List (Addr × Obj)) (s : Shared) (σ : St) (H : Hp) (Q : List V → Hp → Prop), Inv X pins σ H s → t σ H Q → wpAny (model X.prog X.w) X.A (spliced (backTo pos (starEach es X.env))) (AP X pins σ Q) X.xe s
def PS (X : Cx) (st : Stmt) (t : TS) : Prop :=
  ∀ (pins : List (Addr × Obj)) (s : Shared) (σ : St) (H : Hp) (D : Ends), Inv X pins σ H s → t D σ H → wpAny (model X.prog X.w) X.A (exec st X.env) (SP X pins D) X.xe s
def PSs (X : Cx) (st : List Stmt) (t : TS) : Prop :=
  ∀ (pins : List (Addr × Obj)) (s : Shared) (σ : St) (H : Hp) (D : Ends), Inv X pins σ H s → t D σ H → wpAny (model X.prog X.w) X.A (execs st X.env) (SP X pins D) X.xe s
/-- weaken the end -/
theorem thn {α : Type} {t : Sem α} {Q Q' : α → Shared → Prop} {M : Model} {A : Around} {E : Value → Shared → Prop} {s : Shared} (h : wpAny M A t Q E s) (hQ : ∀ a s, Q a s → Q' a s) : wpAny M A t Q' E s := wpAny_mono h hQ fun _ _ x => x
end L2

namespace L2
open PySem PySem.Spec PyProof.Rows
section
variable {X : Cx}


/-! ### names and constants -/
def tVar (i : Nat) : TE := fun σ H Q => ∃ v, σ[i]? = some (some v) ∧ Q v H
def tC (v : V) : TE := fun _ H Q => Q v H
theorem pe_var {i : Nat} {x : Str} {pos : Pos} (hN : X.N[i]? = some x) (hv : Vis X.env.scope x) (hd : (x == ("__debug__" : Str)) = false := by decide) (hcd : (x == ("__classdict__" : Str)) = false := by decide) : PE X (.Name x pos) (tVar i) := by
  intro pins s σ H Q I h
  obtain ⟨v, e, h⟩ := h
  obtain ⟨m, hn, hl⟩ := I.loc
  obtain ⟨u, r, l⟩ := hl i x v hN e hv
  have fin : EP X pins σ Q u s := ⟨v, H, I, r, h⟩
  rcases l with ⟨hk, hm⟩ | ⟨hk, c, hc, hcell⟩
  · exact wpAny_Name (wpAny_loadName_local I.ok.kind hk hn hm fin) hd
  · rcases hk with hk | hk
    · exact wpAny_Name (wpAny_loadName_cell I.ok.kind hk hc hcell fin) hd
    · exact wpAny_Name (wpAny_loadName_free I.ok.kind hk hc hcell fin hcd) hd
theorem pe_int {i j pos} : PE X (.Constant (.int i) j pos) (tC (.int i)) := fun _ _ _ H _ I h => wpAny_Constant_int ⟨.int i, H, I.tok _, ⟨_, rfl⟩, h⟩
theorem pe_bl {b j pos} : PE X (.Constant (.bool b) j pos) (tC (.bl b)) := fun _ _ _ H _ I h => Constant_bool ⟨.bl b, H, I, rfl, h⟩
theorem pe_non {j pos} : PE X (.Constant .none j pos) (tC .non) := fun _ _ _ H _ I h => Constant_none ⟨.non, H, I, rfl, h⟩
theorem pe_str {x j pos} : PE X (.Constant (.str x) j pos) (tC (.str x)) := fun _ _ _ H _ I h => Calls.Constant_str ⟨.str x, H, I.tok _, ⟨_, rfl⟩, h⟩

/-- a global name of the def -/
def Gl (X : Cx) (x : Str) : Prop := X.env.kindOf x = some .globalImplicit
theorem ld_glob {E : Value → Shared → Prop} {pins : List (Addr × Obj)} {s : Shared} {σ : St} {H : Hp} {x : Str} {u : Value} {pos : Pos} {Q : Value → Shared → Prop} (I : Inv X pins σ H s) (hg : Gl X x) (hm : X.mg x = some u) (h : Q u s)
    (hd : (x == ("__debug__" : Str)) = false := by decide) : wpAny (model X.prog X.w) X.A (eval (.Name x pos) X.env) Q E s :=
  Calls.Name_function_global I.ok.kind hg (Calls.loadGlobal_global (by rw [I.ok.glob]; exact I.mod.glob.keeps I.bk) hm h) hd
theorem ld_blt {E : Value → Shared → Prop} {pins : List (Addr × Obj)} {s : Shared} {σ : St} {H : Hp} {x : Str} {u : Value} {pos : Pos} {Q : Value → Shared → Prop} (I : Inv X pins σ H s) (hg : Gl X x) (hm : X.mg x = none) (hv : bootBuiltins x = some u) (h : Q u s)
    (hn : x ≠ "__name__" := by decide) (hd : (x == ("__debug__" : Str)) = false := by decide) : wpAny (model X.prog X.w) X.A (eval (.Name x pos) X.env) Q E s := by
  obtain ⟨mb, h1, h2⟩ := I.mod.blt
  exact Calls.Name_function_global I.ok.kind hg (Calls.loadGlobal_builtin (by rw [I.ok.glob]; exact I.mod.glob.keeps I.bk) hm (by rw [I.ok.blt]; exact h1.keeps I.bk) ((h2 x hn).trans hv) h) hd
/-- a module's constant, a class, a function, as a value -/
theorem pe_glob {x : Str} {v : V} {u : Value} {pos : Pos} (hg : Gl X x) (hm : X.mg x = some u) (r : RelV v u) (hd : (x == ("__debug__" : Str)) = false := by decide) : PE X (.Name x pos) (tC v) :=
  fun _ _ _ H _ I h => ld_glob I hg hm ⟨v, H, I, r, h⟩ hd
theorem pe_bltn {x : Str} {v : V} {u : Value} {pos : Pos} (hg : Gl X x) (hm : X.mg x = none) (hv : bootBuiltins x = some u) (r : RelV v u) (hn : x ≠ "__name__" := by decide) (hd : (x == ("__debug__" : Str)) = false := by decide) : PE X (.Name x pos) (tC v) :=
  fun _ _ _ H _ I h => ld_blt I hg hm hv ⟨v, H, I, r, h⟩ hn hd

/-! ### arithmetic -/
/-- two ints -/
def t2I (ta tb : TE) (k : Int → Int → Hp → Prop) : St → Hp → Prop := fun σ H => ta σ H fun x H1 => tb σ H1 fun y H2 => ∃ i j, x = .int i ∧ y = .int j ∧ k i j H2
def tAdd (ta tb : TE) : TE := fun σ H Q => t2I ta tb (fun i j H2 => Q (.int (i + j)) H2) σ H
def tSub (ta tb : TE) : TE := fun σ H Q => t2I ta tb (fun i j H2 => Q (.int (i - j)) H2) σ H
/-- the left factor below 2^64 -/
def tMul (ta tb : TE) : TE := fun σ H Q => t2I ta tb (fun i j H2 => (-(2 ^ 64) < i ∧ i < 2 ^ 64) ∧ Q (.int (i * j)) H2) σ H
variable {a b : Expr} {ta tb : TE} {pos : Pos}

/-! ### comparisons -/
def PC (X : Cx) (op : CmpOp) (a b : Expr) (t : TE) : Prop :=
  ∀ (pins : List (Addr × Obj)) (s : Shared) (σ : St) (H : Hp) (Q : VK), Inv X pins σ H s → t σ H Q →
    wpAny (model X.prog X.w) X.A (eval a X.env) (fun v s₁ => wpAny (model X.prog X.w) X.A (eval b X.env) (fun u s₂ => wpAny (model X.prog X.w) X.A (compareOp op v u) (EP X pins σ Q) X.xe s₂) X.xe s₁) X.xe s
def tCmp (p : Int → Int → Bool) (ta tb : TE) : TE := fun σ H Q => t2I ta tb (fun i j H2 => Q (.bl (p i j)) H2) σ H
abbrev tLt : TE → TE → TE := tCmp fun i j => decide (i < j)
abbrev tLe : TE → TE → TE := tCmp fun i j => decide (i ≤ j)
abbrev tGt : TE → TE → TE := tCmp fun i j => decide (j < i)
abbrev tGe : TE → TE → TE := tCmp fun i j => decide (j ≤ i)
abbrev tEqI : TE → TE → TE := tCmp fun i j => decide (i = j)
abbrev tNeI : TE → TE → TE := tCmp fun i j => !decide (i = j)
/-- is None -/
def tIsN (ta : TE) : TE := fun σ H Q => ta σ H fun x H1 => Q (.bl (decide (x = .non))) H1
def tNotN (ta : TE) : TE := fun σ H Q => ta σ H fun x H1 => Q (.bl (!decide (x = .non))) H1
/-- a comparison as a value, as a test -/
def tB (t : TE) : TT := fun σ H Q => t σ H fun x H1 => ∃ c, x = .bl c ∧ Q c H1
theorem pt_cmp {op : CmpOp} {t : TE} (h : PC X op a b t) (h1 : behindInMarks op b = false := by first | exact nobehind _ (by decide) (by decide) | rfl) : PT X (.Compare a [op] [b] pos) (tB t) := by
  intro pins s σ H Q I hw
  refine wpAny_isTrue_Compare1 (thn (h pins s σ H _ I hw) fun v s1 h1 => thn h1 fun u s2 h2 => thn h2 fun c s3 ⟨x, H1, I1, r1, q1⟩ => ?_) h1
  obtain ⟨d, rfl, q⟩ := q1
  cases r1
  exact wpAny_truthy_bool ⟨H1, I1, q⟩
/-- an expression whose value is a bool, as a test -/
theorem pt_val {e : Expr} {t : TE} (h : PE X e t) (he : ∀ whole, isTrue e X.env whole = (do let v ← whole; standAt e.pos; holding [v] (truthy v)) := by intro _; rfl) : PT X e (tB t) := by
  intro pins s σ H Q I hw
  refine isTrue_plain (thn (h pins s σ H _ I hw) fun v s1 ⟨x, H1, I1, r1, q1⟩ => ?_) (he _)
  obtain ⟨d, rfl, q⟩ := q1
  cases r1
  exact wpAny_truthy_bool ⟨H1, I1, q⟩

/-! ### and, or, not -/
variable {tA tB' : TT} {rest : List Expr}
def tAnd (t u : TT) : TT := fun σ H Q => t σ H fun c H1 => if c = true then u σ H1 Q else Q false H1
def tOr (t u : TT) : TT := fun σ H Q => t σ H fun c H1 => if c = true then Q true H1 else u σ H1 Q
def tNot (t : TT) : TT := fun σ H Q => t σ H fun c H1 => Q (!c) H1
theorem pw_and1 (ha : PT X a tA) : PW X (.BoolOp .And [a] pos) tA := by
  intro wh pins s σ H Q I h
  refine isTrue_and (thn (ha pins s σ H Q I h) fun c s1 e => ?_)
  cases c with
  | true => exact isTrue_and_nil e
  | false => exact e
theorem pw_or1 (ha : PT X a tA) : PW X (.BoolOp .Or [a] pos) tA := by
  intro wh pins s σ H Q I h
  refine isTrue_or (thn (ha pins s σ H Q I h) fun c s1 e => ?_)
  cases c with
  | false => exact isTrue_or_nil e
  | true => exact e
theorem pw_and (ha : PT X a tA) (hb : PW X (.BoolOp .And (b :: rest) pos) tB') : PW X (.BoolOp .And (a :: b :: rest) pos) (tAnd tA tB') := by
  intro wh pins s σ H Q I h
  refine isTrue_and (thn (ha pins s σ H _ I h) fun c s1 ⟨H1, I1, q1⟩ => ?_)
  cases c with
  | true => exact hb wh pins s1 σ H1 Q I1 q1
  | false => exact ⟨H1, I1, q1⟩
theorem pw_or (ha : PT X a tA) (hb : PW X (.BoolOp .Or (b :: rest) pos) tB') : PW X (.BoolOp .Or (a :: b :: rest) pos) (tOr tA tB') := by
  intro wh pins s σ H Q I h
  refine isTrue_or (thn (ha pins s σ H _ I h) fun c s1 ⟨H1, I1, q1⟩ => ?_)
  cases c with
  | true => exact ⟨H1, I1, q1⟩
  | false => exact hb wh pins s1 σ H1 Q I1 q1
theorem pt_not (ha : PT X a tA) : PT X (.UnaryOp .Not a pos) (tNot tA) := by
  intro pins s σ H Q I h
  exact isTrue_not (ha pins s σ H (fun c H1 => Q (!c) H1) I h)
/-- .. as values (bools) -/
def tAndV (ta tb : TE) : TE := fun σ H Q => ta σ H fun x H1 => ∃ c, x = .bl c ∧ if c = true then tb σ H1 Q else Q (.bl false) H1
def tOrV (ta tb : TE) : TE := fun σ H Q => ta σ H fun x H1 => ∃ c, x = .bl c ∧ if c = true then Q (.bl true) H1 else tb σ H1 Q
def tNotV (ta : TE) : TE := fun σ H Q => ta σ H fun x H1 => ∃ c, x = .bl c ∧ Q (.bl (!c)) H1
theorem pe_one {op} {t : TE} (h : PE X a t) : PE X (.BoolOp op [a] pos) t := fun pins s σ H Q I hw => BoolOp_one (h pins s σ H Q I hw)
theorem pe_and (ha : PE X a ta) (hb : PE X (.BoolOp .And (b :: rest) pos) tb) : PE X (.BoolOp .And (a :: b :: rest) pos) (tAndV ta tb) := by
  intro pins s σ H Q I h
  refine BoolOp_and (thn (ha pins s σ H _ I h) fun v s1 ⟨x, H1, I1, r1, q1⟩ => ?_)
  obtain ⟨c, rfl, q1⟩ := q1
  cases r1
  refine wpAny_truthy_bool ?_
  cases c with
  | true => exact hb pins s1 σ H1 Q I1 q1
  | false => exact ⟨.bl false, H1, I1, rfl, q1⟩
theorem pe_not (ha : PE X a ta) : PE X (.UnaryOp .Not a pos) (tNotV ta) := by
  intro pins s σ H Q I h
  refine UnaryOp_ (thn (ha pins s σ H _ I h) fun v s1 ⟨x, H1, I1, r1, q1⟩ => ?_)
  obtain ⟨c, rfl, q1⟩ := q1
  cases r1
  exact not_of (wpAny_truthy_bool ⟨.bl (!c), H1, I1, rfl, q1⟩)
/-- a if t else b -/
def tIf (t : TT) (ta tb : TE) : TE := fun σ H Q => t σ H fun c H1 => if c = true then ta σ H1 Q else tb σ H1 Q
theorem pe_ifExp {c : Expr} (hc : PT X c tA) (ha : PE X a ta) (hb : PE X b tb) : PE X (.IfExp c a b pos) (tIf tA ta tb) := by
  intro pins s σ H Q I h
  refine wpAny_IfExp (thn (hc pins s σ H _ I h) fun d s1 ⟨H1, I1, q1⟩ => ?_)
  cases d with
  | true => exact ha pins s1 σ H1 Q I1 q1
  | false => exact hb pins s1 σ H1 Q I1 q1
end
end L2

namespace L2
open PySem PySem.Spec PyProof.Rows

/-! ### a list, a tuple that is read: tracked, frozen, or an object of the module -/
def SqL (K : PySem.W.Frag) (H : Hp) (a : Addr) (xs : List V) : Prop :=
  Rd H a (.lst xs) ∨
    ∃ (o : Obj) (its : Array Value) (n : Nat), K.lookup a = some o ∧ o.cls = .type "list" ∧ o.dict = none ∧ o.data = .seq its n ∧ its.size ≤ sizeLine ∧ Vals xs its.toList
def SqT (K : PySem.W.Frag) (H : Hp) (a : Addr) (xs : List V) : Prop :=
  Rd H a (.tup xs) ∨
    ∃ (o : Obj) (its : Array Value) (n : Nat), K.lookup a = some o ∧ o.cls = .type "tuple" ∧ o.data = .seq its n ∧ its.size ≤ sizeLine ∧ Vals xs its.toList
def absV : Value → Option V
  | .none => some .non
  | .bool b => some (.bl b)
  | .int i _ => some (.int i)
  | .str x _ => some (.str x)
  | .bytes b _ => some (.byt b)
  | .float b _ => some (.flt b)
  | .ref a => some (.ref a)
  | .type n => some (.ty n)
  | _ => none
theorem RelV.abs {x : V} {u : Value} (r : RelV x u) : absV u = some x := by
  cases x with
  | non => cases r; rfl
  | bl _ => cases r; rfl
  | int _ => obtain ⟨t, rfl⟩ := r; rfl
  | str _ => obtain ⟨t, rfl⟩ := r; rfl
  | byt _ => obtain ⟨t, rfl⟩ := r; rfl
  | flt _ => obtain ⟨t, rfl⟩ := r; rfl
  | ref _ => cases r; rfl
  | ty _ => cases r; rfl
theorem RelV.inj {x y : V} {u : Value} (r : RelV x u) (q : RelV y u) : x = y := Option.some.inj (r.abs.symm.trans q.abs)
theorem Vals.inj : ∀ {xs ys : List V} {us : List Value}, Vals xs us → Vals ys us → xs = ys
  | _, _, _, .nil, .nil => rfl
  | _, _, _, .cons r t, .cons r' t' => by rw [r.inj r', Vals.inj t t']
section
variable {X : Cx} {pins : List (Addr × Obj)} {σ : St} {H : Hp} {s : Shared} {a : Addr} {xs ys : List V}
theorem SqL.of {K : PySem.W.Frag} (h : H a = some (.lst xs)) : SqL K H a xs := .inl (.inl h)
theorem SqT.of {K : PySem.W.Frag} (h : H a = some (.tup xs)) : SqT K H a xs := .inl (.inl h)
theorem Inv.list (I : Inv X pins σ H s) (h : SqL X.K H a xs) : ∃ its : List Value, Vals xs its ∧ PlainL s.heap a its.toArray ∧ xs.length ≤ sizeLine := by
  rcases h with h | ⟨o, its, n, hk, hc, hd, hs, hz, r⟩
  · obtain ⟨z, its, n, r, e⟩ := h.ok I.hok
    exact ⟨its, r, ⟨_, n, e, rfl, rfl, rfl⟩, z⟩
  · refine ⟨its.toList, r, ⟨o, n, I.kIn a o hk, hc, hd, by simpa using hs⟩, ?_⟩
    have e := r.length
    simp only [Array.length_toList] at e
    omega
theorem Inv.tuple (I : Inv X pins σ H s) (h : SqT X.K H a xs) : ∃ its : List Value, Vals xs its ∧ IsTup s.heap a its.toArray ∧ xs.length ≤ sizeLine := by
  rcases h with h | ⟨o, its, n, hk, hc, hs, hz, r⟩
  · obtain ⟨z, its, r, p⟩ := h.ok I.hok
    exact ⟨its, r, p, z⟩
  · refine ⟨its.toList, r, ⟨o, I.kIn a o hk, hc, n, by simpa using hs⟩, ?_⟩
    have e := r.length
    simp only [Array.length_toList] at e
    omega
theorem Inv.list_inj (I : Inv X pins σ H s) (h : SqL X.K H a xs) (h' : SqL X.K H a ys) : xs = ys := by
  obtain ⟨its, r, ⟨o, n, e, _, _, d⟩, _⟩ := I.list h
  obtain ⟨its', r', ⟨o', n', e', _, _, d'⟩, _⟩ := I.list h'
  rw [e] at e'; cases e'
  rw [d] at d'
  injection d' with d1 _
  have : its = its' := by simpa using congrArg Array.toList d1
  subst this
  exact r.inj r'
theorem Inv.tuple_inj (I : Inv X pins σ H s) (h : SqT X.K H a xs) (h' : SqT X.K H a ys) : xs = ys := by
  obtain ⟨its, r, ⟨o, e, _, n, d⟩, _⟩ := I.tuple h
  obtain ⟨its', r', ⟨o', e', _, n', d'⟩, _⟩ := I.tuple h'
  rw [e] at e'; cases e'
  rw [d] at d'
  injection d' with d1 _
  have : its = its' := by simpa using congrArg Array.toList d1
  subst this
  exact r.inj r'
end

/-! ### another wish about exceptions -/
abbrev Cx.wish (X : Cx) (E : Value → Shared → Prop) : Cx := { X with xe := E }
/-- no exception leaves -/
abbrev Cx.nox (X : Cx) : Cx := X.wish fun _ _ => False
theorem Cx.Ok.wish {X : Cx} (ok : X.Ok) (E : Value → Shared → Prop) : (X.wish E).Ok :=
  ⟨ok.mod, ok.kind, ok.glob, ok.blt, ok.above, ok.inj, ok.has, ok.cab, ok.hd, ok.frames, ok.stk, ok.exf, ok.bs, ok.bsz, ok.noex, ok.exfs, ok.funs, ok.frf⟩
theorem Cx.Ok.unwish {X : Cx} {E : Value → Shared → Prop} (ok : (X.wish E).Ok) : X.Ok :=
  ⟨ok.mod, ok.kind, ok.glob, ok.blt, ok.above, ok.inj, ok.has, ok.cab, ok.hd, ok.frames, ok.stk, ok.exf, ok.bs, ok.bsz, ok.noex, ok.exfs, ok.funs, ok.frf⟩
section
variable {X : Cx} {pins : List (Addr × Obj)} {σ : St} {H : Hp} {s : Shared} {E : Value → Shared → Prop}
theorem Inv.wish (I : Inv X pins σ H s) (E : Value → Shared → Prop) : Inv (X.wish E) pins σ H s := ⟨I.ok.wish E, I.os, I.bare, I.base, I.loc, I.cell, I.free, I.freeC, I.pin, I.hok, I.len⟩
theorem Inv.unwish (I : Inv (X.wish E) pins σ H s) : Inv X pins σ H s := ⟨I.ok.unwish, I.os, I.bare, I.base, I.loc, I.cell, I.free, I.freeC, I.pin, I.hok, I.len⟩
theorem SP.unwish {D : Ends} {f : Flow} {s' : Shared} (h : SP (X.wish E) pins D f s') : SP X pins D f s' := by
  cases f with
  | next => obtain ⟨σ', H', I, q⟩ := h; exact ⟨σ', H', I.unwish, q⟩
  | brk => obtain ⟨σ', H', I, q⟩ := h; exact ⟨σ', H', I.unwish, q⟩
  | cont => obtain ⟨σ', H', I, q⟩ := h; exact ⟨σ', H', I.unwish, q⟩
  | ret u => obtain ⟨v, σ', H', I, r, q⟩ := h; exact ⟨v, σ', H', I.unwish, r, q⟩
theorem PSs.nox {st : List Stmt} {t : TS} (h : PSs X.nox st t) : PSs X st t := fun pins s σ H D I hw =>
  wpAny_mono (h pins s σ H D (I.wish _) hw) (fun _ _ q => q.unwish) fun _ _ z => False.elim z
end

/-! ### blocks and small statements -/
section
variable {X : Cx} {st : Stmt} {rest : List Stmt} {t u : TS} {e : Expr} {te : TE} {pos : Pos}
def tNext : TS := fun D σ H => D.nx σ H
def tSeq (t u : TS) : TS := fun D σ H => t { D with nx := u D } σ H
theorem pss_nil : PSs X [] tNext := fun _ _ σ H _ I h => wpAny_execs_nil ⟨σ, H, I, h⟩
theorem pss_cons (h1 : PS X st t) (h2 : PSs X rest u) : PSs X (st :: rest) (tSeq t u) := by
  intro pins s σ H D I h
  refine wpAny_execs_cons (thn (h1 pins s σ H { D with nx := u D } I h) fun f s1 q => ?_)
  cases f with
  | next =>
    obtain ⟨σ', H', I', q⟩ := q
    exact h2 pins s1 σ' H' D I' q
  | ret v => exact q
  | brk => exact q
  | cont => exact q
theorem pss_one (h1 : PS X st t) : PSs X [st] t := by
  intro pins s σ H D I h
  refine wpAny_execs_cons (thn (h1 pins s σ H D I h) fun f s1 q => ?_)
  cases f with
  | next => exact wpAny_execs_nil q
  | ret v => exact q
  | brk => exact q
  | cont => exact q
def tBreak : TS := fun D σ H => D.bk σ H
def tCont : TS := fun D σ H => D.ct σ H
/-- in a def's body nothing is shown -/
theorem Inv.quiet {pins : List (Addr × Obj)} {σ : St} {H : Hp} {s : Shared} (I : Inv X pins σ H s) : interactive X.env = false := by simp [interactive, I.ok.kind]
/-- an expression whose value is dropped -/
def tDrop (te : TE) : TS := fun D σ H => te σ H fun _ H1 => D.nx σ H1
theorem ps_expr (he : PE X e te) (hs : swapsWith e none pos.line X.env = pure false := by rfl) : PS X (.Expr e pos) (tDrop te) := by
  intro pins s σ H D I h
  exact wpAny_Expr_any (thn (he pins s σ H _ I h) fun v s1 ⟨x, H1, I1, r1, q1⟩ => ⟨σ, H1, I1, q1⟩) I.quiet hs
def tRet (te : TE) : TS := fun D σ H => te σ H D.rt
theorem ps_ret (he : PE X e te) : PS X (.Return (some e) pos) (tRet te) := by
  intro pins s σ H D I h
  exact wpAny_Return_some (thn (he pins s σ H _ I h) fun v s1 ⟨x, H1, I1, r1, q1⟩ => ⟨x, σ, H1, I1, r1, q1⟩)
def tRetN : TS := fun D _ H => D.rt .non H
theorem ps_retN : PS X (.Return none pos) tRetN := fun _ _ σ H _ I h => wpAny_Return_none ⟨.non, σ, H, I, rfl, h⟩
def tIfS (c : TT) (t u : TS) : TS := fun D σ H => c σ H fun b H1 => if b = true then t D σ H1 else u D σ H1
theorem ps_if {c : Expr} {a b : List Stmt} {tc : TT} (hc : PT X c tc) (ha : PSs X a t) (hb : PSs X b u) : PS X (.If c a b pos) (tIfS tc t u) := by
  intro pins s σ H D I h
  refine wpAny_If (thn (hc pins s σ H _ I h) fun d s1 ⟨H1, I1, q1⟩ => ?_)
  cases d with
  | true => exact ha pins s1 σ H1 D I1 q1
  | false => exact hb pins s1 σ H1 D I1 q1
/-- code that the proof never comes to -/
def tNever : TS := fun _ _ _ => False
theorem ps_never : PS X st tNever := fun _ _ _ _ _ _ h => h.elim
end

/-! ### targets -/
abbrev TG := V → St → Hp → (St → Hp → Prop) → Prop
abbrev TGs := List V → St → Hp → (St → Hp → Prop) → Prop
def PG (X : Cx) (target : Expr) (t : TG) : Prop :=
  ∀ (pins : List (Addr × Obj)) (s : Shared) (σ : St) (H : Hp) (v : V) (u : Value) (Q : St → Hp → Prop), Inv X pins σ H s → RelV v u → t v σ H Q →
    wpAny (model X.prog X.w) X.A (assign target X.env u) (fun _ s' => ∃ σ' H', Inv X pins σ' H' s' ∧ Q σ' H') X.xe s
/-- several targets, one after another -/
def PGs (X : Cx) (ts : List Expr) (t : TGs) : Prop :=
  ∀ (pins : List (Addr × Obj)) (s : Shared) (σ : St) (H : Hp) (vs : List V) (us : List Value) (Q : St → Hp → Prop), Inv X pins σ H s → Vals vs us → t vs σ H Q →
    wpAny (model X.prog X.w) X.A (assignInOrder ((assignEach ts X.env).map (·.2)) us) (fun _ s' => ∃ σ' H', Inv X pins σ' H' s' ∧ Q σ' H') X.xe s
/-- o[i] = v, by values -/
abbrev TSet := V → V → V → Hp → (Hp → Prop) → Prop
def PSet (X : Cx) (t : TSet) : Prop :=
  ∀ (pins : List (Addr × Obj)) (s : Shared) (σ : St) (H : Hp) (o i v : V) (ov iv u : Value) (Q : Hp → Prop), Inv X pins σ H s → RelV o ov → RelV i iv → RelV v u → t o i v H Q →
    wpAny (model X.prog X.w) X.A (setItem ov iv u) (fun _ s' => ∃ H', Inv X pins σ H' s' ∧ Q H') X.xe s
/-- a op= b, by values -/
abbrev TIp := V → V → Hp → VK → Prop
def PIp (X : Cx) (op : Operator) (t : TIp) : Prop :=
  ∀ (pins : List (Addr × Obj)) (s : Shared) (σ : St) (H : Hp) (x y : V) (v u : Value) (Q : VK), Inv X pins σ H s → RelV x v → RelV y u → t x y H Q →
    wpAny (model X.prog X.w) X.A (inplaceOp op v u) (EP X pins σ Q) X.xe s
section
variable {X : Cx} {pos : Pos}
def gName (i : Nat) : TG := fun v σ H Q => Q (σ.set i (some v)) H
theorem pg_name {i : Nat} {x : Str} (hN : X.N.Nodup) (hi : X.N[i]? = some x) (hx : Loc X.env.scope x) (hf : X.fn x = true ∨ X.env.scope.names.lookup x = some .local := by first | exact .inl rfl | exact .inr rfl | assumption) : PG X (.Name x pos) (gName i) := by
  intro pins s σ H v u Q I r h
  exact wpAny_assign_Name (store_ok I hN hi hx r (fun s' I' => ⟨_, H, I', h⟩) hf)
def gNil : TGs := fun vs σ H Q => vs = [] ∧ Q σ H
def gCons (t : TG) (u : TGs) : TGs := fun vs σ H Q => ∃ v r, vs = v :: r ∧ t v σ H fun σ' H' => u r σ' H' Q
theorem pgs_nil : PGs X [] gNil := by
  intro pins s σ H vs us Q I r h
  obtain ⟨e, h⟩ := h
  subst e
  cases r
  exact assignInOrder_nil ⟨σ, H, I, h⟩
theorem pgs_cons {e : Expr} {es : List Expr} {t : TG} {u : TGs} (h1 : PG X e t) (h2 : PGs X es u)
    (hs : (assignEach (e :: es) X.env).map (·.2) = assign e X.env :: (assignEach es X.env).map (·.2) := by rfl) : PGs X (e :: es) (gCons t u) := by
  intro pins s σ H vs us Q I r h
  obtain ⟨v, vr, e1, h⟩ := h
  subst e1
  cases r with
  | cons r rr =>
    rw [hs]
    refine assignInOrder_cons (thn (h1 pins s σ H _ _ _ I r h) fun _ s1 ⟨σ1, H1, I1, q1⟩ => ?_)
    exact h2 pins s1 σ1 H1 _ _ Q I1 rr q1
/-- (a, b, ..) = a tuple of that length -/
def gTup (K : PySem.W.Frag) (n : Nat) (t : TGs) : TG := fun v σ H Q => ∃ a xs, v = .ref a ∧ SqT K H a xs ∧ xs.length = n ∧ t xs σ H Q
theorem pg_tup {es : List Expr} {k : Nat} {t : TGs} {n : Nat} (hc : X.calm = true) (h : PGs X es t)
    (hn : (assignEach es X.env).length = n := by rfl) (hst : (assignEach es X.env).findIdx? (·.1) = none := by rfl) : PG X (.Tuple es k pos) (gTup X.K n t) := by
  intro pins s σ H v u Q I r hw
  obtain ⟨a, xs, e1, hq, hl, hw⟩ := hw
  subst e1
  cases r
  obtain ⟨its, rv, ht, hz⟩ := I.tuple hq
  refine assign_Tuple_tuple (I.ok.hd hc) ht (by simp [hn, ← hl, rv.length]) hst fun h' hx => ?_
  have I1 : Inv X pins σ H { s with heap := h' } := I.kept (t' := s.toks) fun b o e => hx b o (Nat.ne_of_lt (Heap.lt_size e)) e
  exact h pins _ σ H xs _ Q I1 (by simpa using rv) hw
/-- o[i] = .. -/
def gSub (to ti : TE) (t : TSet) : TG := fun v σ H Q => to σ H fun o H1 => ti σ H1 fun i H2 => t o i v H2 fun H3 => Q σ H3
/-- target = value -/
def tAsg (te : TE) (g : TG) : TS := fun D σ H => te σ H fun x H1 => g x σ H1 D.nx
/-- name = value -/
theorem ps_set {i : Nat} {x : Str} {e : Expr} {te : TE} {pos' : Pos} (hN : X.N.Nodup) (hi : X.N[i]? = some x) (hx : Loc X.env.scope x) (he : PE X e te) (hs : swapsWith e (some (.Name x pos')) pos.line X.env = pure false := by rfl) (hf : X.fn x = true ∨ X.env.scope.names.lookup x = some .local := by first | exact .inl rfl | exact .inr rfl | assumption) :
    PS X (.Assign [.Name x pos'] e pos) (tAsg te (gName i)) := by
  intro pins s σ H D I h
  refine wpAny_Assign_Name (thn (he pins s σ H _ I h) fun v s1 ⟨y, H1, I1, r1, q1⟩ => ?_) hs
  exact store_ok I1 hN hi hx r1 (fun s2 I2 => ⟨_, H1, I2, q1⟩) hf
/-- a, b = x, y with plain local names: stored from the right; the pair itself is not tracked (the opening rows as in PyProof/Rows/TupAssign.lean:23) -/
def tPar (i j : Nat) (ta : TA) : TS := fun D σ H => ta σ H fun vs H1 => ∃ v w, vs = [v, w] ∧ D.nx ((σ.set i (some v)).set j (some w)) H1
theorem ps_par {i j : Nat} {x y : Str} {a b : Expr} {ta : TA} {px py pt : Pos} {kt k2 pt2} (hc : X.calm = true) (hN : X.N.Nodup) (hi : X.N[i]? = some x) (hj : X.N[j]? = some y) (hij : i ≠ j)
    (hx : X.env.scope.names.lookup x = some .local) (hy : X.env.scope.names.lookup y = some .local) (ha : PA X [a, b] ta)
    (hw : swappedStores [.Tuple [.Name x px, .Name y py] kt pt] (.Tuple [a, b] k2 pt2) X.env = pure (some [x, y]))
    (hs : swapsWithSole [.Tuple [.Name x px, .Name y py] kt pt] (.Tuple [a, b] k2 pt2) pos.line X.env = pure false := by rfl) :
    PS X (.Assign [.Tuple [.Name x px, .Name y py] kt pt] (.Tuple [a, b] k2 pt2) pos) (tPar i j ta) := by
  intro pins s σ H D I h
  rw [exec_Assign_arm]
  refine wpAny_bind (wpAny_standAt ?_)
  rw [hs]
  refine wpAny_bind (wpAny_pure ?_)
  rw [if_neg (by decide)]
  refine wpAny_bind (Tuple_ (thn (ha _ pins s σ H _ I h) fun us s1 ⟨vs, H1, I1, r1, q1⟩ => ?_))
  obtain ⟨v, w, e1, q1⟩ := q1
  subst e1
  obtain ⟨u1, u2, rfl, rv, rw'⟩ : ∃ u1 u2, us = [u1, u2] ∧ RelV v u1 ∧ RelV w u2 := by
    cases r1 with
    | cons p q =>
      cases q with
      | cons p' q' =>
        cases q'
        exact ⟨_, _, rfl, p, p'⟩
  refine wpAny_newObj_type ?_ (by show 2 ≤ sizeLine; decide)
  have I2 : Inv X pins σ H1 { s1 with heap := s1.heap.push { cls := .type "tuple", data := .seq [u1, u2].toArray } } := I1.kept (t' := s1.toks) fun b o e => Heap.get?_push_of_some _ e
  rw [hw]
  refine wpAny_bind (wpAny_pure ?_)
  show wpAny (model X.prog X.w) X.A (do rule "assign.swapped-stores"; let items ← unpackItems (.ref s1.heap.objs.size) 2 none; assignInOrder [fun v => bindName X.env y v, fun v => bindName X.env x v] items.reverse; pure Flow.next) _ _ _
  refine wpAny_bind (wpAny_rule (wpAny_bind (unpackItems_tuple (items := #[u1, u2]) (I.ok.hd hc) (IsTup.new s1.heap _) fun h' hx' => ?_)))
  have I3 := I2.kept (h' := h') (t' := s1.toks) fun b o e => hx' b o (Nat.ne_of_lt (Heap.lt_size e)) e
  show wpAny _ _ (assignInOrder [fun v => bindName X.env y v, fun v => bindName X.env x v] [u2, u1] >>= fun _ => pure Flow.next) _ _ _
  refine wpAny_bind (assignInOrder_cons (wpAny_bindName (store_ok I3 hN hj (.inl hy) rw' (fun s2 I4 => ?_) (.inr hy))))
  refine assignInOrder_cons (wpAny_bindName (store_ok I4 hN hi (.inl hx) rv (fun s3 I5 => assignInOrder_nil (wpAny_pure ?_)) (.inr hx)))
  rw [List.set_comm _ _ (Ne.symm hij)] at I5
  exact ⟨_, H1, I5, q1⟩
/-- name op= e -/
def tAug (i : Nat) (te : TE) (ti : TIp) : TS := fun D σ H => ∃ x, σ[i]? = some (some x) ∧ te σ H fun y H1 => ti x y H1 fun z H2 => D.nx (σ.set i (some z)) H2
theorem ps_aug {i : Nat} {x : Str} {e : Expr} {te : TE} {op : Operator} {ti : TIp} {pos' : Pos} (hN : X.N.Nodup) (hi : X.N[i]? = some x) (hx : Loc X.env.scope x) (he : PE X e te) (ho : PIp X op ti) (hf : X.fn x = true ∨ X.env.scope.names.lookup x = some .local := by first | exact .inl rfl | exact .inr rfl | assumption) :
    PS X (.AugAssign (.Name x pos') op e pos) (tAug i te ti) := by
  intro pins s σ H D I h
  obtain ⟨v, e1, h⟩ := h
  obtain ⟨m, hn, hl⟩ := I.loc
  have vis : Vis X.env.scope x := by rcases hx with k | k; exact .inl k; exact .inr (.inl k)
  obtain ⟨u, r, l⟩ := hl i x v hi e1 vis
  refine wpAny_AugAssign_Name ?_
  have go : wpAny (model X.prog X.w) X.A (eval e X.env) (fun w s₂ => wpAny (model X.prog X.w) X.A (inplaceOp op u w) (fun r s₃ => wpAny (model X.prog X.w) X.A (storeName X.env x r) (fun _ => SP X pins D .next) X.xe s₃) X.xe s₂) X.xe s := by
    refine thn (he pins s σ H _ I h) fun w s1 ⟨y, H1, I1, r1, q1⟩ => ?_
    refine thn (ho pins s1 σ H1 v y u w _ I1 r r1 q1) fun z s2 ⟨zv, H2, I2, r2, q2⟩ => ?_
    exact store_ok I2 hN hi hx r2 (fun s3 I3 => ⟨_, H2, I3, q2⟩) hf
  rcases l with ⟨hk, hm⟩ | ⟨hk, c, hc, hcell⟩
  · exact wpAny_loadName_local I.ok.kind hk hn hm go
  · rcases hk with hk | hk
    · exact wpAny_loadName_cell I.ok.kind hk hc hcell go
    · rcases hx with k | k
      · have : X.env.scope.names.lookup x = some .free := hk
        rw [k] at this; cases this
      · have : X.env.scope.names.lookup x = some .free := hk
        rw [k] at this; cases this
/-- o[i] op= e -/
def tAugS (to ti te : TE) (tget : V → V → Hp → VK → Prop) (tip : TIp) (tset : TSet) : TS := fun D σ H => to σ H fun o H1 => ti σ H1 fun i H2 => tget o i H2 fun x H3 => te σ H3 fun y H4 => tip x y H4 fun z H5 => tset o i z H5 fun H6 => D.nx σ H6
/-- o[i], by values -/
def PGet (X : Cx) (t : V → V → Hp → VK → Prop) : Prop :=
  ∀ (pins : List (Addr × Obj)) (s : Shared) (σ : St) (H : Hp) (o i : V) (ov iv : Value) (Q : VK), Inv X pins σ H s → RelV o ov → RelV i iv → t o i H Q →
    wpAny (model X.prog X.w) X.A (getItem ov iv) (EP X pins σ Q) X.xe s
/-- ints -/
def ipI (f : Int → Int → Int) : TIp := fun x y H Q => ∃ i j, x = .int i ∧ y = .int j ∧ Q (.int (f i j)) H
theorem ip_add : PIp X .Add (ipI fun i j => i + j) := by
  intro pins s σ H x y v u Q I r1 r2 h
  obtain ⟨i, j, e1, e2, q⟩ := h
  subst e1; subst e2
  obtain ⟨t, rfl⟩ := r1
  obtain ⟨t', rfl⟩ := r2
  exact iadd_int ⟨.int _, H, I.tok _, ⟨_, rfl⟩, q⟩
end

/-! ### while -/
section
variable {X : Cx} {pos : Pos}
/-- the invariant W with its measure -/
def tWhile (c : TT) (tb : TS) : TS := fun D σ H => ∃ W : Nat → St → Hp → Prop, (∃ m, W m σ H) ∧ ∀ m σ H, W m σ H →
  c σ H fun b H1 => if b = true then ∃ N : St → Hp → Prop, (∀ σ' H', N σ' H' → ∃ m', m' < m ∧ W m' σ' H') ∧ tb { D with nx := N, ct := N, bk := D.nx } σ H1 else D.nx σ H1
theorem ps_while {c : Expr} {body : List Stmt} {tc : TT} {tb : TS} (hp : PassesOwn (model X.prog X.w) X.A X.env X.xe) (hc : PT X c tc) (hb : PSs X body tb) : PS X (.While c body [] pos) (tWhile tc tb) := by
  intro pins s σ H D I h
  obtain ⟨W, ⟨m0, w0⟩, turn⟩ := h
  refine wpAny_While (codeAny_whileLoop (fun n s' => ∃ σ' H', Inv X pins σ' H' s' ∧ W n σ' H') ?_ m0 ⟨σ, H, I, w0⟩)
  rintro n s1 ⟨σ1, H1, I1, w1⟩
  refine wpAny_passesOwn hp (thn (hc pins s1 σ1 H1 _ I1 (turn n σ1 H1 w1)) fun b s2 ⟨H2, I2, q2⟩ => ?_)
  cases b with
  | true =>
    obtain ⟨N, hN, q2⟩ := q2
    rw [if_pos rfl]
    refine wpAny_passesOwn hp (thn (hb pins s2 σ1 H2 _ I2 q2) fun f s3 q3 => ?_)
    cases f with
    | next =>
      obtain ⟨σ3, H3, I3, n3⟩ := q3
      obtain ⟨m', hm, w3⟩ := hN σ3 H3 n3
      exact ⟨m', hm, σ3, H3, I3, w3⟩
    | cont =>
      obtain ⟨σ3, H3, I3, n3⟩ := q3
      obtain ⟨m', hm, w3⟩ := hN σ3 H3 n3
      exact ⟨m', hm, σ3, H3, I3, w3⟩
    | brk => exact q3
    | ret v => exact q3
  | false =>
    rw [if_neg Bool.false_ne_true]
    exact wpAny_execs_nil ⟨σ1, H2, I2, q2⟩
end

/-! ### what a loop or a comprehension walks -/
/-- at turn i: it yields x (the heap may grow), or it stops -/
structure It where
  go : Nat → Hp → Prop
  yld : Nat → Hp → V → Hp → Prop
  stop : Nat → Hp → Prop
/-- the iterator's own objects may turn: they are not the frame's, not pinned, younger than the entry (or a comprehension's own) -/
def FpOk (X : Cx) (pins : List (Addr × Obj)) (H : Hp) (b : Addr) : Prop :=
  H b = none ∧ b ≠ X.env.locals ∧ b ∉ X.fs ∧ (b ∈ X.ex ∨ X.s₀.heap.objs.size ≤ b) ∧ (∀ x c, X.env.cells.lookup x = some c → c ≠ b) ∧ ∀ p ∈ X.pn ++ pins, p.1 ≠ b
theorem Inv.fpOk {X : Cx} {pins : List (Addr × Obj)} {σ : St} {H H' : Hp} {s : Shared} {b : Addr} (I : Inv X pins σ H s) (hb : s.heap.objs.size ≤ b) (hn : H' b = none) : FpOk X pins H' b := by
  refine ⟨hn, Nat.ne_of_gt (Nat.lt_of_lt_of_le I.lt hb), I.nofs hb, .inr (Nat.le_trans I.sz hb), fun x c e z => ?_, fun p hp z => ?_⟩
  · obtain ⟨v, q⟩ := I.cell x c e
    exact absurd (Nat.lt_of_lt_of_le q.lt (by rw [z]; exact hb)) (Nat.lt_irrefl _)
  · exact absurd (Nat.lt_of_lt_of_le (Heap.lt_size (I.pin p hp).1) (by rw [z]; exact hb)) (Nat.lt_irrefl _)
structure Turn (P : Program) (w : World) (K : PySem.W.Frag) (tg : Expr) (J : It) (fp : List Addr) (it : Addr) (tn : Nat → Heap → Prop) : Prop where
  mem : it ∈ fp
  obj : ∀ i h, tn i h → ∀ b ∈ fp, ∃ o, h.get? b = some o ∧ ∀ v, o.data ≠ .cell v
  keep : ∀ i h h', tn i h → (∀ b ∈ fp, ∀ o, h.get? b = some o → h'.get? b = some o) → tn i h'
  item : ∀ (X : Cx), X.prog = P → X.w = w → X.K = K → X.calm = true → ∀ (i : Nat) (pins : List (Addr × Obj)) (s : Shared) (σ : St) (H : Hp) (E : Value → Shared → Prop), Inv X pins σ H s → (∀ b ∈ fp, FpOk X pins H b) → tn i s.heap → J.go i H →
    wpAny (model P w) X.A (pyNext (.ref it)) (fun r s1 => ∃ u, r = some u ∧
      wpAny (model P w) X.A (letOwnedTupleGo tg (.ref it) u) (fun _ s2 => ∃ x H', Inv X pins σ H' s2 ∧ RelV x u ∧ J.yld i H x H' ∧ tn (i + 1) s2.heap ∧ ∀ b ∈ fp, H' b = none) E s1) E s
  done : ∀ (X : Cx), X.prog = P → X.w = w → X.K = K → X.calm = true → ∀ (i : Nat) (pins : List (Addr × Obj)) (s : Shared) (σ : St) (H : Hp) (E : Value → Shared → Prop), Inv X pins σ H s → (∀ b ∈ fp, FpOk X pins H b) → tn i s.heap → J.stop i H →
    wpAny (model P w) X.A (pyNext (.ref it)) (fun r s1 => r = none ∧ Inv X pins σ H s1) E s
  self : ∀ (A : Around) (i : Nat) (s : Shared) (Q : Value → Shared → Prop) (E : Value → Shared → Prop), tn i s.heap → Q (.ref it) s → wpAny (model P w) A (pyIter (.ref it)) Q E s
abbrev TI := St → Hp → (It → Hp → Prop) → Prop
/-- an iterator has come -/
def PIE (X : Cx) (pins : List (Addr × Obj)) (σ : St) (tg : Expr) (R : It → Hp → Prop) (itv : Value) (s2 : Shared) : Prop :=
  ∃ (it : Addr) (fp : List Addr) (tn : Nat → Heap → Prop) (J : It) (H' : Hp), itv = .ref it ∧ Inv X pins σ H' s2 ∧ Turn X.prog X.w X.K tg J fp it tn ∧ tn 0 s2.heap ∧ (∀ b ∈ fp, FpOk X pins H' b) ∧ R J H'
def PI (X : Cx) (tg iter : Expr) (wi : TI) : Prop :=
  ∀ (pins : List (Addr × Obj)) (s : Shared) (σ : St) (H : Hp) (R : It → Hp → Prop), Inv X pins σ H s → wi σ H R →
    wpAny (model X.prog X.w) X.A (eval iter X.env) (fun v s1 => wpAny (model X.prog X.w) X.A (pyIter v) (PIE X pins σ tg R) X.xe s1) X.xe s

/-- the step ahead of the store is nothing for an iterator that keeps no tuple -/
theorem go_of {M : Model} {A : Around} {E : Value → Shared → Prop} {s : Shared} {tg : Expr} {it : Addr} {u : Value} {o : Obj} {n : String} {vs : Array Value} {Q : Unit → Shared → Prop} (ho : s.heap.get? it = some o) (hc : o.cls = .type n) (hd : o.data = .fields vs)
    (hn : ["enumerate", "zip", "dict_itemiterator", "dict_reverseitemiterator", "odict_iterator", "itertools.zip_longest", "itertools.pairwise"].contains n = false) (hQ : Q () s) : wpAny M A (letOwnedTupleGo tg (.ref it) u) Q E s := by
  unfold letOwnedTupleGo
  cases tg <;> first
    | exact wpAny_pure hQ
    | (cases u <;> first
        | exact wpAny_pure hQ
        | (refine wpAny_bind (wpAny_load ho ?_)
           rw [hc, hd]
           show wpAny M A (if (["enumerate", "zip", "dict_itemiterator", "dict_reverseitemiterator", "odict_iterator", "itertools.zip_longest", "itertools.pairwise"].contains n && vs[0]? == some (rawInt _)) = true then _ else _) Q E s
           rw [if_neg (by intro h; rw [hn, Bool.false_and] at h; cases h)]
           exact wpAny_pure hQ))

/-- the list at a, as it stands at each turn (a loop may append to it) -/
def Itl (K : PySem.W.Frag) (a : Addr) : It :=
  ⟨fun i H => ∃ xs x, SqL K H a xs ∧ xs[i]? = some x, fun i H x H' => H' = H ∧ ∀ xs, SqL K H a xs → xs[i]? = some x, fun i H => ∃ xs, SqL K H a xs ∧ xs.length ≤ i⟩
def Itt (K : PySem.W.Frag) (a : Addr) : It :=
  ⟨fun i H => ∃ xs x, SqT K H a xs ∧ xs[i]? = some x, fun i H x H' => H' = H ∧ ∀ xs, SqT K H a xs → xs[i]? = some x, fun i H => ∃ xs, SqT K H a xs ∧ xs.length ≤ i⟩
/-- lo, lo + 1, .. (n of them) -/
def Itr (lo : Int) (n : Nat) : It := ⟨fun i _ => i < n, fun i H x H' => H' = H ∧ x = .int (lo + i), fun i _ => n ≤ i⟩
theorem turn_list {P : Program} {w : World} {K : PySem.W.Frag} {tg : Expr} (a it : Addr) : Turn P w K tg (Itl K a) [it] it (fun i h => h.IsListIter it a i) where
  mem := by simp
  obj := fun i h st b hb => by
    have e : b = it := by simpa using hb
    subst e
    obtain ⟨o, e, c, d⟩ := st
    exact ⟨o, e, fun v z => by rw [d] at z; cases z⟩
  keep := fun i h h' st k => st.at fun o e => k it (by simp) o e
  item := by
    intro X hP hw hK hc i pins s σ H E I hf st hg
    subst hP hw hK
    obtain ⟨xs, x, hq, hx⟩ := hg
    obtain ⟨its, rv, p, hz⟩ := I.list hq
    obtain ⟨u, hu, ru⟩ := rv.get hx
    obtain ⟨f0, f1, f2, f3, f4, f5⟩ := hf it (by simp)
    refine wpAny_pyNext_list_item st p.isList (x := u) (by simpa using hu) fun h' st' sb => ?_
    have I1 : Inv X pins σ H { s with heap := h' } := I.turned (t' := s.toks) (fun b o hb e => (sb.2 b hb).trans e) f0 f1 f3 f4 f5
    obtain ⟨o, e, c, d⟩ := id st'
    exact ⟨u, rfl, go_of (s := { s with heap := h' }) e c d (by decide) ⟨x, H, I1, ru, ⟨rfl, fun ys hy => by rw [I.list_inj hy hq]; exact hx⟩, st', fun b hb => (hf b hb).1⟩⟩
  done := by
    intro X hP hw hK hc i pins s σ H E I hf st hg
    subst hP hw hK
    obtain ⟨xs, hq, hx⟩ := hg
    obtain ⟨its, rv, p, hz⟩ := I.list hq
    obtain ⟨f0, f1, f2, f3, f4, f5⟩ := hf it (by simp)
    have hl := rv.length
    exact wpAny_pyNext_list_end (I.ok.hd hc) st p.isList (by simp; omega) fun h' eb => ⟨rfl, I.turned (t' := s.toks) (fun b o hb e => eb b o hb e) f0 f1 f3 f4 f5⟩
  self := fun _ _ _ _ _ st h => wpAny_pyIter_listiter st h
theorem turn_range {P : Program} {w : World} {K : PySem.W.Frag} {tg : Expr} (it : Addr) (lo : Int) (n : Nat) : Turn P w K tg (Itr lo n) [it] it (fun i h => IsRangeIter h it (lo + (i : Nat) * 1) ((n : Int) - (i : Nat)) 1) where
  mem := by simp
  obj := fun i h st b hb => by
    have e : b = it := by simpa using hb
    subst e
    exact ⟨_, st, fun v z => by
      have z' : Data.fields _ = Data.cell v := z
      cases z'⟩
  keep := fun i h h' st k => k it (by simp) _ st
  item := by
    intro X hP hw hK hc i pins s σ H E I hf st hg
    subst hP hw hK
    obtain ⟨f0, f1, f2, f3, f4, f5⟩ := hf it (by simp)
    have W := Walks.range (prog := X.prog) (w := X.w) (I.ok.hd hc) it lo 1 n
    refine W.item i s _ _ hg st fun v h' tk hv st' kk => ?_
    obtain ⟨t, rfl⟩ := hv
    have I1 : Inv X pins σ H { s with heap := h', toks := tk } := I.turned (fun b o hb e => kk b o (by simpa using hb) e) f0 f1 f3 f4 f5
    refine ⟨_, rfl, go_of (s := { s with heap := h', toks := tk }) (n := "range_iterator") st' rfl rfl (by decide) ⟨.int (lo + i), H, I1, ⟨t, ?_⟩, ⟨rfl, rfl⟩, st', fun b hb => (hf b hb).1⟩⟩
    rw [Int.mul_one]
  done := by
    intro X hP hw hK hc i pins s σ H E I hf st hg
    subst hP hw hK
    obtain ⟨f0, f1, f2, f3, f4, f5⟩ := hf it (by simp)
    exact wpAny_pyNext_range_end (I.ok.hd hc) st (by have : n ≤ i := hg; omega) fun h' eb => ⟨rfl, I.turned (t' := s.toks) (fun b o hb e => eb b o hb e) f0 f1 f3 f4 f5⟩
  self := fun _ _ _ _ _ st h => wpAny_pyIter_rangeiter st h
end L2

namespace L2
open PySem PySem.Spec PyProof.Rows
section
variable {X : Cx} {tg : Expr}
def iList (K : PySem.W.Frag) (tl : TE) : TI := fun σ H R => tl σ H fun x H1 => ∃ a, x = .ref a ∧ (∃ xs, SqL K H1 a xs) ∧ R (Itl K a) H1
def iTup (K : PySem.W.Frag) (tl : TE) : TI := fun σ H R => tl σ H fun x H1 => ∃ a, x = .ref a ∧ (∃ xs, SqT K H1 a xs) ∧ R (Itt K a) H1
theorem pi_list {l : Expr} {tl : TE} (hl : PE X l tl) : PI X tg l (iList X.K tl) := by
  intro pins s σ H R I h
  refine thn (hl pins s σ H _ I h) fun v s1 ⟨x, H1, I1, r1, q1⟩ => ?_
  obtain ⟨a, e, ⟨xs, hq⟩, q⟩ := q1
  subst e
  cases r1
  obtain ⟨its, rv, p, hz⟩ := I1.list hq
  refine wpAny_pyIter_list p.isList ?_
  refine ⟨s1.heap.objs.size, [s1.heap.objs.size], _, _, H1, rfl, I1.kept (t' := s1.toks) fun b o e => Heap.get?_push_of_some _ e, turn_list a _, ⟨_, Heap.get?_push_size _ rfl, rfl, rfl⟩, fun b hb => ?_, q⟩
  have e : b = s1.heap.objs.size := by simpa using hb
  subst e
  exact I1.fpOk (Nat.le_refl _) (I1.hok.fresh (Nat.le_refl _))
/-- a range object just made, walked -/
theorem range_it {pins : List (Addr × Obj)} {σ : St} {H : Hp} {s : Shared} {R : It → Hp → Prop} {E : Value → Shared → Prop} {lo hi : Int} {t u v : Tok} {tk : Nat} (I : Inv X pins σ H s) (h1 : -(2 ^ 62) ≤ lo) (h2 : lo < 2 ^ 62) (h3 : -(2 ^ 62) ≤ hi) (h4 : hi < 2 ^ 62)
    (q : R (Itr lo (hi - lo).toNat) H) : wpAny (model X.prog X.w) X.A (pyIter (.ref s.heap.objs.size)) (PIE X pins σ tg R) E { s with heap := s.heap.push { cls := .type "range", data := .fields #[.int lo t, .int hi u, .int 1 v] }, toks := tk } := by
  refine wpAny_pyIter_range (IsRange.new ..) (small_one h1 h2 h3 h4) ?_
  have I1 : Inv X pins σ H { s with heap := s.heap.push { cls := .type "range", data := .fields #[.int lo t, .int hi u, .int 1 v] }, toks := tk } := I.kept fun b o e => Heap.get?_push_of_some _ e
  refine ⟨(s.heap.push { cls := .type "range", data := .fields #[.int lo t, .int hi u, .int 1 v] }).objs.size, [(s.heap.push { cls := .type "range", data := .fields #[.int lo t, .int hi u, .int 1 v] }).objs.size], _, _, H, rfl,
    I1.kept (t' := tk) fun b o e => Heap.get?_push_of_some _ e, turn_range _ lo (hi - lo).toNat, ?_, fun b hb => ?_, q⟩
  · have e1 : lo + ((0 : Nat) : Int) * 1 = lo := by simp
    have e2 : (((hi - lo).toNat : Nat) : Int) - ((0 : Nat) : Int) = Builtin.Range.rangeSize lo hi 1 := by rw [rangeSize_one]; split <;> omega
    show IsRangeIter _ _ (lo + ((0 : Nat) : Int) * 1) ((((hi - lo).toNat : Nat) : Int) - ((0 : Nat) : Int)) 1
    rw [e1, e2]
    exact Heap.get?_push_size _ rfl
  · have e : b = (s.heap.push { cls := .type "range", data := .fields #[.int lo t, .int hi u, .int 1 v] }).objs.size := by simpa using hb
    subst e
    exact I1.fpOk (Nat.le_refl _) (I1.hok.fresh (Nat.le_refl _))
def iRng1 (ta : TA) : TI := fun σ H R => ta σ H fun vs H1 => ∃ j : Int, vs = [.int j] ∧ -(2 ^ 62) ≤ j ∧ j < 2 ^ 62 ∧ R (Itr 0 j.toNat) H1
def iRng2 (ta : TA) : TI := fun σ H R => ta σ H fun vs H1 => ∃ i j : Int, vs = [.int i, .int j] ∧ (-(2 ^ 62) ≤ i ∧ i < 2 ^ 62 ∧ -(2 ^ 62) ≤ j ∧ j < 2 ^ 62) ∧ R (Itr i (j - i).toNat) H1
theorem pi_range1 {a : Expr} {ta : TA} {p pos : Pos} (hg : Gl X "range") (hm : X.mg "range" = none) (ha : PA X [a] ta) (hs : starEach [a] X.env = [(false, eval a X.env)] := by rfl) : PI X tg (.Call (.Name "range" p) [a] [] pos) (iRng1 ta) := by
  intro pins s σ H R I h
  refine Call_ (ld_blt I hg hm boot_range (PyProof.Rows.callWith_type1 (thn (ha pos pins s σ H _ I h) fun us s1 ⟨vs, H1, I1, r1, q1⟩ => ?_) hs rfl))
  obtain ⟨j, e, q1, q2, q⟩ := q1
  subst e
  cases r1 with
  | cons r rr =>
    cases rr
    obtain ⟨t, rfl⟩ := r
    exact call_range_1 (range_it I1 (by omega) (by omega) q1 q2 (by simpa using q))

/-! ### for -/
/-- W: the invariant by the turn and a measure; N: what the body is to reach -/
def tFor (wi : TI) (g : TG) (tb : TS) : TS := fun D σ H => wi σ H fun J H1 => ∃ W : Nat → Nat → St → Hp → Prop, (∃ m, W 0 m σ H1) ∧ ∀ i m σ H, W i m σ H →
  (J.stop i H ∧ D.nx σ H) ∨ (J.go i H ∧ ∃ N : St → Hp → Prop, (∀ σ' H', N σ' H' → ∃ m', m' < m ∧ W (i + 1) m' σ' H') ∧ ∀ x H', J.yld i H x H' → g x σ H' fun σ2 H2 => tb { D with nx := N, ct := N, bk := D.nx } σ2 H2)
/-- the records at fp as they stand -/
def pinsAt (fp : List Addr) (h : Heap) : List (Addr × Obj) := fp.filterMap fun b => (h.get? b).map fun o => (b, o)
theorem mem_pinsAt {fp : List Addr} {h : Heap} {b : Addr} {o : Obj} (hb : b ∈ fp) (e : h.get? b = some o) : (b, o) ∈ pinsAt fp h := List.mem_filterMap.mpr ⟨b, hb, by rw [e]; rfl⟩
theorem of_pinsAt {fp : List Addr} {h : Heap} {p : Addr × Obj} (hp : p ∈ pinsAt fp h) : p.1 ∈ fp ∧ h.get? p.1 = some p.2 := by
  obtain ⟨b, hb, e⟩ := List.mem_filterMap.mp hp
  cases q : h.get? b with
  | none => rw [q] at e; cases e
  | some o =>
    rw [q] at e
    have e' : (b, o) = p := Option.some.inj e
    subst e'
    exact ⟨hb, q⟩
theorem Inv.pinned {pins : List (Addr × Obj)} {σ : St} {H : Hp} {s : Shared} {fp : List Addr} (I : Inv X pins σ H s) (hf : ∀ b ∈ fp, FpOk X pins H b) (ho : ∀ b ∈ fp, ∃ o, s.heap.get? b = some o ∧ ∀ v, o.data ≠ .cell v) : Inv X (pins ++ pinsAt fp s.heap) σ H s :=
  I.pins_of fun p hp => (List.mem_append.mp hp).elim (fun z => I.pin p (List.mem_append_right _ z)) fun z => by
    obtain ⟨hb, e⟩ := of_pinsAt z
    obtain ⟨f0, f1, f2, _⟩ := hf p.1 hb
    obtain ⟨o, e', d⟩ := ho p.1 hb
    rw [e] at e'; cases e'
    exact ⟨e, f0, f1, f2, d⟩
theorem Inv.unpinned {pins pl : List (Addr × Obj)} {σ : St} {H : Hp} {s : Shared} (I : Inv X (pins ++ pl) σ H s) : Inv X pins σ H s := I.pins_of fun p hp => I.pin p (List.mem_append_right _ (List.mem_append_left _ hp))
theorem ps_for {iter : Expr} {body : List Stmt} {wi : TI} {g : TG} {tb : TS} {pos : Pos} (hp : PassesOwn (model X.prog X.w) X.A X.env X.xe) (hc : X.calm = true) (hi : PI X tg iter wi) (hg : PG X tg g) (hb : PSs X body tb)
    (hs : ∀ x, foldedSetIterable iter X.env x = pure x := by intro _; rfl) : PS X (.For tg iter body [] pos) (tFor wi g tb) := by
  intro pins s σ H D I h
  refine wpAny_For (thn (hi pins s σ H _ I h) fun v s1 h1 => thn h1 fun itv s2 h2 => ?_) hs
  obtain ⟨it, fp, tn, J, H2, e, I2, T, st2, f2, W, ⟨m0, w0⟩, turn⟩ := h2
  subst e
  -- what stays true of the iterator's objects through the loop
  have stat : ∀ {H' : Hp}, (∀ b ∈ fp, H' b = none) → ∀ b ∈ fp, FpOk X pins H' b := fun hn b hb => ⟨hn b hb, (f2 b hb).2⟩
  refine codeAny_forLoop_any (fun n s' => ∃ i σ' H', Inv X pins σ' H' s' ∧ tn i s'.heap ∧ (∀ b ∈ fp, H' b = none) ∧ W i n σ' H') ?_ m0 ⟨0, σ, H2, I2, st2, fun b hb => (f2 b hb).1, w0⟩
  rintro n s3 ⟨i, σ3, H3, I3, st3, fr3, w3⟩
  rcases turn i n σ3 H3 w3 with ⟨stop, qn⟩ | ⟨go, N, hN, step⟩
  · refine wpAny_passesOwn hp (thn (T.done X rfl rfl rfl hc i pins s3 σ3 H3 X.xe I3 (stat fr3) st3 stop) fun r s4 ⟨hr, I4⟩ => ?_)
    subst hr
    exact wpAny_execs_nil ⟨σ3, H3, I4, qn⟩
  · refine wpAny_passesOwn hp (thn (T.item X rfl rfl rfl hc i pins s3 σ3 H3 X.xe I3 (stat fr3) st3 go) fun r s4 ⟨u, hr, h4⟩ => ?_)
    subst hr
    refine wpAny_passesOwn hp (thn h4 fun _ s5 ⟨x, H5, I5, r5, y5, st5, fr5⟩ => ?_)
    have I5' := I5.pinned (stat fr5) (T.obj _ _ st5)
    refine wpAny_passesOwn hp (thn (hg _ s5 σ3 H5 x u _ I5' r5 (step x H5 y5)) fun _ s6 ⟨σ6, H6, I6, q6⟩ => ?_)
    refine wpAny_passesOwn hp (thn (hb _ s6 σ6 H6 _ I6 q6) fun f s7 q7 => ?_)
    have again : ∀ {σ7 : St} {H7 : Hp}, Inv X (pins ++ pinsAt fp s5.heap) σ7 H7 s7 → N σ7 H7 → ∃ m, m < n ∧ ∃ i σ' H', Inv X pins σ' H' s7 ∧ tn i s7.heap ∧ (∀ b ∈ fp, H' b = none) ∧ W i m σ' H' := fun {σ7 H7} I7 n7 => by
      obtain ⟨m', hm, w7⟩ := hN σ7 H7 n7
      refine ⟨m', hm, i + 1, σ7, H7, I7.unpinned, T.keep _ _ _ st5 fun b hb o e => (I7.pin (b, o) (List.mem_append_right _ (List.mem_append_right _ (mem_pinsAt hb e)))).1, fun b hb => ?_, w7⟩
      obtain ⟨o, e, d⟩ := T.obj _ _ st5 b hb
      exact (I7.pin (b, o) (List.mem_append_right _ (List.mem_append_right _ (mem_pinsAt hb e)))).2.1
    cases f with
    | next => obtain ⟨σ7, H7, I7, n7⟩ := q7; exact again I7 n7
    | cont => obtain ⟨σ7, H7, I7, n7⟩ := q7; exact again I7 n7
    | brk => obtain ⟨σ7, H7, I7, q7⟩ := q7; exact ⟨σ7, H7, I7.unpinned, q7⟩
    | ret v => obtain ⟨x7, σ7, H7, I7, r7, q7⟩ := q7; exact ⟨x7, σ7, H7, I7.unpinned, r7, q7⟩
end

/-! ### the forms one uses -/
/-- over a list that the body leaves as it is -/
theorem for_list {K : PySem.W.Frag} {a : Addr} {xs : List V} {g : TG} {tb : TS} {D : Ends} {σ : St} {H : Hp} (Pv : Nat → St → Hp → Prop) (h0 : Pv 0 σ H) (hl : ∀ i σ H, i ≤ xs.length → Pv i σ H → SqL K H a xs)
    (hs : ∀ i x σ H, xs[i]? = some x → Pv i σ H → g x σ H fun σ2 H2 => tb { D with nx := Pv (i + 1), ct := Pv (i + 1), bk := D.nx } σ2 H2) (hd : ∀ σ H, Pv xs.length σ H → D.nx σ H) :
    ∃ W : Nat → Nat → St → Hp → Prop, (∃ m, W 0 m σ H) ∧ ∀ i m σ H, W i m σ H →
      ((Itl K a).stop i H ∧ D.nx σ H) ∨ ((Itl K a).go i H ∧ ∃ N : St → Hp → Prop, (∀ σ' H', N σ' H' → ∃ m', m' < m ∧ W (i + 1) m' σ' H') ∧ ∀ x H', (Itl K a).yld i H x H' → g x σ H' fun σ2 H2 => tb { D with nx := N, ct := N, bk := D.nx } σ2 H2) := by
  refine ⟨fun i m σ H => m = xs.length - i ∧ i ≤ xs.length ∧ Pv i σ H, ⟨xs.length, by simp, Nat.zero_le _, h0⟩, ?_⟩
  rintro i m σ H ⟨rfl, hi, p⟩
  have q := hl i σ H hi p
  by_cases hlt : i < xs.length
  · refine .inr ⟨⟨xs, xs[i], q, by simp [hlt]⟩, Pv (i + 1), fun σ' H' p' => ⟨xs.length - (i + 1), by omega, rfl, hlt, p'⟩, fun x H' y => ?_⟩
    obtain ⟨e, y⟩ := y
    subst e
    exact hs i x σ _ (y xs q) p
  · have e : i = xs.length := by omega
    subst e
    exact .inl ⟨⟨xs, q, Nat.le_refl _⟩, hd σ H p⟩
theorem for_range {lo : Int} {n : Nat} {g : TG} {tb : TS} {D : Ends} {σ : St} {H : Hp} (Pv : Nat → St → Hp → Prop) (h0 : Pv 0 σ H)
    (hs : ∀ i σ H, i < n → Pv i σ H → g (.int (lo + i)) σ H fun σ2 H2 => tb { D with nx := Pv (i + 1), ct := Pv (i + 1), bk := D.nx } σ2 H2) (hd : ∀ σ H, Pv n σ H → D.nx σ H) :
    ∃ W : Nat → Nat → St → Hp → Prop, (∃ m, W 0 m σ H) ∧ ∀ i m σ H, W i m σ H →
      ((Itr lo n).stop i H ∧ D.nx σ H) ∨ ((Itr lo n).go i H ∧ ∃ N : St → Hp → Prop, (∀ σ' H', N σ' H' → ∃ m', m' < m ∧ W (i + 1) m' σ' H') ∧ ∀ x H', (Itr lo n).yld i H x H' → g x σ H' fun σ2 H2 => tb { D with nx := N, ct := N, bk := D.nx } σ2 H2) := by
  refine ⟨fun i m σ H => m = n - i ∧ i ≤ n ∧ Pv i σ H, ⟨n, by simp, Nat.zero_le _, h0⟩, ?_⟩
  rintro i m σ H ⟨rfl, hi, p⟩
  by_cases hlt : i < n
  · refine .inr ⟨hlt, Pv (i + 1), fun σ' H' p' => ⟨n - (i + 1), by omega, rfl, hlt, p'⟩, fun x H' y => ?_⟩
    obtain ⟨e, y⟩ := y
    subst e y
    exact hs i σ _ hlt p
  · have e : i = n := by omega
    subst e
    exact .inl ⟨Nat.le_refl _, hd σ H p⟩
end L2

namespace L2
open PySem PySem.Spec PyProof.Rows

abbrev R2 := V → V → Hp → VK → Prop
/-- a two-place operation on values: f is binaryOp op, inplaceOp op or compareOp op -/
def OpR (X : Cx) (f : Value → Value → Sem Value) (r : R2) : Prop :=
  ∀ (pins : List (Addr × Obj)) (s : Shared) (σ : St) (H : Hp) (x y : V) (v u : Value) (Q : VK), Inv X pins σ H s → RelV x v → RelV y u → r x y H Q →
    wpAny (model X.prog X.w) X.A (f v u) (EP X pins σ Q) X.xe s
/-- a one-place operation -/
def UnR (X : Cx) (f : Value → Sem Value) (r : V → Hp → VK → Prop) : Prop :=
  ∀ (pins : List (Addr × Obj)) (s : Shared) (σ : St) (H : Hp) (x : V) (v : Value) (Q : VK), Inv X pins σ H s → RelV x v → r x H Q →
    wpAny (model X.prog X.w) X.A (f v) (EP X pins σ Q) X.xe s
/-- a call of a value that is known (a builtin, a type) with values -/
def CallR (X : Cx) (f : Value) (r : List V → Hp → VK → Prop) : Prop :=
  ∀ (pins : List (Addr × Obj)) (s : Shared) (σ : St) (H : Hp) (xs : List V) (us : List Value) (Q : VK), Inv X pins σ H s → Vals xs us → r xs H Q →
    wpAny (model X.prog X.w) X.A (call f us) (EP X pins σ Q) X.xe s
/-- a value's truth -/
def TruR (X : Cx) (r : V → Hp → (Bool → Hp → Prop) → Prop) : Prop :=
  ∀ (pins : List (Addr × Obj)) (s : Shared) (σ : St) (H : Hp) (x : V) (v : Value) (Q : Bool → Hp → Prop), Inv X pins σ H s → RelV x v → r x H Q →
    wpAny (model X.prog X.w) X.A (truthy v) (TP X pins σ Q) X.xe s

def tOp (r : R2) (ta tb : TE) : TE := fun σ H Q => ta σ H fun x H1 => tb σ H1 fun y H2 => r x y H2 Q
def tUn (r : V → Hp → VK → Prop) (ta : TE) : TE := fun σ H Q => ta σ H fun x H1 => r x H1 Q
/-- ints in, under C, and a value out -/
def rI (C : Int → Int → Prop) (g : Int → Int → V) : R2 := fun x y H Q => ∃ i j, x = .int i ∧ y = .int j ∧ C i j ∧ Q (g i j) H
def rI0 (g : Int → Int → V) : R2 := fun x y H Q => ∃ i j, x = .int i ∧ y = .int j ∧ Q (g i j) H
def rU (g : Int → V) : V → Hp → VK → Prop := fun x H Q => ∃ i, x = .int i ∧ Q (g i) H

section
variable {X : Cx} {a b c : Expr} {ta tb tc : TE} {pos : Pos}

theorem binT (ha : PE X a ta) (hb : PE X b tb) {pins : List (Addr × Obj)} {s : Shared} {σ : St} {H : Hp} {R : V → V → Hp → Prop} (I : Inv X pins σ H s)
    (h : ta σ H fun x H1 => tb σ H1 fun y H2 => R x y H2) {Q : Value → Shared → Prop} {f : Value → Value → Sem Value}
    (hf : ∀ v u s2 x y H2, Inv X pins σ H2 s2 → RelV x v → RelV y u → R x y H2 → wpAny (model X.prog X.w) X.A (f v u) Q X.xe s2) :
    wpAny (model X.prog X.w) X.A (eval a X.env) (fun v s₁ => wpAny (model X.prog X.w) X.A (eval b X.env) (fun u s₂ => wpAny (model X.prog X.w) X.A (f v u) Q X.xe s₂) X.xe s₁) X.xe s := by
  refine thn (ha pins s σ H _ I h) fun v s1 ⟨x, H1, I1, r1, q1⟩ => ?_
  refine thn (hb pins s1 σ H1 _ I1 q1) fun u s2 ⟨y, H2, I2, r2, q2⟩ => ?_
  exact hf v u s2 x y H2 I2 r1 r2 q2

theorem pe_op {op : Operator} {r : R2} (ho : OpR X (binaryOp op) r) (ha : PE X a ta) (hb : PE X b tb) : PE X (.BinOp a op b pos) (tOp r ta tb) := by
  intro pins s σ H Q I h
  exact wpAny_BinOp (binT ha hb I h fun v u s2 x y H2 I2 rx ry q => ho pins s2 σ H2 x y v u Q I2 rx ry q)
theorem pe_un {op : UnaryOp} {r : V → Hp → VK → Prop} (ho : UnR X (unaryOp op) r) (ha : PE X a ta) : PE X (.UnaryOp op a pos) (tUn r ta) := by
  intro pins s σ H Q I h
  exact UnaryOp_ (thn (ha pins s σ H _ I h) fun v s1 ⟨x, H1, I1, r1, q1⟩ => ho pins s1 σ H1 x v Q I1 r1 q1)

/-! ### ints -/
theorem opI {f : Value → Value → Sem Value} {C : Int → Int → Prop} {g : Int → Int → Int}
    (rule : ∀ (i j : Int) (t u : Tok) (s : Shared) (Q : Value → Shared → Prop) (E : Value → Shared → Prop), C i j → Q (.int (g i j) s.toks) { s with toks := s.toks + 1 } → wpAny (model X.prog X.w) X.A (f (.int i t) (.int j u)) Q E s) :
    OpR X f (rI C fun i j => .int (g i j)) := by
  intro pins s σ H x y v u Q I rx ry h
  obtain ⟨i, j, rfl, rfl, hc, q⟩ := h
  obtain ⟨t, rfl⟩ := rx
  obtain ⟨t', rfl⟩ := ry
  exact rule i j t t' s _ _ hc ⟨.int (g i j), H, I.tok _, ⟨_, rfl⟩, q⟩
theorem opI0 {f : Value → Value → Sem Value} {g : Int → Int → Int}
    (rule : ∀ (i j : Int) (t u : Tok) (s : Shared) (Q : Value → Shared → Prop) (E : Value → Shared → Prop), Q (.int (g i j) s.toks) { s with toks := s.toks + 1 } → wpAny (model X.prog X.w) X.A (f (.int i t) (.int j u)) Q E s) :
    OpR X f (rI0 fun i j => .int (g i j)) := by
  intro pins s σ H x y v u Q I rx ry h
  obtain ⟨i, j, rfl, rfl, q⟩ := h
  obtain ⟨t, rfl⟩ := rx
  obtain ⟨t', rfl⟩ := ry
  exact rule i j t t' s _ _ ⟨.int (g i j), H, I.tok _, ⟨_, rfl⟩, q⟩
theorem opB0 {f : Value → Value → Sem Value} {g : Int → Int → Bool}
    (rule : ∀ (i j : Int) (t u : Tok) (s : Shared) (Q : Value → Shared → Prop) (E : Value → Shared → Prop), Q (.bool (g i j)) s → wpAny (model X.prog X.w) X.A (f (.int i t) (.int j u)) Q E s) :
    OpR X f (rI0 fun i j => .bl (g i j)) := by
  intro pins s σ H x y v u Q I rx ry h
  obtain ⟨i, j, rfl, rfl, q⟩ := h
  obtain ⟨t, rfl⟩ := rx
  obtain ⟨t', rfl⟩ := ry
  exact rule i j t t' s _ _ ⟨.bl (g i j), H, I, rfl, q⟩

def CDiv (i j : Int) : Prop := 0 < j ∧ j < 1073741824
def CDivN (i j : Int) : Prop := j ≠ 0 ∧ j.natAbs < 1073741824
def CPow (i j : Int) : Prop := 0 ≤ j ∧ j ≤ 1000000 ∧ i.natAbs < 2 ^ 64
def CMul (i j : Int) : Prop := (-(2 ^ 64) < i ∧ i < 2 ^ 64) ∨ (-(2 ^ 64) < j ∧ j < 2 ^ 64)
theorem CMul.ok {i j : Int} (h : CMul i j) : IntMulOk i j := by
  rcases h with ⟨h1, h2⟩ | ⟨h1, h2⟩
  · exact .of_left (intBits_le_64 h1 h2)
  · exact .of_right (intBits_le_64 h1 h2)

theorem op_add : OpR X (binaryOp .Add) (rI0 fun i j => .int (i + j)) := opI0 fun _ _ _ _ _ _ _ q => add_int q
theorem op_sub : OpR X (binaryOp .Sub) (rI0 fun i j => .int (i - j)) := opI0 fun _ _ _ _ _ _ _ q => sub_int q
theorem op_mul : OpR X (binaryOp .Mult) (rI CMul fun i j => .int (i * j)) := opI fun _ _ _ _ _ _ _ hc q => mul_int q hc.ok
/-- // by a positive divisor -/
theorem op_fdiv : OpR X (binaryOp .FloorDiv) (rI CDiv fun i j => .int (i / j)) := opI fun i j _ _ _ _ _ hc q => by
  have h1 : (0 : Int) < j := hc.1
  have h2 : j < 1073741824 := hc.2
  exact floordiv_int (by omega) (by rw [Int.fdiv_eq_ediv_of_nonneg i (by omega)]; exact q) (.inl (PyProof.noPylong_small (by omega)))
/-- % by a positive divisor of any size -/
theorem op_mod : OpR X (binaryOp .Mod) (rI (fun _ j => 0 < j) fun i j => .int (i % j)) := opI fun i j _ _ _ _ _ hc q => by
  have h1 : (0 : Int) < j := hc
  exact mod_int' (by omega) (by rw [Int.fmod_eq_emod_of_nonneg i (by omega)]; exact q)
theorem op_pow : OpR X (binaryOp .Pow) (rI CPow fun i j => .int (i ^ j.toNat)) := opI fun _ _ _ _ _ _ _ hc q => pow_int_small hc.1 hc.2.1 hc.2.2 q


theorem unI {f : Value → Sem Value} {g : Int → Int}
    (rule : ∀ (i : Int) (t : Tok) (s : Shared) (Q : Value → Shared → Prop) (E : Value → Shared → Prop), Q (.int (g i) s.toks) { s with toks := s.toks + 1 } → wpAny (model X.prog X.w) X.A (f (.int i t)) Q E s) :
    UnR X f (rU fun i => .int (g i)) := by
  intro pins s σ H x v Q I rx h
  obtain ⟨i, rfl, q⟩ := h
  obtain ⟨t, rfl⟩ := rx
  exact rule i t s _ _ ⟨.int (g i), H, I.tok _, ⟨_, rfl⟩, q⟩
theorem un_neg : UnR X (unaryOp .USub) (rU fun i => .int (-i)) := unI fun _ _ _ _ _ q => neg_int q

/-! ### bools among ints: n += (a < b) -/
end

/-! ### comparisons -/
/-- the scalars that == tells apart as data does -/
def scal : V → V → Bool
  | .non, .non => true | .non, .int _ => true | .int _, .non => true | .non, .bl _ => true | .bl _, .non => true | .non, .str _ => true | .str _, .non => true
  | .int _, .int _ => true | .bl _, .bl _ => true | .str _, .str _ => true | .byt _, .byt _ => true
  | .int _, .str _ => true | .str _, .int _ => true | .bl _, .str _ => true | .str _, .bl _ => true
  | _, _ => false
def rEq : R2 := fun x y H Q => scal x y = true ∧ Q (.bl (decide (x = y))) H
def rNe : R2 := fun x y H Q => scal x y = true ∧ Q (.bl (!decide (x = y))) H

theorem dec_int {i j : Int} : decide (V.int i = V.int j) = (i == j) := by
  rw [Bool.eq_iff_iff]
  simp
theorem dec_bl {i j : Bool} : decide (V.bl i = V.bl j) = (i == j) := by
  rw [Bool.eq_iff_iff]
  simp
theorem dec_str {i j : Str} : decide (V.str i = V.str j) = (i == j) := by
  rw [Bool.eq_iff_iff]
  simp
theorem dec_byt {i j : Array UInt8} : decide (V.byt i = V.byt j) = (i.toList == j.toList) := by
  rw [Bool.eq_iff_iff]
  cases i
  cases j
  simp

section
variable {X : Cx} {a b c : Expr} {ta tb tc : TE} {pos : Pos}
theorem fin_bl {pins : List (Addr × Obj)} {σ : St} {H : Hp} {s : Shared} {Q : VK} {k k' : Bool} (I : Inv X pins σ H s) (q : Q (.bl k) H) (e : k = k') : EP X pins σ Q (.bool k') s := by
  subst e
  exact ⟨.bl k, H, I, rfl, q⟩
theorem op_eq : OpR X (compareOp .Eq) rEq := by
  intro pins s σ H x y v u Q I rx ry h
  obtain ⟨hs, q⟩ := h
  cases x with
  | non =>
    cases rx
    cases y with
    | non => cases ry; exact PySem.EqNone.eq_none_none (fin_bl I q (by simp))
    | bl j => cases ry; exact PySem.EqNone.eq_none_bool (fin_bl I q (by simp))
    | int j => obtain ⟨t', rfl⟩ := ry; exact PySem.EqNone.eq_none_int (fin_bl I q (by simp))
    | str j => obtain ⟨t', rfl⟩ := ry; exact PySem.EqNone.eq_none_str (fin_bl I q (by simp))
    | _ => exact absurd (show false = true from hs) Bool.false_ne_true
  | bl i =>
    cases rx
    cases y with
    | non => cases ry; exact PySem.EqNone.eq_bool_none (fin_bl I q (by simp))
    | bl j => cases ry; exact eq_bool (fin_bl I q dec_bl)
    | str j => obtain ⟨t', rfl⟩ := ry; exact PySem.EqMixed.eq_bool_str (fin_bl I q (by simp))
    | _ => exact absurd (show false = true from hs) Bool.false_ne_true
  | int i =>
    obtain ⟨t, rfl⟩ := rx
    cases y with
    | non => cases ry; exact PySem.EqNone.eq_int_none (fin_bl I q (by simp))
    | int j => obtain ⟨t', rfl⟩ := ry; exact eq_int (fin_bl I q dec_int)
    | str j => obtain ⟨t', rfl⟩ := ry; exact PySem.EqMixed.eq_int_str (fin_bl I q (by simp))
    | _ => exact absurd (show false = true from hs) Bool.false_ne_true
  | str i =>
    obtain ⟨t, rfl⟩ := rx
    cases y with
    | non => cases ry; exact PySem.EqNone.eq_str_none (fin_bl I q (by simp))
    | bl j => cases ry; exact PySem.EqMixed.eq_str_bool (fin_bl I q (by simp))
    | int j => obtain ⟨t', rfl⟩ := ry; exact PySem.EqMixed.eq_str_int (fin_bl I q (by simp))
    | str j => obtain ⟨t', rfl⟩ := ry; exact eq_str (fin_bl I q dec_str)
    | _ => exact absurd (show false = true from hs) Bool.false_ne_true
  | byt i =>
    obtain ⟨t, rfl⟩ := rx
    cases y with
    | byt j => obtain ⟨t', rfl⟩ := ry; exact PySem.W.eq_bytes (fin_bl I q dec_byt)
    | _ => exact absurd (show false = true from hs) Bool.false_ne_true
  | _ => cases y <;> exact absurd (show false = true from hs) Bool.false_ne_true
theorem op_ne : OpR X (compareOp .NotEq) rNe := by
  intro pins s σ H x y v u Q I rx ry h
  obtain ⟨hs, q⟩ := h
  cases x with
  | non =>
    cases rx
    cases y with
    | non => cases ry; exact PySem.EqNone.ne_none_none (fin_bl I q (by simp))
    | bl j => cases ry; exact PySem.EqNone.ne_none_bool (fin_bl I q (by simp))
    | int j => obtain ⟨t', rfl⟩ := ry; exact PySem.EqNone.ne_none_int (fin_bl I q (by simp))
    | str j => obtain ⟨t', rfl⟩ := ry; exact PySem.EqNone.ne_none_str (fin_bl I q (by simp))
    | _ => exact absurd (show false = true from hs) Bool.false_ne_true
  | bl i =>
    cases rx
    cases y with
    | non => cases ry; exact PySem.EqNone.ne_bool_none (fin_bl I q (by simp))
    | bl j => cases ry; exact ne_bool (fin_bl I q (congrArg not dec_bl))
    | str j => obtain ⟨t', rfl⟩ := ry; exact PySem.EqMixed.ne_bool_str (fin_bl I q (by simp))
    | _ => exact absurd (show false = true from hs) Bool.false_ne_true
  | int i =>
    obtain ⟨t, rfl⟩ := rx
    cases y with
    | non => cases ry; exact PySem.EqNone.ne_int_none (fin_bl I q (by simp))
    | int j => obtain ⟨t', rfl⟩ := ry; exact ne_int (fin_bl I q (congrArg not dec_int))
    | str j => obtain ⟨t', rfl⟩ := ry; exact PySem.EqMixed.ne_int_str (fin_bl I q (by simp))
    | _ => exact absurd (show false = true from hs) Bool.false_ne_true
  | str i =>
    obtain ⟨t, rfl⟩ := rx
    cases y with
    | non => cases ry; exact PySem.EqNone.ne_str_none (fin_bl I q (by simp))
    | bl j => cases ry; exact PySem.EqMixed.ne_str_bool (fin_bl I q (by simp))
    | int j => obtain ⟨t', rfl⟩ := ry; exact PySem.EqMixed.ne_str_int (fin_bl I q (by simp))
    | str j => obtain ⟨t', rfl⟩ := ry; exact ne_str (fin_bl I q (congrArg not dec_str))
    | _ => exact absurd (show false = true from hs) Bool.false_ne_true
  | byt i =>
    obtain ⟨t, rfl⟩ := rx
    cases y with
    | byt j => obtain ⟨t', rfl⟩ := ry; exact PySem.W.ne_bytes (fin_bl I q (congrArg not dec_byt))
    | _ => exact absurd (show false = true from hs) Bool.false_ne_true
  | _ => cases y <;> exact absurd (show false = true from hs) Bool.false_ne_true

theorem op_lt : OpR X (compareOp .Lt) (rI0 fun i j => .bl (decide (i < j))) := opB0 fun _ _ _ _ _ _ _ q => lt_int q
theorem op_le : OpR X (compareOp .LtE) (rI0 fun i j => .bl (decide (i ≤ j))) := opB0 fun _ _ _ _ _ _ _ q => le_int q
theorem op_gt : OpR X (compareOp .Gt) (rI0 fun i j => .bl (decide (j < i))) := opB0 fun _ _ _ _ _ _ _ q => gt_int q

theorem op_notN : OpR X (compareOp .IsNot) (fun x y H Q => y = .non ∧ Q (.bl (!decide (x = .non))) H) := by
  intro pins s σ H x y v u Q I rx ry h
  obtain ⟨rfl, q⟩ := h
  cases ry
  refine isnot_none_gen (fin_bl I q ?_)
  cases x <;> first
    | (cases rx; rfl)
    | (obtain ⟨t, rfl⟩ := rx; rfl)

/-- is, is not of two objects that are tracked lists or instances -/
def isObj : HO → Bool
  | .lst _ => true
  | .ins _ _ _ => true
  | _ => false


theorem nomark (b : Expr) {op : CmpOp} (h : op ≠ .In := by decide) (h2 : op ≠ .NotIn := by decide) : behindInMarks op b = false := by
  have e1 : (op == CmpOp.In) = false := by cases op <;> first | rfl | exact absurd rfl h
  have e2 : (op == CmpOp.NotIn) = false := by cases op <;> first | rfl | exact absurd rfl h2
  cases b <;> simp [behindInMarks, e1, e2]
/-- a comparison as a value; hm: nomark b, or (for in, not in) by with_unfolding_all rfl -/
theorem pe_cmpR {op : CmpOp} {r : R2} (ho : OpR X (compareOp op) r) (ha : PE X a ta) (hb : PE X b tb) (hm : behindInMarks op b = false) : PE X (.Compare a [op] [b] pos) (tOp r ta tb) := by
  intro pins s σ H Q I h
  exact wpAny_Compare1 (binT ha hb I h fun v u s2 x y H2 I2 rx ry q => ho pins s2 σ H2 x y v u Q I2 rx ry q) hm
/-- a reading of a value as a test -/
def tTest (t : TE) : TT := fun σ H Q => t σ H fun x H' => ∃ k, x = .bl k ∧ Q k H'
theorem pt_cmpR {op : CmpOp} {r : R2} (ho : OpR X (compareOp op) r) (ha : PE X a ta) (hb : PE X b tb) (hm : behindInMarks op b = false) : PT X (.Compare a [op] [b] pos) (tTest (tOp r ta tb)) := by
  intro pins s σ H Q I h
  refine wpAny_isTrue_Compare1 (thn (ha pins s σ H _ I h) fun v s1 ⟨x, H1, I1, r1, q1⟩ => thn (hb pins s1 σ H1 _ I1 q1) fun u s2 ⟨y, H2, I2, r2, q2⟩ =>
    thn (ho pins s2 σ H2 x y v u _ I2 r1 r2 q2) fun c s3 ⟨z, H3, I3, r3, k, e, q3⟩ => ?_) hm
  subst e
  cases r3
  exact wpAny_truthy_bool ⟨H3, I3, q3⟩
/-- a op1 b op2 c -/
def tChain (r r' : R2) (ta tb tc : TE) : TE := fun σ H Q => ta σ H fun x H1 => tb σ H1 fun y H2 => r x y H2 fun z H3 => ∃ k, z = .bl k ∧
  (if k = true then tc σ H3 fun w' H4 => r' y w' H4 Q else Q (.bl false) H3)
theorem pe_chain {op op' : CmpOp} {r r' : R2} (ho : OpR X (compareOp op) r) (ho' : OpR X (compareOp op') r') (ha : PE X a ta) (hb : PE X b tb) (hc : PE X c tc)
    (hm : lastMarks [op, op'] [b, c] = false := by with_unfolding_all rfl) : PE X (.Compare a [op, op'] [b, c] pos) (tChain r r' ta tb tc) := by
  intro pins s σ H Q I h
  refine Compare_chain (thn (ha pins s σ H _ I h) fun v s1 ⟨x, H1, I1, r1, q1⟩ => chain_link (thn (hb pins s1 σ H1 _ I1 q1) fun u s2 ⟨y, H2, I2, r2, q2⟩ =>
    thn (ho pins s2 σ H2 x y v u _ I2 r1 r2 q2) fun d s3 ⟨z, H3, I3, r3, k, e, q3⟩ => ?_)) hm
  subst e
  cases r3
  refine wpAny_truthy_bool ?_
  cases k with
  | false => exact ite_ff ⟨.bl false, H3, I3, rfl, q3⟩
  | true => exact ite_tt (chain_last (thn (hc pins s3 σ H3 _ I3 q3) fun w' s4 ⟨z', H4, I4, r4, q4⟩ => ho' pins s4 σ H4 y z' u w' Q I4 r2 r4 q4))

/-! ### truth -/
/-- a value's truth by the abstract heap -/
def TruV (K : PySem.W.Frag) (x : V) (H : Hp) (k : Bool) : Prop :=
  match x with
  | .non => k = false
  | .bl b => k = b
  | .int i => k = (i != 0)
  | .str y => y.length ≤ sizeLine ∧ k = ((y.length : Int) != 0)
  | .byt y => y.size ≤ sizeLine ∧ k = ((y.size : Int) != 0)
  | .ref p => (∃ xs, SqL K H p xs ∧ k = !xs.isEmpty) ∨ (∃ xs, SqT K H p xs ∧ k = !xs.isEmpty) ∨ ∃ kvs, H p = some (.dK kvs) ∧ k = !kvs.isEmpty
  | _ => False
theorem line63 : (sizeLine : Nat) < 2 ^ 63 := by rw [sizeLine_eq]; decide

/-! ### strs and bytes -/

def PlainIxT (b : Expr) : Prop := ∀ o i, subscripted b false o i = operate [o, i] (getItem o i)

/-! ### scalar builtins, by CallR -/
theorem vals1 {x : V} {us : List Value} (r : Vals [x] us) : ∃ u, us = [u] ∧ RelV x u := by
  cases r with
  | cons r1 r2 => cases r2; exact ⟨_, rfl, r1⟩
theorem call_abs : CallR X (.builtin "abs") (fun xs H Q => ∃ i, xs = [.int i] ∧ Q (.int (if i < 0 then -i else i)) H) := by
  intro pins s σ H xs us Q I r h
  obtain ⟨i, rfl, q⟩ := h
  obtain ⟨u, rfl, t, rfl⟩ := vals1 r
  exact call_abs_int fun u tk => ⟨.int (if i < 0 then -i else i), H, I.tok _, ⟨_, rfl⟩, q⟩
/-- len of a str, a bytes, a list, a tuple -/
def LenV (K : PySem.W.Frag) (x : V) (H : Hp) (n : Nat) : Prop :=
  match x with
  | .str y => y.length ≤ sizeLine ∧ n = y.length
  | .byt y => y.size ≤ sizeLine ∧ n = y.size
  | .ref p => (∃ xs, SqL K H p xs ∧ n = xs.length) ∨ ∃ xs, SqT K H p xs ∧ n = xs.length
  | _ => False
end
end L2

namespace L2
open PySem PySem.Spec PyProof.Rows

/-! ### an instance, its attributes a map -/
structure ObjM (h : Heap) (x dx C : Addr) (mA : Str → Option Value) : Prop where
  obj : h.get? x = some (PySem.W.instObj C dx)
  ns : h.Ns1 dx mA
  ne : dx ≠ x

theorem lookIn_ns {h : Heap} {dx : Addr} {mA : Str → Option Value} (n : h.Ns1 dx mA) : ∃ od, h.get? dx = some od ∧ ∀ name, PySem.W.lookIn name od = some (mA name) := by
  obtain ⟨o, es, ep, ho, hd, hk, _, hm⟩ := n
  refine ⟨o, ho, fun name => ?_⟩
  have e := hm name
  unfold nsFind findBy at e
  rw [← Array.find?_toList] at e
  unfold PySem.W.lookIn
  rw [hd]
  dsimp only
  split
  · rename_i y q
    rw [q] at e
    exact congrArg some e
  · rename_i q
    rw [q] at e
    have a : es.toList.any (·.refKey) = false := by
      rw [List.any_eq_false]
      intro y hy
      obtain ⟨z, t, hkey⟩ := hk y (Array.mem_toList_iff.mp hy)
      simp [DictEntry.refKey, hkey]
    have a' : ¬ es.toList.any (·.refKey) = true := by rw [a]; exact Bool.false_ne_true
    rw [if_neg a']
    exact congrArg some e

theorem ObjM.look {h : Heap} {x dx C : Addr} {mA : Str → Option Value} (I : ObjM h x dx C mA) : ∃ od, PySem.W.InstAt h x (PySem.W.instObj C dx) C (some od) ∧ ∀ name, PySem.W.lookIn name od = some (mA name) :=
  let ⟨od, ho, hl⟩ := lookIn_ns I.ns
  ⟨od, ⟨I.obj, rfl, rfl, ho⟩, hl⟩

section
variable {prog : Program} {w : World} {A : Around} {E : Value → Shared → Prop} {s : Shared} {K : PySem.W.Frag} {x dx C f : Addr} {mA : Str → Option Value} {name : Str} {v : Value}

theorem get_map {expr : Bool} {Q : Value → Shared → Prop} (X : K.In s.heap) (I : ObjM s.heap x dx C mA) (hg : PySem.W.plainGet K C name = true) (hh : PySem.W.hasDictIn K C = true)
    (ha : PySem.W.findIn K (.ref C) name = some none) (hv : mA name = some v) (hv' : PySem.W.handedIn v = true) (h : Q v { s with toks := s.toks + 1 }) :
    wpAny (model prog w) A (getAttr (.ref x) name expr) Q E s := by
  obtain ⟨od, J, hl⟩ := I.look
  exact PySem.W.get_value X J (PySem.W.plainGet_of hg).1 (PySem.W.findObj_own hh ha rfl (by rw [hl, hv])) hv' h


theorem get_meth {pl : Sem Bool} {Q : Value × List Value → Shared → Prop} (X : K.In s.heap) (I : ObjM s.heap x dx C mA) (hg : PySem.W.plainGet K C name = true)
    (hf : PySem.W.findIn K (.ref C) name = some (some (.ref f))) (ht : PySem.W.isFn K (.ref f) = true) (hv : mA name = none) (h : Q (.ref f, [.ref x]) s) :
    wpAny (model prog w) A (getMethod (.ref x) name pl) Q E s := by
  obtain ⟨od, J, hl⟩ := I.look
  exact PySem.W.method_fn X J (PySem.W.plainGet_of hg).1 (PySem.W.plainGet_of hg).2 hf (beq_iff_eq.mp ht) (by show (PySem.W.lookIn name od).map (·.isSome) = some false; rw [hl, hv]; rfl) h

theorem set_map {ns : List Str} {Q : Unit → Shared → Prop} (X : K.In s.heap) (I : ObjM s.heap x dx C mA)
    (hs : PySem.W.findIn K (.ref C) "__setattr__" = some (some (.builtin "object.__setattr__"))) (hp : PySem.W.plainOver K C = true) (ht : PySem.W.takerIn K C name = some none) (hh : PySem.W.hasDictIn K C = true)
    (hw : PySem.Within mA ns) (hsz : ns.length ≤ sizeLine)
    (h : ∀ h', ObjM h' x dx C (fun y => if y = name then some v else mA y) → Heap.SameBut dx s.heap h' → Q () { s with heap := h', toks := s.toks + 2 }) :
    wpAny (model prog w) A (setAttr (.ref x) name v) Q E s := by
  obtain ⟨od, J, hl⟩ := I.look
  refine PySem.W.set_plain X J hs (PySem.W.osa_open (s := { s with toks := s.toks + 1 }) (r := none) X J hp ht fun b => ?_)
  obtain ⟨cd, hc, hd'⟩ := PySem.W.any_some hh
  have hx : s.heap.get? x = some ⟨.ref C, some dx, .plain, #[]⟩ := I.obj
  refine wpAny_bind (wpAny_pure (wpAny_bind (wpAny_bind (wpAny_loadPart hx (wpAny_bind (PySem.W.Looks.here (s := { s with toks := s.toks + 1 }) (PySem.W.looks_clsIn X hc) ?_))))))
  rw [hd']
  refine wpAny_pure (a := some dx) (wpAny_bind (wpAny_pure (wpAny_bind ?_)))
  refine wpAny_nsSet1 (s := { s with toks := s.toks + 1 }) I.ns fun h' hn2 hs2 => ?_
  obtain ⟨oD, esD, epD, hoD, hdD, hcD⟩ := hn2.count (PySem.Within.cons name v hw)
  refine wpAny_bind (wpAny_lookBehind hoD (by rw [hdD]; exact pastItsLine_dict (Nat.le_trans hcD (by rw [List.length_cons]; omega))) ?_)
  exact wpAny_pure (h _ ⟨(hs2.2 _ (Ne.symm I.ne)).trans I.obj, hn2, I.ne⟩ hs2)

/-- C(..): the dict at the heap's end, the instance behind it; then its __init__ -/
theorem make_map {R : Result → Shared → Prop} {vs : List Value} {kw : List (Str × Value)} (X : K.In s.heap) (hm : PySem.W.makesIn K C = true)
    (hi : PySem.W.findIn K (.ref C) "__init__" = some (some (.ref f))) (hf : PySem.W.typeIn K (.ref f) = some (.type "function"))
    (h : codeAny (model prog w) (A.under (.builtin "type.__call__" ⟨.ref C :: vs, kw⟩)) (.call (.ref f) ⟨.ref (s.heap.objs.size + 1) :: vs, kw⟩) (PySem.W.InitBack (s.heap.objs.size + 1) R)
      { s with heap := (s.heap.push PySem.W.emptyDict).push (PySem.W.instObj C s.heap.objs.size) }) :
    codeAny (model prog w) A (.call (.ref C) ⟨vs, kw⟩) R s := by
  obtain ⟨hh, g, d, t, os⟩ := s
  exact PySem.W.make_core (PySem.W.makes_of X hm) (PySem.W.looks_findIn X hi) (fun self => PySem.W.bind_fn X self hf) (.inl rfl) h
end

/-! ### the attributes as a list of pairs -/
def putF (f : Str) (v : V) : List (Str × V) → List (Str × V)
  | [] => [(f, v)]
  | (g, x) :: r => if g = f then (g, v) :: r else (g, x) :: putF f v r
theorem lookup_putF (f g : Str) (v : V) : ∀ fs : List (Str × V), (putF f v fs).lookup g = if g = f then some v else fs.lookup g
  | [] => by
    show List.lookup g [(f, v)] = _
    by_cases h : g = f
    · have hb : (g == f) = true := beq_iff_eq.mpr h
      simp only [List.lookup, hb, if_pos h]
    · have hb : (g == f) = false := beq_eq_false_iff_ne.mpr h
      simp only [List.lookup, hb, if_neg h]
  | (k, x) :: r => by
    have ih := lookup_putF f g v r
    rw [show putF f v ((k, x) :: r) = (if k = f then (k, v) :: r else (k, x) :: putF f v r) from rfl]
    by_cases hk : k = f
    · rw [if_pos hk]
      by_cases h : g = k
      · have hb : (g == k) = true := beq_iff_eq.mpr h
        simp only [List.lookup, hb, if_pos (h.trans hk)]
      · have hb : (g == k) = false := beq_eq_false_iff_ne.mpr h
        simp only [List.lookup, hb, if_neg (fun e : g = f => h (e.trans hk.symm))]
    · rw [if_neg hk]
      by_cases h : g = k
      · have hb : (g == k) = true := beq_iff_eq.mpr h
        simp only [List.lookup, hb, if_neg (fun e : g = f => hk (h.symm.trans e))]
      · have hb : (g == k) = false := beq_eq_false_iff_ne.mpr h
        simp only [List.lookup, hb]
        exact ih
theorem keys_putF (f : Str) (v : V) : ∀ fs : List (Str × V), f ∈ (putF f v fs).map (·.1) ∧ ∀ g, g ∈ fs.map (·.1) → g ∈ (putF f v fs).map (·.1)
  | [] => ⟨by simp [putF], fun g h => by simp at h⟩
  | (k, x) :: r => by
    obtain ⟨i1, i2⟩ := keys_putF f v r
    rw [show putF f v ((k, x) :: r) = (if k = f then (k, v) :: r else (k, x) :: putF f v r) from rfl]
    by_cases hk : k = f
    · rw [if_pos hk]
      subst hk
      exact ⟨by simp, fun g h => by simpa using h⟩
    · rw [if_neg hk]
      refine ⟨?_, fun g h => ?_⟩
      · rw [List.map_cons]
        exact List.mem_cons_of_mem _ i1
      · rw [List.map_cons] at h ⊢
        rcases List.mem_cons.mp h with e | e
        · exact List.mem_cons.mpr (.inl e)
        · exact List.mem_cons_of_mem _ (i2 g e)
theorem length_putF (f : Str) (v : V) : ∀ fs : List (Str × V), (putF f v fs).length ≤ fs.length + 1
  | [] => by simp [putF]
  | (k, x) :: r => by
    have ih := length_putF f v r
    rw [show putF f v ((k, x) :: r) = (if k = f then (k, v) :: r else (k, x) :: putF f v r) from rfl]
    by_cases hk : k = f
    · rw [if_pos hk, List.length_cons, List.length_cons]; omega
    · rw [if_neg hk, List.length_cons, List.length_cons]; omega

theorem RelO.some_of {v : V} {o : Option Value} (r : RelO (some v) o) : ∃ u, o = some u ∧ RelV v u := by
  cases o with
  | none => exact (show False from r).elim
  | some u => exact ⟨u, rfl, r⟩
theorem RelO.none_of {o : Option Value} (r : RelO none o) : o = none := by
  cases o with
  | none => rfl
  | some u => exact (show False from r).elim
theorem handed_of {v : V} {u : Value} (r : RelV v u) : PySem.W.handedIn u = true := by
  cases v with
  | non => cases (show u = Value.none from r); rfl
  | bl b => cases (show u = Value.bool b from r); rfl
  | int i => obtain ⟨t, e⟩ := (show ∃ t, u = Value.int i t from r); cases e; rfl
  | str x => obtain ⟨t, e⟩ := (show ∃ t, u = Value.str x t from r); cases e; rfl
  | byt b => obtain ⟨t, e⟩ := (show ∃ t, u = Value.bytes b t from r); cases e; rfl
  | flt b => obtain ⟨t, e⟩ := (show ∃ t, u = Value.float b t from r); cases e; rfl
  | ref a => cases (show u = Value.ref a from r); rfl
  | ty n => cases (show u = Value.type n from r); rfl

section
variable {P : Program} {w : World} {H H' : Hp} {h h' : Heap} {a C dx : Addr} {fs fs' : List (Str × V)}
theorem ins_get (hok : HOk P w H h) (e : H a = some (.ins C dx fs)) : ∃ mA, ObjM h a dx C mA ∧ (∀ f, RelO (fs.lookup f) (mA f)) ∧ PySem.Within mA (fs.map (·.1)) ∧ fs.length ≤ 1000 ∧ H dx = some (.own a) := by
  obtain ⟨d, z, ne, ob, mA, n, r, q⟩ := (show ObjOk P w H h a (.ins C dx fs) from hok a _ e)
  exact ⟨mA, ⟨ob, n, ne⟩, r, q, z, d⟩
end

/-! ### what of the text a class must have -/
structure Cls (K : PySem.W.Frag) (C : Addr) : Prop where
  pg : PySem.W.plainGet K C Str.empty = true
  hd : PySem.W.hasDictIn K C = true
  po : PySem.W.plainOver K C = true
  sa : PySem.W.findIn K (.ref C) "__setattr__" = some (some (.builtin "object.__setattr__"))
theorem Cls.get {K : PySem.W.Frag} {C : Addr} (c : Cls K C) (f : Str) : PySem.W.plainGet K C f = true := c.pg
/-- no class of it has the name -/
def NoAttr (K : PySem.W.Frag) (C : Addr) (f : Str) : Prop := PySem.W.findIn K (.ref C) f = some none
theorem NoAttr.taker {K : PySem.W.Frag} {C : Addr} {f : Str} (n : NoAttr K C f) : PySem.W.takerIn K C f = some none := by
  unfold PySem.W.takerIn
  rw [show PySem.W.findIn K (.ref C) f = some none from n]
  rfl
/-- a constant of the class -/
structure Con (K : PySem.W.Frag) (C : Addr) (f : Str) (v : V) (u : Value) : Prop where
  at_ : PySem.W.findIn K (.ref C) f = some (some u)
  rel : RelV v u
  get : PySem.W.specialIn K u "__get__" = some none
  cp : PySem.W.copiedNames.contains f = false
/-- a method: a plain def of the class or of one above it -/
structure Meth (K : PySem.W.Frag) (C : Addr) (m : Str) (f : Addr) : Prop where
  at_ : PySem.W.findIn K (.ref C) m = some (some (.ref f))
  fn : PySem.W.isFn K (.ref f) = true
  kp : PySem.W.keepIn K (.ref f) = true

section
variable {X : Cx} {pins : List (Addr × Obj)} {σ : St} {H : Hp} {s : Shared} {a C dx : Addr} {fs : List (Str × V)} {f : Str} {v : V} {A : Around} {E : Value → Shared → Prop}

theorem getattr_ok {b : Bool} {Q : Value → Shared → Prop} (I : Inv X pins σ H s) (e : H a = some (.ins C dx fs)) (c : Cls X.K C) (n : NoAttr X.K C f) (l : fs.lookup f = some v)
    (h : ∀ u s', Inv X pins σ H s' → RelV v u → Q u s') : wpAny (model X.prog X.w) A (getAttr (.ref a) f b) Q E s := by
  obtain ⟨mA, O, r, _, _, _⟩ := ins_get I.hok e
  obtain ⟨u, hu, ru⟩ := RelO.some_of (v := v) (o := mA f) (by rw [← l]; exact r f)
  exact get_map I.kIn O (c.get f) c.hd n hu (handed_of ru) (h u _ (I.tok _) ru)


theorem getmeth_ok {m : Str} {g : Addr} {pl : Sem Bool} {Q : Value × List Value → Shared → Prop} (I : Inv X pins σ H s) (e : H a = some (.ins C dx fs)) (c : Cls X.K C) (k : Meth X.K C m g) (l : fs.lookup m = none)
    (h : Q (.ref g, [.ref a]) s) : wpAny (model X.prog X.w) A (getMethod (.ref a) m pl) Q E s := by
  obtain ⟨mA, O, r, _, _, _⟩ := ins_get I.hok e
  have hn : mA m = none := RelO.none_of (by rw [← l]; exact r m)
  exact get_meth I.kIn O (c.get m) k.at_ k.fn hn h

theorem setattr_ok {y : V} {u : Value} {Q : Unit → Shared → Prop} (I : Inv X pins σ H s) (e : H a = some (.ins C dx fs)) (c : Cls X.K C) (n : NoAttr X.K C f) (hl : fs.length < 1000) (ry : RelV y u)
    (h : ∀ s', Inv X pins σ (upd H a (.ins C dx (putF f y fs))) s' → Q () s') : wpAny (model X.prog X.w) A (setAttr (.ref a) f u) Q E s := by
  obtain ⟨mA, O, r, wi, _, ho⟩ := ins_get I.hok e
  have hz : (fs.map (·.1)).length ≤ sizeLine := by rw [List.length_map, sizeLine_eq]; omega
  refine set_map I.kIn O c.sa c.po n.taker c.hd wi hz fun h' O' sb => h _ ?_
  have hd : ∃ o, h'.get? dx = some o := let ⟨o, _, _, e', _⟩ := O'.ns; ⟨o, e'⟩
  refine I.write (x := a) (e := dx) (by rw [e]; exact True.intro) (.inr ho) (fun b q hb z => (sb.2 b hb).trans z) hd ?_
  refine ⟨by rw [upd_ne O.ne]; exact ho, ?_, O.ne, O'.obj, _, O'.ns, fun g => ?_, fun g hg => ?_⟩
  · have := length_putF f y fs; omega
  · show RelO ((putF f y fs).lookup g) (if g = f then some u else mA g)
    rw [lookup_putF]
    by_cases q : g = f
    · rw [if_pos q, if_pos q]; exact ry
    · rw [if_neg q, if_neg q]; exact r g
  · by_cases q : g = f
    · rw [q]; exact (keys_putF f y fs).1
    · refine (keys_putF f y fs).2 g (wi g fun z => hg ?_)
      show (if g = f then some u else mA g) = none
      rw [if_neg q]; exact z

/-- a new instance, tracked, without attributes -/
theorem Inv.made (I : Inv X pins σ H s) : Inv X pins σ (upd (upd H s.heap.objs.size (.own (s.heap.objs.size + 1))) (s.heap.objs.size + 1) (.ins C s.heap.objs.size []))
    { s with heap := (s.heap.push PySem.W.emptyDict).push (PySem.W.instObj C s.heap.objs.size) } := by
  have e1 : (s.heap.push PySem.W.emptyDict).get? s.heap.objs.size = some PySem.W.emptyDict := Heap.get?_push_size s.heap rfl
  have e2 : ((s.heap.push PySem.W.emptyDict).push (PySem.W.instObj C s.heap.objs.size)).get? (s.heap.objs.size + 1) = some (PySem.W.instObj C s.heap.objs.size) := by
    have := Heap.get?_push_size (s.heap.push PySem.W.emptyDict) (o := PySem.W.instObj C s.heap.objs.size) rfl
    rwa [Heap.size_push] at this
  have e3 : (s.heap.push PySem.W.emptyDict).Ns s.heap.objs.size (fun _ => none) := ⟨PySem.W.emptyDict, #[], _, e1, rfl, (fun e he => absurd he (by simp)), fun _ => rfl⟩
  have I1 := I.laid (a := s.heap.objs.size) (o := .own (s.heap.objs.size + 1)) (h' := s.heap.push PySem.W.emptyDict) (t' := s.toks) (fun b u q => Heap.get?_push_of_some _ q) (Nat.le_refl _) ⟨_, e1⟩
  refine I1.laid (a := s.heap.objs.size + 1) (o := .ins C s.heap.objs.size []) (t' := s.toks) (fun b u q => Heap.get?_push_of_some _ q) (Nat.le_of_eq (Heap.size_push _ _)) ?_
  have ne : s.heap.objs.size ≠ s.heap.objs.size + 1 := Nat.ne_of_lt (Nat.lt_succ_self _)
  refine ⟨by rw [upd_ne ne, upd_same], Nat.zero_le _, ne, e2, fun _ => none, (Heap.Ns1.of_empty e3).at fun o q => Heap.get?_push_of_some _ q, fun _ => True.intro, fun y hy => absurd rfl hy⟩

/-- e.f where nothing but the object is asked: through attributeBase (super) and the last hold -/
theorem attr_of {prog : Program} {w : World} {env : Env} {e : Expr} {f : Str} {pos : Pos} {s : Shared} {Q : Value → Shared → Prop} (hb : attributeBase e f env (eval e env) = eval e env)
    (h : wpAny (model prog w) A (eval e env) (fun o s₁ => wpAny (model prog w) A (getAttr o f true) Q E s₁) E s) : wpAny (model prog w) A (eval (.Attribute e f pos) env) Q E s :=
  Attribute_any_ h (by rw [arm_eval_Attribute, hb])
end

/-! ### readings and rules -/
/-- e.f, an attribute of the instance -/
def tFld (K : PySem.W.Frag) (ta : TE) (f : Str) : TE := fun σ H Q => ta σ H fun x H1 => ∃ a C dx fs v, x = .ref a ∧ H1 a = some (.ins C dx fs) ∧ Cls K C ∧ NoAttr K C f ∧ fs.lookup f = some v ∧ Q v H1
/-- e.f, a constant of the class -/
def tCon (K : PySem.W.Frag) (ta : TE) (f : Str) : TE := fun σ H Q => ta σ H fun x H1 => ∃ a C dx fs v u, x = .ref a ∧ H1 a = some (.ins C dx fs) ∧ Cls K C ∧ Con K C f v u ∧ fs.lookup f = none ∧ Q v H1
/-- e.f = value -/
def sFld (K : PySem.W.Frag) (ta tv : TE) (f : Str) : TS := fun D σ H => tv σ H fun y H1 => ta σ H1 fun x H2 => ∃ a C dx fs, x = .ref a ∧ H2 a = some (.ins C dx fs) ∧ Cls K C ∧ NoAttr K C f ∧ fs.length < 1000 ∧
  D.nx σ (upd H2 a (.ins C dx (putF f y fs)))
/-- an augmented operator on two values -/
def InOp (X : Cx) (op : Operator) (rd : V → V → Hp → VK → Prop) : Prop :=
  ∀ (pins : List (Addr × Obj)) (s : Shared) (σ : St) (H : Hp) (x y : V) (u v : Value) (Q : VK), Inv X pins σ H s → RelV x u → RelV y v → rd x y H Q → wpAny (model X.prog X.w) X.A (inplaceOp op u v) (EP X pins σ Q) X.xe s
/-- e.f op= value -/
def sFldAug (K : PySem.W.Frag) (ta tv : TE) (rd : V → V → Hp → VK → Prop) (f : Str) : TS := fun D σ H => ta σ H fun x H1 => ∃ a C dx fs v, x = .ref a ∧ H1 a = some (.ins C dx fs) ∧ Cls K C ∧ NoAttr K C f ∧ fs.lookup f = some v ∧
  tv σ H1 fun y H2 => rd v y H2 fun z H3 => ∃ dx' fs', H3 a = some (.ins C dx' fs') ∧ fs'.length < 1000 ∧ D.nx σ (upd H3 a (.ins C dx' (putF f z fs')))

section
variable {X : Cx} {o e value : Expr} {f : Str} {pos pos' tpos : Pos} {ta tv : TE}
theorem pe_fld (he : PE X e ta) (hb : attributeBase e f X.env (eval e X.env) = eval e X.env) : PE X (.Attribute e f pos) (tFld X.K ta f) := by
  intro pins s σ H Q I h
  refine attr_of hb (thn (he pins s σ H _ I h) fun u s1 ⟨x, H1, I1, rx, a, C, dx, fs, v, ex, ea, c, n, l, q⟩ => ?_)
  subst ex
  obtain rfl : u = Value.ref a := rx
  exact getattr_ok I1 ea c n l fun u' s2 I2 ru => ⟨v, H1, I2, ru, q⟩
theorem ps_fld (ha : PE X o ta) (hv : PE X value tv) (hs : swapsWith value (some (.Attribute o f pos')) pos.line X.env = pure false) : PS X (.Assign [.Attribute o f pos'] value pos) (sFld X.K ta tv f) := by
  intro pins s σ H D I h
  refine plainObj_wpAny_Assign_Attribute (thn (hv pins s σ H _ I h) fun u s1 ⟨y, H1, I1, ry, q⟩ => thn (ha pins s1 σ H1 _ I1 q) fun ov s2 ⟨x, H2, I2, rx, a, C, dx, fs, ex, ea, c, n, l, q2⟩ => ?_) hs
  subst ex
  obtain rfl : ov = Value.ref a := rx
  exact setattr_ok I2 ea c n l ry fun s3 I3 => ⟨σ, _, I3, q2⟩
def rAdd : V → V → Hp → VK → Prop := fun x y H Q => ∃ i j, x = .int i ∧ y = .int j ∧ Q (.int (i + j)) H
def rSub : V → V → Hp → VK → Prop := fun x y H Q => ∃ i j, x = .int i ∧ y = .int j ∧ Q (.int (i - j)) H

end

/-! ### isinstance -/
section
variable {X : Cx} {pins : List (Addr × Obj)} {σ : St} {H : Hp} {s : Shared} {A : Around} {E : Value → Shared → Prop} {Q : Value → Shared → Prop} {c : Value} {b : Bool}
/-- the type of a value, as the fragment's deciders take it; for an instance its class -/
inductive TyOf (K : PySem.W.Frag) (H : Hp) : V → Value → Prop where
  | non : TyOf K H .non (.type "NoneType")
  | bl (x : Bool) : TyOf K H (.bl x) (.type "bool")
  | int (i : Int) : TyOf K H (.int i) (.type "int")
  | str (x : Str) : TyOf K H (.str x) (.type "str")
  | flt (x : UInt64) : TyOf K H (.flt x) (.type "float")
  | lst {a : Addr} {xs : List V} (e : H a = some (.lst xs)) : TyOf K H (.ref a) (.type "list")
  | frz {a : Addr} {o : Obj} {xs : List V} (e : H a = some (.frz o (.lst xs))) : TyOf K H (.ref a) (.type "list")
  | tup {a : Addr} {xs : List V} (e : H a = some (.tup xs)) : TyOf K H (.ref a) (.type "tuple")
  | dK {a : Addr} {kvs : List (Key × V)} (e : H a = some (.dK kvs)) : TyOf K H (.ref a) (.type "dict")
  | dT {a : Addr} {kvs : List (List Key × V)} (e : H a = some (.dT kvs)) : TyOf K H (.ref a) (.type "dict")
  | ins {a C dx : Addr} {fs : List (Str × V)} (e : H a = some (.ins C dx fs)) (cl : Cls K C) (ha : PySem.W.findIn K (.ref C) "__class__" = some (some (.builtin "object.__class__")))
      (hn : PySem.W.specialIn K (.builtin "object.__class__") "__get__" = some (some (.builtin "getset_descriptor.__get__"))) (htk : PySem.W.takesIn K (.builtin "object.__class__") = some true)
      (hm : PySem.W.mroIn K C (.type "object") = some true) : TyOf K H (.ref a) (.ref C)
/-- isinstance(x, c) for one class c, a built-in or an own one: kitOne's answer -/
theorem isinst_ok {x : V} {u t : Value} (I : Inv X pins σ H s) (rx : RelV x u) (ty : TyOf X.K H x t) (e : PySem.W.kitOne X.K t c = some b) (h : ∀ tk, Q (.bool b) { s with toks := tk }) :
    wpAny (model X.prog X.w) A (call (.builtin "isinstance") [u, c]) Q E s := by
  cases ty with
  | non => cases (show u = Value.none from rx); exact PySem.W.kia_one PySem.W.kitx_none I.kIn True.intro e (fun z => nomatch z) h
  | bl y => cases (show u = Value.bool y from rx); exact PySem.W.kia_one PySem.W.kitx_bool I.kIn True.intro e (fun z => nomatch z) h
  | int i => obtain ⟨t, q⟩ := (show ∃ t, u = Value.int i t from rx); cases q; exact PySem.W.kia_one PySem.W.kitx_int I.kIn True.intro e (fun z => nomatch z) h
  | str y => obtain ⟨t, q⟩ := (show ∃ t, u = Value.str y t from rx); cases q; exact PySem.W.kia_one PySem.W.kitx_str I.kIn True.intro e (fun z => nomatch z) h
  | flt y => obtain ⟨t, q⟩ := (show ∃ t, u = Value.float y t from rx); cases q; exact PySem.W.kia_one PySem.W.kitx_float I.kIn True.intro e (fun z => nomatch z) h
  | @lst a xs ea =>
    cases (show u = Value.ref a from rx)
    obtain ⟨_, _, n, _, h1⟩ := (show ObjOk X.prog X.w H s.heap a (.lst xs) from I.hok a _ ea)
    exact PySem.W.kia_one PySem.W.kitx_list I.kIn ⟨_, h1, rfl⟩ e (fun z => nomatch z) h
  | @frz a ob xs ea =>
    cases (show u = Value.ref a from rx)
    obtain ⟨_, _, _, n, _, h1⟩ := (show ObjOk X.prog X.w H s.heap a (.frz ob (.lst xs)) from I.hok a _ ea)
    exact PySem.W.kia_one PySem.W.kitx_list I.kIn ⟨_, h1, rfl⟩ e (fun z => nomatch z) h
  | @tup a xs ea =>
    cases (show u = Value.ref a from rx)
    obtain ⟨_, _, _, p⟩ := (show ObjOk X.prog X.w H s.heap a (.tup xs) from I.hok a _ ea)
    obtain ⟨o, h1, h2, _⟩ := p
    exact PySem.W.kia_one PySem.W.kitx_tuple I.kIn ⟨o, h1, h2⟩ e (fun z => nomatch z) h
  | @dK a kvs ea =>
    cases (show u = Value.ref a from rx)
    obtain ⟨_, _, vs, _, p⟩ := (show ObjOk X.prog X.w H s.heap a (.dK kvs) from I.hok a _ ea)
    obtain ⟨o, es, ep, h1, h2, _⟩ := p
    exact PySem.W.kia_one PySem.W.kitx_dict I.kIn ⟨o, h1, h2.1⟩ e (fun z => nomatch z) h
  | @dT a kvs ea =>
    cases (show u = Value.ref a from rx)
    obtain ⟨_, _, xs, _, o, es, ep, h1, h2, _⟩ := (show ObjOk X.prog X.w H s.heap a (.dT kvs) from I.hok a _ ea)
    exact PySem.W.kia_one PySem.W.kitx_dict I.kIn ⟨o, h1, h2.1⟩ e (fun z => nomatch z) h
  | @ins a C dx fs ea cl ha hn htk hm =>
    cases (show u = Value.ref a from rx)
    obtain ⟨mA, O, _⟩ := ins_get I.hok ea
    obtain ⟨od, J, _⟩ := O.look
    exact PySem.W.kia_one (PySem.W.kitx_own (cl.get _) cl.hd ha hn htk hm) I.kIn J e (fun z => nomatch z) h
end
end L2

namespace L2
open PySem PySem.Spec PyProof.Rows

/-! ### room -/
structure Room (k : Nat) (A : Around) : Prop where
  hd : A.handled = none
  dp : A.depth + 3 * k + 5 < recursionLimit
  un : A.units + 16 * k + 200 < cLine
theorem Room.mono {j k : Nat} {A : Around} (r : Room k A) (h : j ≤ k) : Room j A := ⟨r.hd, by have := r.dp; omega, by have := r.un; omega⟩
theorem Room.deeper {k : Nat} {A : Around} (r : Room (k + 1) A) (env : Env) : Room k (A.deeper env) :=
  ⟨r.hd, by have := r.dp; show A.depth + 1 + 3 * k + 5 < _; omega, by have := r.un; show A.units + 3 + 16 * k + 200 < _; omega⟩
theorem make_depth {A : Around} {C : Addr} {us : List Value} {kw : List (Str × Value)} : (A.under (.builtin "type.__call__" ⟨.ref C :: us, kw⟩)).depth = A.depth + 1 := by
  first | rfl | simp [Around.under, Code.weight, Code.isCreation, Code.isGuard, Code.isCaller, Code.frames, Code.isFrame, guardIds]
theorem make_units {A : Around} {C : Addr} {us : List Value} {kw : List (Str × Value)} : (A.under (.builtin "type.__call__" ⟨.ref C :: us, kw⟩)).units = A.units + 1 := by
  first | rfl | simp [Around.under, Code.cUnits, Code.frames, Code.isFrame]
theorem Room.make {k : Nat} {A : Around} (r : Room (k + 1) A) (C : Addr) (us : List Value) (kw : List (Str × Value)) : Room k (A.under (.builtin "type.__call__" ⟨.ref C :: us, kw⟩)) :=
  ⟨r.hd, by have := r.dp; rw [make_depth]; omega, by have := r.un; rw [make_units]; omega⟩
theorem Room.depth {k : Nat} {A : Around} (r : Room k A) : A.depth < recursionLimit := by have := r.dp; omega
theorem Room.units {k : Nat} {A : Around} (r : Room k A) : A.units + 64 < cLine := by have := r.un; omega

/-! ### argument lists and displays -/
def tNil : TA := fun _ H Q => Q [] H
def tCons (ta : TE) (tr : TA) : TA := fun σ H Q => ta σ H fun x H1 => tr σ H1 fun xs H2 => Q (x :: xs) H2
section
variable {X : Cx} {e : Expr} {es : List Expr} {te : TE} {t : TA} {pos : Pos}
theorem pa_nil : PA X [] tNil := fun _ _ _ _ H Q I h => Calls.spliced_nil ⟨[], H, I, .nil, h⟩
theorem pa_cons (ha : PE X e te) (hr : PA X es t) (hs : starEach (e :: es) X.env = (false, eval e X.env) :: starEach es X.env := by rfl) : PA X (e :: es) (tCons te t) := by
  intro pos pins s σ H Q I h
  rw [hs]
  show wpAny _ _ (spliced ((false, eval e X.env) :: backTo pos (starEach es X.env))) _ _ s
  refine Calls.spliced_cons (thn (ha pins s σ H _ I h) fun u s1 ⟨x, H1, I1, r1, q1⟩ => ?_)
  exact thn (hr pos pins s1 σ H1 _ I1 q1) fun us s2 ⟨xs, H2, I2, r2, q2⟩ => ⟨x :: xs, H2, I2, .cons r1 r2, q2⟩

/-- a tuple, a list of written items -/
def tTup (t : TA) : TE := fun σ H Q => t σ H fun xs H1 => xs.length ≤ sizeLine ∧ ∀ p, H1 p = none → Q (.ref p) (upd H1 p (.tup xs))
def tLst (t : TA) : TE := fun σ H Q => t σ H fun xs H1 => xs.length ≤ sizeLine ∧ ∀ p, H1 p = none → Q (.ref p) (upd H1 p (.lst xs))
theorem pe_tup {x1} (h : PA X es t) : PE X (.Tuple es x1 pos) (tTup t) := by
  intro pins s σ H Q I hq
  refine wpAny_Tuple_spliced (thn (h pos pins s σ H _ I hq) fun us s1 ⟨xs, H1, I1, r, z, q⟩ => ⟨by rw [← r.length]; exact z, ?_⟩)
  have hf : H1 s1.heap.objs.size = none := I1.hok.fresh (Nat.le_refl _)
  refine ⟨.ref s1.heap.objs.size, upd H1 s1.heap.objs.size (.tup xs), I1.laid (t' := s1.toks) (fun b u e => Heap.get?_push_of_some _ e) (Nat.le_refl _) ?_, rfl, q _ hf⟩
  exact ⟨z, us, r, ⟨_, Heap.get?_push_size _ rfl, rfl, _, rfl⟩⟩
theorem pe_lst (h : PA X es t) : PE X (.List es pos) (tLst t) := by
  intro pins s σ H Q I hq
  refine wpAny_List_spliced (thn (h pos pins s σ H _ I hq) fun us s1 ⟨xs, H1, I1, r, z, q⟩ => ⟨by rw [← r.length]; exact z, ?_⟩)
  have hf : H1 s1.heap.objs.size = none := I1.hok.fresh (Nat.le_refl _)
  refine ⟨.ref s1.heap.objs.size, upd H1 s1.heap.objs.size (.lst xs), I1.laid (t' := s1.toks) (fun b u e => Heap.get?_push_of_some _ e) (Nat.le_refl _) ?_, rfl, q _ hf⟩
  exact ⟨z, us, 0, r, Heap.get?_push_size _ rfl⟩
end

/-! ### what a def promises -/
/-- a def's promise: the bound arguments in the parameters' order, the heap, the wanted end, the wanted exception -/
abbrev Sp := List V → Hp → VK → XK → Prop
/-- how an exception lies behind a call (file 08 gives it): the callers' frames, abstract heap and state ahead of the call, the wish, the exception, the state -/
abbrev CXT := List Env → Hp → Shared → XK → Value → Shared → Prop

/-- the state at a call -/
structure Env0 (P : Program) (w : World) (K : PySem.W.Frag) (mg : Str → Option Value) (base : Heap) (A : Around) (outer : List Env) (s : Shared) (H : Hp) : Prop where
  frames : A.frames = some outer
  mod : Mod K mg base
  bs : ∀ b o, base.get? b = some o → s.heap.get? b = some o ∧ H b = none
  bsz : base.objs.size ≤ s.heap.objs.size
  funs : s.heap.FunFrames base outer
  frf : ∀ b ∈ frs outer, H b = none
  hok : HOk P w H s.heap
  bare : AllBare s.gens
/-- a call's end -/
def CE (outer : List Env) (P : Program) (w : World) (H : Hp) (s : Shared) (Q : VK) (u : Value) (s' : Shared) : Prop :=
  ∃ v H', s'.os = s.os ∧ AllBare s'.gens ∧ Un (frs outer) [] H H' s.heap s'.heap ∧ HOk P w H' s'.heap ∧ RelV v u ∧ Q v H'
def CR (CX : CXT) (outer : List Env) (P : Program) (w : World) (H : Hp) (s : Shared) (Q : VK) (E : XK) (r : Result) (s' : Shared) : Prop :=
  match r with
  | .ok (.ret u) => CE outer P w H s Q u s'
  | .ok _ => False
  | .error e => CX outer H s E e s'
structure FnOk (P : Program) (w : World) (K : PySem.W.Frag) (mg : Str → Option Value) (base : Heap) (CX : CXT) (k : Nat) (f : Addr) (fd : FuncData) (ps : List Str) (sp : Sp) : Prop where
  len : ∀ vs H Q E, sp vs H Q E → vs.length = ps.length
  run : ∀ (A : Around) (outer : List Env) (s : Shared) (H : Hp) (args : Args) (us : List Value) (vs : List V) (Q : VK) (E : XK), Room k A → Env0 P w K mg base A outer s H → BindsTo s fd args (ps.zip us) → Vals vs us → sp vs H Q E →
    codeAny (model P w) A (.call (.ref f) args) (CR CX outer P w H s Q E) s

theorem Env0.make {P : Program} {w : World} {K : PySem.W.Frag} {mg : Str → Option Value} {base : Heap} {A : Around} {outer : List Env} {s : Shared} {H : Hp} (e : Env0 P w K mg base A outer s H) (C : Addr) (us : List Value) (kw : List (Str × Value)) :
    Env0 P w K mg base (A.under (.builtin "type.__call__" ⟨.ref C :: us, kw⟩)) outer s H := ⟨by first | exact e.frames | (simpa [Around.under, Code.envs, Code.isFrame, pushEnvs] using e.frames), e.mod, e.bs, e.bsz, e.funs, e.frf, e.hok, e.bare⟩

section
variable {X : Cx} {pins : List (Addr × Obj)} {σ : St} {H : Hp} {s s' : Shared}
/-- from a body: what a callee wants -/
theorem Inv.env0 (I : Inv X pins σ H s) : Env0 X.prog X.w X.K X.mg X.base X.A X.stack s H :=
  ⟨I.ok.frames, I.ok.mod, I.bs, Nat.le_trans I.ok.bsz I.sz, I.stack, I.stkFree, I.hok, I.bare⟩
/-- behind a call -/
theorem Inv.after {Q : VK} {u : Value} (I : Inv X pins σ H s) (h : CE X.stack X.prog X.w H s Q u s') : EP X pins σ Q u s' := by
  obtain ⟨v, H', os, bare, un, hok, r, q⟩ := h
  obtain ⟨hh, g, d, t, os'⟩ := s'
  obtain rfl : os' = s.os := os
  exact ⟨v, H', I.call (h' := hh) (g' := g) (d' := d) (t' := t) (ch := []) un hok bare (fun b z => absurd z (by simp)), r, q⟩
end

/-! ### calls -/
/-- f(..): the written arguments, then the defaults dvs; E: what is wanted of an exception -/
def tCall (sp : Sp) (dvs : List V) (E : XK) (t : TA) : TE := fun σ H Q => t σ H fun vs H1 => sp (vs ++ dvs) H1 Q E
/-- o.m(..) of an instance of the class at C -/
def tMeth (C : Addr) (m : Str) (sp : Sp) (dvs : List V) (E : XK) (ta : TE) (t : TA) : TE := fun σ H Q => ta σ H fun x H1 => ∃ a dx fs, x = .ref a ∧ H1 a = some (.ins C dx fs) ∧ fs.lookup m = none ∧
  t σ H1 fun vs H2 => sp (x :: (vs ++ dvs)) H2 Q E
/-- C(..): a new instance and its dict, then __init__ -/
def tMake (C : Addr) (sp : Sp) (dvs : List V) (E : XK) (t : TA) : TE := fun σ H Q => t σ H fun vs H1 => ∀ x dx, H1 x = none → H1 dx = none → dx ≠ x →
  sp (.ref x :: (vs ++ dvs)) (upd (upd H1 dx (.own x)) x (.ins C dx [])) (fun v H2 => v = .non ∧ Q (.ref x) H2) E

/-- how the parameters are bound: us the positional arguments, kw the keywords' values by name, ds the defaults that fill up -/
def Binds (K : PySem.W.Frag) (fd : FuncData) (ps : List Str) (ds : List Value) : Prop :=
  ∀ (s : Shared) (us : List Value), K.In s.heap → (us ++ ds).length = ps.length → BindsTo s fd ⟨us, []⟩ (ps.zip (us ++ ds))
/-- every parameter is given -/
theorem Binds.all {K : PySem.W.Frag} {fd : FuncData} {ps : List Str} (h : ∀ us : List Value, us.length = ps.length → bindArgs fd ⟨us, []⟩ = pure (ps.zip us)) : Binds K fd ps [] := fun s us _ hl => by
  rw [List.append_nil] at hl ⊢
  exact .of_eq (h us hl)

/-- an exception of a callee reaches what this body wants of exceptions -/
def Passes (CX : CXT) (X : Cx) (E : XK) : Prop := ∀ (pins : List (Addr × Obj)) (σ : St) (H : Hp) (s : Shared) (e : Value) (s' : Shared), Inv X pins σ H s → CX X.stack H s E e s' → X.xe e s'

section
variable {X : Cx} {CX : CXT} {k : Nat} {f C : Addr} {fd : FuncData} {ps : List Str} {sp : Sp} {dvs : List V} {ds : List Value} {E : XK} {x m : Str} {p pos apos : Pos} {e o : Expr} {es : List Expr} {ta : TE} {t : TA}

/-- the callee runs -/
theorem run_fn {pins : List (Addr × Obj)} {σ : St} {H : Hp} {s : Shared} {Q : VK} {us : List Value} {vs : List V} (F : FnOk X.prog X.w X.K X.mg X.base CX k f fd ps sp) (hr : Room k X.A) (hb : Binds X.K fd ps ds) (hd : Vals dvs ds) (hx : Passes CX X E)
    (I : Inv X pins σ H s) (r : Vals vs us) (h : sp (vs ++ dvs) H Q E) : wpAny (model X.prog X.w) X.A (call (.ref f) us) (EP X pins σ Q) X.xe s := by
  have r2 : Vals (vs ++ dvs) (us ++ ds) := r.append hd
  have hl : (us ++ ds).length = ps.length := by rw [← r2.length]; exact F.len _ _ _ _ h
  refine wpAny_call (codeAny_mono (F.run X.A X.stack s H ⟨us, []⟩ (us ++ ds) (vs ++ dvs) Q E hr I.env0 (hb s us I.kIn hl) r2 h) fun r s' hq => ?_)
  cases r with
  | error e => exact hx pins σ H s e s' I hq
  | ok fl =>
    cases fl with
    | ret u => exact I.after hq
    | next => exact False.elim hq
    | brk => exact False.elim hq
    | cont => exact False.elim hq

theorem pe_call (F : FnOk X.prog X.w X.K X.mg X.base CX k f fd ps sp) (hr : Room k X.A) (hg : Gl X x) (hm : X.mg x = some (.ref f)) (hk : PySem.W.keepIn X.K (.ref f) = true) (hb : Binds X.K fd ps ds) (hd : Vals dvs ds) (hx : Passes CX X E)
    (ha : PA X (e :: es) t) (hdb : (x == ("__debug__" : Str)) = false := by decide) (he : starEach (e :: es) X.env = (false, eval e X.env) :: starEach es X.env := by rfl) (hpl : (backTo pos (starEach es X.env)).any (·.1) = false := by rfl) :
    PE X (.Call (.Name x p) (e :: es) [] pos) (tCall sp dvs E t) := by
  intro pins s σ H Q I h
  refine wpAny_Call_Name_kw (ld_glob I hg hm ?_ hdb)
  refine PySem.W.callWith_K (h₀ := X.base) I.ok.mod.kin hk (thn (ha pos pins s σ H _ I h) fun us s1 ⟨vs, H1, I1, r, q⟩ => ⟨I1.kIn, ?_⟩) he hpl
  exact run_fn F hr hb hd hx I1 r q

/-- o.m(e, ..) -/
theorem pe_meth {pl : Sem Bool} (he : PE X o ta) (c : Cls X.K C) (hm : Meth X.K C m f) (F : FnOk X.prog X.w X.K X.mg X.base CX k f fd ps sp) (hr : Room k X.A) (hb : Binds X.K fd ps ds) (hd : Vals dvs ds) (hx : Passes CX X E) (ha : PA X (e :: es) t)
    (hst : starEach (e :: es) X.env = (false, eval e X.env) :: starEach es X.env := by rfl) (hpl : (backTo pos (starEach es X.env)).any (·.1) = false := by rfl)
    (ht : eval (.Call (.Attribute o m apos) (e :: es) [] pos) X.env = (do
      let ov ← eval o X.env
      standAt apos.atName
      let (f, first) ← holding [ov] (getMethod ov m pl)
      callWith pos f first (backTo pos (starEach (e :: es) X.env)) (backToKw pos (keywordEach [] X.env))) := by rfl) :
    PE X (.Call (.Attribute o m apos) (e :: es) [] pos) (tMeth C m sp dvs E ta t) := by
  intro pins s σ H Q I h
  refine PySem.W.methodCall_KW (pl := pl) (thn (he pins s σ H _ I h) fun u s1 ⟨x, H1, I1, rx, a, dx, fs, ex, ea, l, q⟩ => ?_) ht
  subst ex
  obtain rfl : u = Value.ref a := rx
  refine getmeth_ok I1 ea c hm l ?_
  refine PySem.W.callWith_K (first := [.ref a]) (h₀ := X.base) I.ok.mod.kin hm.kp (thn (ha pos pins s1 σ H1 _ I1 q) fun us s2 ⟨vs, H2, I2, r, q2⟩ => ⟨I2.kIn, ?_⟩) hst hpl
  exact run_fn (us := .ref a :: us) (vs := .ref a :: vs) F hr hb hd hx I2 (.cons rfl r) q2
/-- o.m() -/
theorem pe_meth0 {pl : Sem Bool} (he : PE X o ta) (c : Cls X.K C) (hm : Meth X.K C m f) (F : FnOk X.prog X.w X.K X.mg X.base CX k f fd ps sp) (hr : Room k X.A) (hb : Binds X.K fd ps ds) (hd : Vals dvs ds) (hx : Passes CX X E)
    (ht : eval (.Call (.Attribute o m apos) [] [] pos) X.env = (do
      let ov ← eval o X.env
      standAt apos.atName
      let (f, first) ← holding [ov] (getMethod ov m pl)
      callWith pos f first (backTo pos (starEach [] X.env)) (backToKw pos (keywordEach [] X.env))) := by rfl) :
    PE X (.Call (.Attribute o m apos) [] [] pos) (tMeth C m sp dvs E ta tNil) := by
  intro pins s σ H Q I h
  refine PySem.W.methodCall_KW (pl := pl) (thn (he pins s σ H _ I h) fun u s1 ⟨x, H1, I1, rx, a, dx, fs, ex, ea, l, q⟩ => ?_) ht
  subst ex
  obtain rfl : u = Value.ref a := rx
  refine getmeth_ok I1 ea c hm l ?_
  exact PySem.W.callWith_K0 (first := [.ref a]) I1.kIn hm.kp (run_fn (us := [.ref a]) (vs := [.ref a]) F hr hb hd hx I1 (.cons rfl .nil) q)

/-- what a class must have to be made -/
structure Mk (K : PySem.W.Frag) (C f : Addr) : Prop where
  makes : PySem.W.makesIn K C = true
  init : PySem.W.findIn K (.ref C) "__init__" = some (some (.ref f))
  fn : PySem.W.isFn K (.ref f) = true
  kp : PySem.W.keepIn K (.ref C) = true

theorem run_make {pins : List (Addr × Obj)} {σ : St} {H : Hp} {s : Shared} {Q : VK} {us : List Value} {vs : List V} (M : Mk X.K C f) (F : FnOk X.prog X.w X.K X.mg X.base CX k f fd ps sp) (hr : Room (k + 1) X.A) (hb : Binds X.K fd ps ds) (hd : Vals dvs ds)
    (hx : Passes CX X E) (I : Inv X pins σ H s) (r : Vals vs us)
    (h : ∀ x dx, H x = none → H dx = none → dx ≠ x → sp (.ref x :: (vs ++ dvs)) (upd (upd H dx (.own x)) x (.ins C dx [])) (fun v H2 => v = .non ∧ Q (.ref x) H2) E) :
    wpAny (model X.prog X.w) X.A (call (.ref C) us) (EP X pins σ Q) X.xe s := by
  have hq := h (s.heap.objs.size + 1) s.heap.objs.size (I.hok.fresh (Nat.le_succ _)) (I.hok.fresh (Nat.le_refl _)) (Nat.ne_of_lt (Nat.lt_succ_self _))
  have I2 := Inv.made (C := C) I
  have r2 : Vals (V.ref (s.heap.objs.size + 1) :: (vs ++ dvs)) (Value.ref (s.heap.objs.size + 1) :: (us ++ ds)) := .cons rfl (r.append hd)
  have hl : (Value.ref (s.heap.objs.size + 1) :: us ++ ds).length = ps.length := by
    have e := r2.length
    rw [F.len _ _ _ _ hq] at e
    exact e.symm
  refine wpAny_call (make_map (f := f) I.kIn M.makes M.init (beq_iff_eq.mp M.fn) (codeAny_mono (F.run _ X.stack _ _ ⟨Value.ref (s.heap.objs.size + 1) :: us, []⟩ (Value.ref (s.heap.objs.size + 1) :: (us ++ ds)) _ _ E (hr.make C us [])
    (I2.env0.make C us []) (hb _ (Value.ref (s.heap.objs.size + 1) :: us) I2.kIn hl) r2 hq) fun r s' hq' => ?_))
  cases r with
  | error e => exact hx pins σ _ _ e s' I2 hq'
  | ok fl =>
    cases fl with
    | ret u =>
      obtain ⟨v, H', I3, rv, ev, q3⟩ := I2.after hq'
      subst ev
      exact ⟨rv, ⟨V.ref (s.heap.objs.size + 1), H', I3, rfl, q3⟩⟩
    | next => exact False.elim hq'
    | brk => exact False.elim hq'
    | cont => exact False.elim hq'
theorem pe_make (M : Mk X.K C f) (F : FnOk X.prog X.w X.K X.mg X.base CX k f fd ps sp) (hr : Room (k + 1) X.A) (hg : Gl X x) (hm : X.mg x = some (.ref C)) (hb : Binds X.K fd ps ds) (hd : Vals dvs ds) (hx : Passes CX X E)
    (ha : PA X (e :: es) t) (hdb : (x == ("__debug__" : Str)) = false := by decide) (he : starEach (e :: es) X.env = (false, eval e X.env) :: starEach es X.env := by rfl) (hpl : (backTo pos (starEach es X.env)).any (·.1) = false := by rfl) :
    PE X (.Call (.Name x p) (e :: es) [] pos) (tMake C sp dvs E t) := by
  intro pins s σ H Q I h
  refine wpAny_Call_Name_kw (ld_glob I hg hm ?_ hdb)
  refine PySem.W.callWith_K (h₀ := X.base) I.ok.mod.kin M.kp (thn (ha pos pins s σ H _ I h) fun us s1 ⟨vs, H1, I1, r, q⟩ => ⟨I1.kIn, ?_⟩) he hpl
  exact run_make M F hr hb hd hx I1 r q
end

/-! ### keywords -/
/-- the values of the keywords, from the left -/
def PK (X : Cx) (kws : List Keyword) (t : TA) : Prop :=
  ∀ (pos : Pos) (pins : List (Addr × Obj)) (s : Shared) (σ : St) (H : Hp) (Q : List V → Hp → Prop), Inv X pins σ H s → t σ H Q → wpAny (model X.prog X.w) X.A (evalAll ((backToKw pos (keywordEach kws X.env)).map (·.2))) (AP X pins σ Q) X.xe s
section
variable {X : Cx} {CX : CXT} {k : Nat} {f C : Addr} {fd : FuncData} {ps ks : List Str} {sp : Sp} {E : XK} {x m : Str} {p pos apos kpos : Pos} {e o : Expr} {es : List Expr} {kws : List Keyword} {te ta : TE} {t tk : TA} {nm : Option Str}

/-- how a call with keywords binds: g puts the positional values us and the keywords' values ws (names ks) in the parameters' order, defaults among them -/
structure KBinds (K : PySem.W.Frag) (fd : FuncData) (ps ks : List Str) (g : List Value → List Value → List Value) (gV : List V → List V → List V) : Prop where
  to : ∀ (s : Shared) (us ws : List Value), K.In s.heap → (g us ws).length = ps.length → BindsTo s fd ⟨us, ks.zip ws⟩ (ps.zip (g us ws))
  rel : ∀ {vs : List V} {us : List Value} {zs : List V} {ws : List Value}, Vals vs us → Vals zs ws → Vals (gV vs zs) (g us ws)
def tCallK (sp : Sp) (gV : List V → List V → List V) (E : XK) (t tk : TA) : TE := fun σ H Q => t σ H fun vs H1 => tk σ H1 fun zs H2 => sp (gV vs zs) H2 Q E
variable {g : List Value → List Value → List Value} {gV : List V → List V → List V}
end

/-! ### a def's body keeps its promise -/
/-- names: the parameters first -/
structure FnScope (N P : List Str) (sc : Scope) : Prop where
  kind : sc.kind = .function
  co : sc.isCoroutine = false
  gen : sc.isGenerator = false
  nd : N.Nodup
  pre : N.take P.length = P
  par : ∀ x ∈ P, sc.names.lookup x = some .local ∨ sc.names.lookup x = some .cell
  nofree : ∀ y ∈ sc.names, y.2 ≠ .free

theorem bindL_out {kindOf : Str → Option NameKind} {x : Str} : ∀ {binds : List (Str × Value)} {m : Str → Option Value}, (∀ v, (x, v) ∉ binds) → bindL kindOf binds m x = m x
  | [], _, _ => rfl
  | (n, v) :: r, m, h => by
    unfold bindL
    rw [bindL_out fun w hw => h w (List.mem_cons_of_mem _ hw)]
    split
    · have : x ≠ n := by rintro rfl; exact h v List.mem_cons_self
      simp [this]
    · rfl
theorem bindC_out {kindOf : Str → Option NameKind} {x : Str} : ∀ {binds : List (Str × Value)} {m : Str → Option Value}, (∀ v, (x, v) ∉ binds) → bindC kindOf binds m x = m x
  | [], _, _ => rfl
  | (n, v) :: r, m, h => by
    unfold bindC
    rw [bindC_out fun w hw => h w (List.mem_cons_of_mem _ hw)]
    split
    · rfl
    · have : x ≠ n := by rintro rfl; exact h v List.mem_cons_self
      simp [this]
theorem bindL_get {kindOf : Str → Option NameKind} {x : Str} {v : Value} : ∀ {P : List Str} {vs : List Value} {i : Nat} {m : Str → Option Value}, P.Nodup → P[i]? = some x → vs[i]? = some v → kindOf x = some .local →
    bindL kindOf (P.zip vs) m x = some v
  | [], _, _, _, _, h, _, _ => by simp at h
  | _ :: _, [], _, _, _, _, h, _ => by simp at h
  | p :: P, w :: vs, 0, m, nd, h1, h2, hk => by
    simp at h1 h2; subst h1; subst h2
    show bindL kindOf ((p, w) :: P.zip vs) m p = _
    unfold bindL
    rw [bindL_out fun v hv => (List.nodup_cons.mp nd).1 (List.of_mem_zip hv).1, if_pos hk]
    simp
  | p :: P, w :: vs, i + 1, m, nd, h1, h2, hk => by
    show bindL kindOf ((p, w) :: P.zip vs) m x = _
    unfold bindL
    exact bindL_get (i := i) (List.nodup_cons.mp nd).2 (by simpa using h1) (by simpa using h2) hk
theorem bindC_get {kindOf : Str → Option NameKind} {x : Str} {v : Value} : ∀ {P : List Str} {vs : List Value} {i : Nat} {m : Str → Option Value}, P.Nodup → P[i]? = some x → vs[i]? = some v → kindOf x ≠ some .local →
    bindC kindOf (P.zip vs) m x = some v
  | [], _, _, _, _, h, _, _ => by simp at h
  | _ :: _, [], _, _, _, _, h, _ => by simp at h
  | p :: P, w :: vs, 0, m, nd, h1, h2, hk => by
    simp at h1 h2; subst h1; subst h2
    show bindC kindOf ((p, w) :: P.zip vs) m p = _
    unfold bindC
    rw [bindC_out fun v hv => (List.nodup_cons.mp nd).1 (List.of_mem_zip hv).1, if_neg hk]
    simp
  | p :: P, w :: vs, i + 1, m, nd, h1, h2, hk => by
    show bindC kindOf ((p, w) :: P.zip vs) m x = _
    unfold bindC
    exact bindC_get (i := i) (List.nodup_cons.mp nd).2 (by simpa using h1) (by simpa using h2) hk

/-- the names' values at the entry -/
def start (N : List Str) (vs : List V) : St := vs.map some ++ List.replicate (N.length - vs.length) none

/-- the context of a def's body, at its entry; an exception leaves the frame, then lies as CX says -/
def cxOf (CX : CXT) (P : Program) (w : World) (K : PySem.W.Frag) (mg : Str → Option Value) (base : Heap) (N : List Str) (qual : Str) (scope : Scope) (f : Addr) (cd : Value) (A : Around) (outer : List Env) (s : Shared) (H : Hp) (E : XK) : Cx where
  prog := P
  w := w
  K := K
  mg := mg
  base := base
  A := A.deeper (envOfC qual scope s.heap.objs.size f cd)
  N := N
  s₀ := s
  H₀ := H
  env := envOfC qual scope s.heap.objs.size f cd
  outer := outer
  stack := envOfC qual scope s.heap.objs.size f cd :: outer
  ex := []
  calm := true
  fn := fun _ => true
  pn := []
  xe := fun e s' => wpAny (model P w) (A.deeper (envOfC qual scope s.heap.objs.size f cd)) (leaving (envOfC qual scope s.heap.objs.size f cd) e) (fun _ s'' => CX outer H s E e s'') (fun e' s'' => CX outer H s E e' s'') s'

theorem cell_has {sc : Scope} {n : Nat} {x : Str} (h : sc.names.lookup x = some .cell) : ∃ c, (cellsFrom n sc.names []).lookup x = some c := by
  have q := PySem.W.cellsFrom_some sc.names n [] (.inl h)
  exact Option.isSome_iff_exists.mp q

theorem inv_start {CX : CXT} {P : Program} {w : World} {K : PySem.W.Frag} {mg : Str → Option Value} {base : Heap} {N ps : List Str} {qual : Str} {scope : Scope} {f : Addr} {cd : Value} {A : Around} {outer : List Env} {s s1 : Shared} {H : Hp} {E : XK} {us : List Value} {vs : List V}
    (S : FnScope N ps scope) (hd : A.handled = none) (e0 : Env0 P w K mg base A outer s H) (hl : vs.length = ps.length) (r : Vals vs us)
    (x : InCallC s s.heap.objs.size (bindL (envOfC qual scope s.heap.objs.size f cd).kindOf (ps.zip us) fun _ => none) (cellsFrom (s.heap.objs.size + 1) scope.names []) (bindC (envOfC qual scope s.heap.objs.size f cd).kindOf (ps.zip us) fun _ => none) s1) :
    Inv (cxOf CX P w K mg base N qual scope f cd A outer s H E) [] (start N vs) H s1 := by
  have hpl : ps.length ≤ N.length := by have := congrArg List.length S.pre; rw [List.length_take] at this; omega
  obtain ⟨h1, tk, rfl, hk⟩ := x.done
  have noA : ∀ b : Addr, b ∉ (cxOf CX P w K mg base N qual scope f cd A outer s H E).ex := fun b z => absurd (show b ∈ ([] : List Addr) from z) (by simp)
  refine ⟨⟨e0.mod, S.kind, rfl, rfl, Nat.le_refl _, fun y z c h1 h2 => ?_, fun y hy => ?_, fun y c _ h => ?_, fun _ => hd, Around.frames_deeper e0.frames, .inr ⟨rfl, rfl⟩, fun b z => absurd z (noA b), e0.bs, e0.bsz, fun b _ _ => noA b, fun b z => absurd z (noA b), e0.funs, e0.frf⟩,
    rfl, e0.bare, Un.kept hk, ⟨_, x.toInCall.ns, fun i y v h1 h2 h3 => ?_⟩, fun y c h => ⟨_, x.cell y c h⟩, e0.hok.fresh (Nat.le_refl _), fun y c h => ?_, fun p hp => absurd (show p ∈ ([] : List (Addr × Obj)) from hp) (by simp), e0.hok.kept hk, ?_⟩
  · exact name_of_addr x.apart (PySem.mem_of_lookup h1) (PySem.mem_of_lookup h2)
  · have hy : scope.names.lookup y = some .cell ∨ scope.names.lookup y = some .free := hy
    rcases hy with hy | hy
    · exact cell_has hy
    · exact absurd rfl (S.nofree _ (PySem.mem_of_lookup hy))
  · exact Nat.le_of_lt (x.above y c (PySem.mem_of_lookup h))
  · have hi : i < vs.length := by
      unfold start at h2
      by_cases hi : i < vs.length
      · exact hi
      · rw [List.getElem?_append_right (by simpa using hi)] at h2
        rw [List.getElem?_replicate] at h2
        split at h2 <;> cases h2
    have ha : vs[i]? = some v := by
      unfold start at h2
      rw [List.getElem?_append_left (by simpa using hi), List.getElem?_map] at h2
      cases e : vs[i]? with
      | none => rw [e] at h2; cases h2
      | some a => rw [e] at h2; cases h2; rfl
    obtain ⟨u, hu, rv⟩ := r.get ha
    have hp : ps[i]? = some y := by
      rw [← S.pre, List.getElem?_take_of_lt (by omega)]; exact h1
    have ndP : ps.Nodup := by rw [← S.pre]; exact S.nd.sublist (List.take_sublist _ _)
    refine ⟨u, rv, ?_⟩
    rcases S.par y (List.mem_of_getElem? hp) with k | k
    · exact .inl ⟨k, bindL_get ndP hp hu k⟩
    · obtain ⟨c, e⟩ := cell_has (n := s.heap.objs.size + 1) k
      refine .inr ⟨.inl k, c, e, ?_⟩
      have q := x.cell y c e
      rw [bindC_get ndP hp hu (by show scope.names.lookup y ≠ _; rw [k]; decide)] at q
      exact q
  · exact e0.hok.fresh (Nat.le_of_lt (x.above y c (PySem.mem_of_lookup h)))
  · unfold start
    show _ = N.length
    rw [List.length_append, List.length_map, List.length_replicate]
    omega

/-- THE RULE: a def (or a method) of the text, by its body. The body's reading t is chosen for each entry; it is run at the parameters' values -/
theorem fn_of {CX : CXT} {P : Program} {w : World} {K : PySem.W.Frag} {mg : Str → Option Value} {base : Heap} {k : Nat} {f : Addr} {name qual : Str} {params : Arguments} {body : List Stmt} {scope : Scope} {dV kV doc pm cdv ct oc : Value} {an od : Option Addr}
    {osl : Array (Option Value)} {N ps : List Str} {sp : Sp} (lk : K.lookup f = some ⟨oc, od, .func (PySem.W.fnOf name qual params body scope dV kV doc pm an cdv ct), osl⟩) (hcd : PySem.W.codeIn K cdv qual = true) (S : FnScope N ps scope)
    (len : ∀ vs H Q E, sp vs H Q E → vs.length = ps.length)
    (hbody : ∀ (A : Around) (outer : List Env) (s : Shared) (H : Hp) (vs : List V) (Q : VK) (E : XK), Room k (A.deeper (envOfC qual scope s.heap.objs.size f cdv)) → sp vs H Q E →
      ∃ t, PSs (cxOf CX P w K mg base N qual scope f cdv A outer s H E) body t ∧ t { nx := fun _ H' => Q .non H', rt := Q } (start N vs) H) :
    FnOk P w K mg base CX (k + 1) f (PySem.W.fnOf name qual params body scope dV kV doc pm an cdv ct) ps sp := by
  refine ⟨len, fun A outer s H args us vs Q E hr e0 hb r hsp => ?_⟩
  have hl := len _ _ _ _ hsp
  have KX : K.In s.heap := e0.mod.kin.keeps fun b o e => (e0.bs b o e).1
  have lim : s.heap.NoLimit := e0.mod.nolimit.keeps fun b o e => (e0.bs b o e).1
  have hkind : ∀ y ∈ ps.zip us, scope.names.lookup y.1 = some .local ∨ (scope.names.lookup y.1 = some .cell ∧ ((cellsFrom (s.heap.objs.size + 1) scope.names []).lookup y.1).isSome = true) := fun ⟨n, v⟩ hy => by
    rcases S.par n (List.of_mem_zip hy).1 with q | q
    · exact .inl q
    · exact .inr ⟨q, PySem.W.cellsFrom_some _ _ _ (.inl q)⟩
  refine codeAny_call_function hr.depth (KX _ _ lk) rfl S.co S.gen rfl (PySem.W.codeRec_of KX hcd) (hb _ _ _ _ ?_)
  refine wpAny_newFunctionEnv_cells S.kind hkind fun env he s1 x => ?_
  subst he
  refine ⟨lim.keeps x.toInCall.keep, codeAny_func ?_⟩
  obtain ⟨t, ht, hq⟩ := hbody A outer s H vs Q E (hr.deeper _) hsp
  have I : Inv (cxOf CX P w K mg base N qual scope f cdv A outer s H E) [] (start N vs) H s1 := inv_start S hr.hd e0 hl r x
  refine wpAny_mono (ht [] s1 (start N vs) H _ I hq) (fun fl s' hs => ?_) fun e s' hs => hs
  have fin : ∀ {σ' : St} {H' : Hp} {v : V} {u : Value}, Inv (cxOf CX P w K mg base N qual scope f cdv A outer s H E) [] σ' H' s' → RelV v u → Q v H' → CE outer P w H s Q u s' :=
    fun {σ' H' v u} J rv q => ⟨v, H', J.os, J.bare, J.base, J.hok, rv, q⟩
  cases fl with
  | ret u =>
    obtain ⟨v, σ', H', J, rv, q⟩ := hs
    exact fin J rv q
  | next =>
    obtain ⟨σ', H', J, q⟩ := hs
    exact fin (v := V.non) (u := Value.none) J rfl q
  | brk =>
    obtain ⟨_, _, _, q⟩ := hs
    exact False.elim q
  | cont =>
    obtain ⟨_, _, _, q⟩ := hs
    exact False.elim q
end L2

namespace L2
open PySem PySem.Spec PyProof.Rows
section
variable {X : Cx} {x : Str} {p pos : Pos} {e : Expr} {es : List Expr} {t : TA} {id T : String} {r : List V → Hp → VK → Prop}

def tCB (r : List V → Hp → VK → Prop) (t : TA) : TE := fun σ H Q => t σ H fun vs H1 => r vs H1 Q
/-- f(e, ..), f a built-in function -/
theorem pe_callB (hc : CallR X (.builtin id) r) (hg : Gl X x) (hm : X.mg x = none) (hv : bootBuiltins x = some (.builtin id)) (ha : PA X (e :: es) t) (hn : x ≠ "__name__" := by decide) (hdb : (x == ("__debug__" : Str)) = false := by decide)
    (he : starEach (e :: es) X.env = (false, eval e X.env) :: starEach es X.env := by rfl) (hpl : (backTo pos (starEach es X.env)).any (·.1) = false := by rfl) : PE X (.Call (.Name x p) (e :: es) [] pos) (tCB r t) := by
  intro pins s σ H Q I h
  refine wpAny_Call_Name_kw (ld_blt I hg hm hv ?_ hn hdb)
  exact PyProof.Rows.callWith_builtin1 (thn (ha pos pins s σ H _ I h) fun us s1 ⟨vs, H1, I1, r1, q1⟩ => hc pins s1 σ H1 vs us Q I1 r1 q1) he hpl
/-- T(e, ..), T a built-in type -/
theorem pe_callTy (hc : CallR X (.type T) r) (hg : Gl X x) (hm : X.mg x = none) (hv : bootBuiltins x = some (.type T)) (ha : PA X (e :: es) t) (hn : x ≠ "__name__" := by decide) (hdb : (x == ("__debug__" : Str)) = false := by decide)
    (he : starEach (e :: es) X.env = (false, eval e X.env) :: starEach es X.env := by rfl) (hpl : (backTo pos (starEach es X.env)).any (·.1) = false := by rfl) : PE X (.Call (.Name x p) (e :: es) [] pos) (tCB r t) := by
  intro pins s σ H Q I h
  refine wpAny_Call_Name_kw (ld_blt I hg hm hv ?_ hn hdb)
  exact PyProof.Rows.callWith_type1 (thn (ha pos pins s σ H _ I h) fun us s1 ⟨vs, H1, I1, r1, q1⟩ => hc pins s1 σ H1 vs us Q I1 r1 q1) he hpl
end
end L2

namespace HT
open PySem PyProof.Rows

/-- t < u of tuples of ints -/
def lexLt : List Int → List Int → Bool
  | [], [] => false
  | [], _ :: _ => true
  | _ :: _, [] => false
  | x :: xs, y :: ys => if x = y then lexLt xs ys else decide (x < y)


section
open PySem.SeqAt
open PySem.AutoSeq1 (wpAny_loadPart')
open PySem.MeetsSeq PySem.MeetsSeq2 PySem.MeetsSeq3

end

section
variable {prog : Program} {w : World} {A : Around} {E : Value → Shared → Prop} {s : Shared}


/-- t + u, t not empty -/
theorem cat_tup {t b : Addr} {vs ws : List Value} {Q : Value → Shared → Prop} (ht : IsTup s.heap t vs.toArray) (hb : IsTup s.heap b ws.toArray) (hv : vs ≠ [])
    (h1 : ws = [] → Q (.ref t) s) (h2 : ws ≠ [] → Q (.ref s.heap.objs.size) { s with heap := s.heap.push { cls := .type "tuple", data := .seq (vs ++ ws).toArray } })
    (hsz : vs.length + ws.length ≤ sizeLine) : wpAny (model prog w) A (binaryOp .Add (.ref t) (.ref b)) Q E s := by
  obtain ⟨⟨cls, dd, data, sl⟩, ho, hc, n, hd⟩ := id ht
  obtain ⟨⟨cls2, dd2, data2, sl2⟩, ho2, hc2, n2, hd2⟩ := id hb
  simp only at hc hd hc2 hd2
  subst hc hd hc2 hd2
  have e : vs.toArray ++ ws.toArray = (vs ++ ws).toArray := by simp
  by_cases hw : ws = []
  · exact concat_meets ⟨_, ho, rfl⟩ ⟨_, ho2, rfl⟩ noFill_tuple_add seq_tuple_add PySem.F.slot_tuple_add PySem.F.entry_tuple_add (PySem.F.args_tuple_add_2 _ _)
      (tuple_addW1 t b vs.toArray ws.toArray n n2 dd dd2 sl sl2 (by simpa using hv) (by simp [hw])) ⟨ho, ho2, h1 hw⟩
  · refine concat_meets ⟨_, ho, rfl⟩ ⟨_, ho2, rfl⟩ noFill_tuple_add seq_tuple_add PySem.F.slot_tuple_add PySem.F.entry_tuple_add (PySem.F.args_tuple_add_2 _ _)
      (tuple_addW2 t b vs.toArray ws.toArray n n2 dd dd2 sl sl2 (by simpa using hv) (by simpa using hw) (by rw [List.size_toArray, List.size_toArray]; exact hsz)) ⟨ho, ho2, ?_⟩
    rw [e]
    exact h2 hw

/-! ### t[a:b], not the whole -/
/-- a slice's bound as a place among n (d where it is left out) -/
def sIx (n d : Nat) : Option Int → Nat
  | none => d
  | some v => if v < 0 then (v + (n : Int)).toNat else min v.toNat n
theorem sIx_none (n d : Nat) : sIx n d none = d := rfl
theorem sIx_nat (n d k : Nat) : sIx n d (some (k : Int)) = min k n := by
  show (if (k : Int) < 0 then ((k : Int) + (n : Int)).toNat else min (k : Int).toNat n) = min k n
  rw [if_neg (by omega), Int.toNat_natCast]
theorem sIx_le (n d : Nat) (hd : d ≤ n) (o : Option Int) : sIx n d o ≤ n := by
  cases o with
  | none => exact hd
  | some v =>
    show (if v < 0 then (v + (n : Int)).toNat else min v.toNat n) ≤ n
    by_cases hv : v < 0
    · rw [if_pos hv]; omega
    · rw [if_neg hv]; exact Nat.min_le_right _ _
theorem clip_eq (v : Int) (n d : Nat) : (if v < 0 then max (v + (n : Int)) 0 else min v (n : Int)) = ((sIx n d (some v) : Nat) : Int) := by
  show (if v < 0 then max (v + (n : Int)) 0 else min v (n : Int)) = (((if v < 0 then (v + (n : Int)).toNat else min v.toNat n) : Nat) : Int)
  by_cases hv : v < 0
  · simp only [if_pos hv]; omega
  · simp only [if_neg hv]; omega
theorem adjust_gen (lo hi : Option Int) (n : Nat) : Builtin.Slice.sliceAdjust lo hi 1 (n : Int) = (((sIx n 0 lo : Nat) : Int), ((sIx n n hi : Nat) : Int)) := by
  have h1 : ¬ ((1 : Int) < 0) := by omega
  unfold Builtin.Slice.sliceAdjust
  simp only [h1, if_false]
  refine Prod.ext ?_ ?_
  · cases lo with
    | none => rfl
    | some v => exact clip_eq v n 0
  · cases hi with
    | none => rfl
    | some v => exact clip_eq v n n
theorem places_gen (i j : Nat) : Builtin.Slice.slicePlaces (i : Int) (j : Int) 1 = j - i := by
  unfold Builtin.Slice.slicePlaces
  have h1 : (1 : Int) > 0 := by omega
  simp only [h1, if_true, Int.ediv_one]
  split <;> omega
theorem slicePart_ {v : Value} {o : Option Int} {Q : Option Int → Shared → Prop} (p : IsPart v o) (h : Q o s) : wpAny (model prog w) A (Builtin.Slice.slicePartIndex v) Q E s := by
  cases p with
  | none => exact slicePart_none h
  | int i t => exact slicePart_int h
theorem sliceApplied_gen {sl : Addr} {vl vu : Value} {lo hi : Option Int} {n : Nat} {Q : Int × Int × Nat → Shared → Prop} (hs : s.heap.IsSliceOf sl vl vu .none) (pl : IsPart vl lo) (pu : IsPart vu hi)
    (h : Q (((sIx n 0 lo : Nat) : Int), 1, sIx n n hi - sIx n 0 lo) s) : wpAny (model prog w) A (Builtin.Slice.sliceApplied (.ref sl) (pure (n : Int))) Q E s := by
  obtain ⟨os, hos, hcs, hds⟩ := id hs
  unfold Builtin.Slice.sliceApplied Builtin.Slice.sliceFields
  refine wpAny_bind (wpAny_bind (wpAny_field hos hds (x := vl) rfl (wpAny_bind (wpAny_field hos hds (x := vu) rfl (wpAny_bind (wpAny_field hos hds (x := .none) rfl (wpAny_pure ?_)))))))
  refine wpAny_bind (slicePart_none ?_)
  show wpAny _ _ (if ((1 : Int) == 0) = true then _ else _) _ _ s
  rw [if_neg (by decide)]
  refine wpAny_bind (slicePart_ pl (wpAny_bind (slicePart_ pu (wpAny_bind (wpAny_pure ?_)))))
  show wpAny _ _ (match Builtin.Slice.sliceAdjust lo hi 1 (n : Int) with | (lo, hi) => pure (lo, (1 : Int), Builtin.Slice.slicePlaces lo hi 1)) _ _ s
  rw [adjust_gen lo hi n]
  show wpAny _ _ (pure (((sIx n 0 lo : Nat) : Int), (1 : Int), Builtin.Slice.slicePlaces ((sIx n 0 lo : Nat) : Int) ((sIx n n hi : Nat) : Int) 1)) _ _ s
  rw [places_gen]
  exact wpAny_pure h
theorem pick_gen (xs : Array Value) (i k : Nat) : ((List.range k).filterMap fun (m : Nat) => xs[((i : Int) + (m : Int) * 1).toNat]?).toArray = ((xs.toList.drop i).take k).toArray := by
  have e : (fun (m : Nat) => xs[((i : Int) + (m : Int) * 1).toNat]?) = fun m => xs[i + m]? := by
    funext m
    have : ((i : Int) + (m : Int) * 1).toNat = i + m := by omega
    rw [this]
  rw [e]
  have := pick_run xs i k
  rw [List.filterMap_map] at this
  have e2 : ((fun x => xs[x]?) ∘ fun x => i + x) = fun m => xs[i + m]? := rfl
  rw [e2] at this
  rw [this]

theorem getItem_tuple_cut {t sl : Addr} {items : Array Value} {vl vu : Value} {lo hi : Option Int} {Q : Value → Shared → Prop} (ht : IsTup s.heap t items) (hs : s.heap.IsSliceOf sl vl vu .none) (pl : IsPart vl lo) (pu : IsPart vu hi)
    (hw : ¬ (sIx items.size 0 lo = 0 ∧ sIx items.size items.size hi = items.size))
    (h : Q (.ref s.heap.objs.size) { s with heap := s.heap.push { cls := .type "tuple", data := .seq ((items.toList.drop (sIx items.size 0 lo)).take (sIx items.size items.size hi - sIx items.size 0 lo)).toArray } })
    (hsz : items.size ≤ sizeLine) : wpAny (model prog w) A (getItem (.ref t) (.ref sl)) Q E s := by
  have htake : sizeOk (.seq ((items.toList.drop (sIx items.size 0 lo)).take (sIx items.size items.size hi - sIx items.size 0 lo)).toArray) := by
    show ((items.toList.drop (sIx items.size 0 lo)).take (sIx items.size items.size hi - sIx items.size 0 lo)).toArray.size ≤ sizeLine
    rw [List.size_toArray, List.length_take, List.length_drop, Array.length_toList]
    omega
  have hj : sIx items.size items.size hi ≤ items.size := sIx_le _ _ (Nat.le_refl _) hi
  obtain ⟨os, hos, hcs, hds⟩ := id hs
  have hTs : s.TypeIs (.ref sl) "slice" := ⟨os, hos, hcs⟩
  unfold getItem
  try with_reducible refine wpAny_holding ?_
  first | refine wpAny_bind (wpAny_pure ?_) | skip
  refine wpAny_bind (wpAny_sequenceKey ht.typeIs (by decide) ?_)
  refine wpAny_bind (wpAny_callSpecial?_slot (name := Str.ofString "__getitem__") ht.typeIs PyProof.Rows.slot_tuple_getitem
    (wpAny_call_entry PyProof.Rows.slot_tuple_getitem ht.typeIs entry_tuple_getitem ?_ (args_tuple_getitem _ _)))
  show wpAny _ _ (Builtin.Tuple.tupleItemsOf (.ref t) >>= _) _ _ s
  refine wpAny_bind (tupleItemsOf_ ht ?_)
  refine wpAny_bind (wpAny_typeOf hTs ?_)
  rw [if_pos (by decide)]
  refine wpAny_bind (sliceApplied_gen hs pl pu ?_)
  have hno : ¬ ((((sIx items.size 0 lo : Nat) : Int) == 0 && (1 : Int) == 1 && (sIx items.size items.size hi - sIx items.size 0 lo) == items.size) = true) := by
    intro q
    rw [Bool.and_eq_true, Bool.and_eq_true] at q
    have q1 : ((sIx items.size 0 lo : Nat) : Int) = 0 := eq_of_beq q.1.1
    have q2 : sIx items.size items.size hi - sIx items.size 0 lo = items.size := eq_of_beq q.2
    exact hw ⟨by omega, by omega⟩
  show wpAny _ _ (if (((sIx items.size 0 lo : Nat) : Int) == 0 && (1 : Int) == 1 && (sIx items.size items.size hi - sIx items.size 0 lo) == items.size) = true then _ else _) _ _ s
  rw [if_neg hno, pick_gen]
  first
    | exact wpAny_bind (m := Builtin.Tuple.tupleExact _) (wpAny_newObj_type (wpAny_pure ⟨_, rfl, wpAny_pure h⟩) htake)
    | exact wpAny_bind (m := Builtin.Tuple.tupleExact _) (wpAny_newObj_type (wpAny_bind (wpAny_pure (wpAny_pure ⟨_, rfl, wpAny_pure h⟩))) htake)
    | exact wpAny_bind (wpAny_bind (m := Builtin.Tuple.tupleExact _) (wpAny_newObj_type (wpAny_pure (wpAny_pure ⟨_, rfl, wpAny_pure h⟩)) htake))
    | exact wpAny_bind (wpAny_bind (m := Builtin.Tuple.tupleExact _) (wpAny_newObj_type (wpAny_pure ⟨_, rfl, wpAny_pure h⟩) htake))
end
end HT

namespace L2
open PySem PySem.Spec PyProof.Rows

/-! ### the parts of a slice -/
abbrev TO := St → Hp → (Option Int → Hp → Prop) → Prop
/-- a slice's part (left out, or an int) -/
def PO (X : Cx) (e : Option Expr) (t : TO) : Prop :=
  ∀ (pins : List (Addr × Obj)) (s : Shared) (σ : St) (H : Hp) (Q : Option Int → Hp → Prop), Inv X pins σ H s → t σ H Q →
    wpAny (model X.prog X.w) X.A (evalPart e X.env) (fun u s' => ∃ o H', Inv X pins σ H' s' ∧ IsPart u o ∧ Q o H') X.xe s
def tNoPart : TO := fun _ H Q => Q none H
def tPart (t : TE) : TO := fun σ H Q => t σ H fun x H1 => ∃ i, x = .int i ∧ Q (some i) H1


section
variable {X : Cx} {e : Expr} {te : TE} {lo hi : Option Expr} {tl th : TO} {pos p2 : Pos}

theorem po_none : PO X none tNoPart := by
  intro pins s σ H Q I h
  rw [evalPart_none]
  exact wpAny_pure ⟨none, H, I, .none, h⟩
theorem po_some (h : PE X e te) : PO X (some e) (tPart te) := by
  intro pins s σ H Q I hw
  rw [evalPart_some]
  refine thn (h pins s σ H _ I hw) fun u s1 ⟨x, H1, I1, r1, q1⟩ => ?_
  obtain ⟨i, rfl, q⟩ := q1
  obtain ⟨t, rfl⟩ := r1
  exact ⟨some i, H1, I1, .int i t, q⟩

/-- what a slice of a value is, by values: the slice object stands at sl -/
def SlR (X : Cx) (r : V → Option Int → Option Int → Hp → VK → Prop) : Prop :=
  ∀ (pins : List (Addr × Obj)) (s : Shared) (σ : St) (H : Hp) (x : V) (v vl vu : Value) (lo hi : Option Int) (sl : Addr) (Q : VK), Inv X pins σ H s → RelV x v → s.heap.IsSliceOf sl vl vu .none → IsPart vl lo → IsPart vu hi → r x lo hi H Q →
    ∃ T id, typeLookup (.type T) "__getitem__" = pure (some (.builtin id)) ∧ s.TypeIs v T ∧ wpAny (model X.prog X.w) X.A (getItem v (.ref sl)) (EP X pins σ Q) X.xe s
def tSl (r : V → Option Int → Option Int → Hp → VK → Prop) (te : TE) (tl th : TO) : TE := fun σ H Q => te σ H fun x H1 => tl σ H1 fun l H2 => th σ H2 fun u H3 => r x l u H3 Q
/-- a[lo:hi], any a -/
theorem pe_slice {r : V → Option Int → Option Int → Hp → VK → Prop} (hr : SlR X r) (he : PE X e te) (hl : PO X lo tl) (hu : PO X hi th) : PE X (.Subscript e (.Slice lo hi none p2) pos) (tSl r te tl th) := by
  intro pins s σ H Q I h
  refine Subscript_ (thn (he pins s σ H _ I h) fun v s1 ⟨x, H1, I1, r1, q1⟩ => ?_)
  refine wpAny_Slice (thn (hl pins s1 σ H1 _ I1 q1) fun vl s2 ⟨l, H2, I2, pl, q2⟩ => thn (hu pins s2 σ H2 _ I2 q2) fun vu s3 ⟨u, H3, I3, pu, q3⟩ => ?_)
  rw [evalPart_none]
  refine wpAny_pure ?_
  have I4 : Inv X pins σ H3 { s3 with heap := s3.heap.push { cls := .type "slice", data := .fields #[vl, vu, .none] } } := I3.kept (t' := s3.toks) fun b ob q => Heap.get?_push_of_some _ q
  obtain ⟨T, id, hT, ht, hg⟩ := hr pins { s3 with heap := s3.heap.push { cls := .type "slice", data := .fields #[vl, vu, .none] } } σ H3 x v vl vu l u s3.heap.objs.size Q I4 r1 (Heap.IsSliceOf.new ..) pl pu q3
  show wpAny (model X.prog X.w) X.A (subscriptTail e (.Slice lo hi none p2) v (.ref s3.heap.objs.size)) (EP X pins σ Q) X.xe { s3 with heap := s3.heap.push { cls := .type "slice", data := .fields #[vl, vu, .none] } }
  exact tail_any (ops := [.ref s3.heap.objs.size, v]) ht hT hg (by with_unfolding_all rfl)

/-- the items of xs[lo:hi] -/
def cutV (xs : List V) (lo hi : Option Int) : List V := (xs.drop (HT.sIx xs.length 0 lo)).take (HT.sIx xs.length xs.length hi - HT.sIx xs.length 0 lo)
theorem cutV_length (xs : List V) (lo hi : Option Int) : (cutV xs lo hi).length ≤ xs.length := by
  unfold cutV
  rw [List.length_take, List.length_drop]
  omega
/-- t[lo:hi], not the whole of it (the whole would be t itself) -/
def rSlT (K : PySem.W.Frag) : V → Option Int → Option Int → Hp → VK → Prop := fun x lo hi H Q => ∃ a xs, x = .ref a ∧ SqT K H a xs ∧
  ¬ (HT.sIx xs.length 0 lo = 0 ∧ HT.sIx xs.length xs.length hi = xs.length) ∧ ∀ p, H p = none → Q (.ref p) (upd H p (.tup (cutV xs lo hi)))
theorem sl_tup : SlR X (rSlT X.K) := by
  intro pins s σ H x v vl vu lo hi sl Q I rx hs pl pu h
  obtain ⟨a, xs, rfl, hx, hw, q⟩ := h
  cases rx
  obtain ⟨its, r, ht, hz⟩ := I.tuple hx
  have hlen : its.toArray.size = xs.length := by rw [List.size_toArray]; exact r.length.symm
  refine ⟨"tuple", _, PyProof.Rows.slot_tuple_getitem.lookup, ht.typeIs, ?_⟩
  refine HT.getItem_tuple_cut ht hs pl pu (by rw [hlen]; exact hw) ?_ (by rw [hlen]; exact hz)
  rw [hlen]
  refine ⟨.ref s.heap.objs.size, _, I.laid (t' := s.toks) (o := .tup (cutV xs lo hi)) (fun b ob q => Heap.get?_push_of_some _ q) (Nat.le_refl _) ?_, rfl, q _ (I.hok.fresh (Nat.le_refl _))⟩
  exact ⟨Nat.le_trans (cutV_length xs lo hi) hz, _, (r.drop (HT.sIx xs.length 0 lo)).take (HT.sIx xs.length xs.length hi - HT.sIx xs.length 0 lo), IsTup.new _ _⟩

/-! ### t < u, t + u -/
def rLtT (K : PySem.W.Frag) : R2 := fun x y H Q => ∃ a b ns ms, x = .ref a ∧ y = .ref b ∧ SqT K H a (ns.map V.int) ∧ SqT K H b (ms.map V.int) ∧ Q (.bl (HT.lexLt ns ms)) H
/-- t + u, t not empty: u empty gives t itself -/
def rCatT (K : PySem.W.Frag) : R2 := fun x y H Q => ∃ a b xs ys, x = .ref a ∧ y = .ref b ∧ SqT K H a xs ∧ SqT K H b ys ∧ xs ≠ [] ∧ xs.length + ys.length ≤ sizeLine ∧
  (ys = [] → Q (.ref a) H) ∧ (ys ≠ [] → ∀ p, H p = none → Q (.ref p) (upd H p (.tup (xs ++ ys))))
theorem Vals.nil_iff {xs : List V} {us : List Value} (r : Vals xs us) : us = [] ↔ xs = [] := by
  cases r with
  | nil => simp
  | cons _ _ => simp
theorem op_catT : OpR X (binaryOp .Add) (rCatT X.K) := by
  intro pins s σ H x y v u Q I rx ry h
  obtain ⟨a, b, xs, ys, rfl, rfl, ha, hb, hx, hz, q1, q2⟩ := h
  cases rx
  cases ry
  obtain ⟨its, r1, p1, _⟩ := I.tuple ha
  obtain ⟨its2, r2, p2, _⟩ := I.tuple hb
  refine HT.cat_tup p1 p2 (fun z => hx (r1.nil_iff.mp z)) (fun z => ⟨.ref a, H, I, rfl, q1 (r2.nil_iff.mp z)⟩) (fun z => ?_) (by rw [← r1.length, ← r2.length]; exact hz)
  refine ⟨.ref s.heap.objs.size, _, I.laid (t' := s.toks) (o := .tup (xs ++ ys)) (fun b ob q => Heap.get?_push_of_some _ q) (Nat.le_refl _) ?_, rfl, q2 (fun w => z (r2.nil_iff.mpr w)) _ (I.hok.fresh (Nat.le_refl _))⟩
  exact ⟨by rw [List.length_append]; exact hz, _, r1.append r2, IsTup.new _ _⟩
end
end L2

namespace L2
open PySem PySem.Spec PyProof.Rows

/-! ### places -/
/-- the place that an index of any sign means -/
def ixN (n : Nat) (i : Int) : Option Nat := if 0 ≤ i then (if i < n then some i.toNat else none) else if -(n : Int) ≤ i then some (i + n).toNat else none
def atI {α : Type} (xs : List α) (i : Int) : Option α := (ixN xs.length i).bind fun j => xs[j]?
theorem ixN_seq {n : Nat} {i : Int} {j : Nat} (h : ixN n i = some j) : seqIndex? i n = some j ∧ j < n ∧ -(n : Int) ≤ i ∧ i < n := by
  unfold ixN at h
  by_cases h0 : 0 ≤ i
  · rw [if_pos h0] at h
    by_cases h1 : i < n
    · rw [if_pos h1] at h
      have e : i.toNat = j := Option.some.inj h
      exact ⟨by rw [seqIndex_of h0 h1, e], by omega, by omega, h1⟩
    · rw [if_neg h1] at h; cases h
  · rw [if_neg h0] at h
    by_cases h1 : -(n : Int) ≤ i
    · rw [if_pos h1] at h
      have e : (i + n).toNat = j := Option.some.inj h
      exact ⟨by rw [seqIndex_neg (by omega) h1, e], by omega, h1, by omega⟩
    · rw [if_neg h1] at h; cases h
theorem atI_get {α : Type} {xs : List α} {i : Int} {v : α} (h : atI xs i = some v) : ∃ j, seqIndex? i xs.length = some j ∧ xs[j]? = some v ∧ j < xs.length ∧ -(xs.length : Int) ≤ i ∧ i < xs.length := by
  unfold atI at h
  cases e : ixN xs.length i with
  | none => rw [e] at h; cases h
  | some j =>
    rw [e] at h
    obtain ⟨h1, h2, h3, h4⟩ := ixN_seq e
    exact ⟨j, h1, h, h2, h3, h4⟩
theorem atI_nat {α : Type} {xs : List α} {j : Nat} {v : α} (h : xs[j]? = some v) : atI xs (j : Int) = some v := by
  have hj : j < xs.length := (List.getElem?_eq_some_iff.mp h).1
  have e : ixN xs.length (j : Int) = some j := by
    unfold ixN
    rw [if_pos (by omega), if_pos (by omega)]; simp
  unfold atI; rw [e]; exact h

/-! ### what may be subscripted -/
/-- what stands as an index of a plain subscript -/
def PlainIx (b : Expr) : Prop := ∀ o i, subscripted b false o i = operate [o, i] (getItem o i)
/-- a subscript by values -/
def IxR (X : Cx) (r : R2) : Prop :=
  ∀ (value slice : Expr) (pins : List (Addr × Obj)) (s : Shared) (σ : St) (H : Hp) (x y : V) (v u : Value) (Q : VK), Inv X pins σ H s → RelV x v → RelV y u → r x y H Q →
    subscripted slice false v u = operate [v, u] (getItem v u) → wpAny (model X.prog X.w) X.A (subscriptTail value slice v u) (EP X pins σ Q) X.xe s
/-- a call of a builtin's method by values: the receiver, the arguments -/
def MtR (X : Cx) (id : String) (r : V → List V → Hp → VK → Prop) : Prop :=
  ∀ (pins : List (Addr × Obj)) (s : Shared) (σ : St) (H : Hp) (x : V) (xs : List V) (v : Value) (us : List Value) (Q : VK), Inv X pins σ H s → RelV x v → Vals xs us → r x xs H Q →
    wpAny (model X.prog X.w) X.A (call (.builtin id) (v :: us)) (EP X pins σ Q) X.xe s
section
variable {X : Cx} {a b : Expr} {ta tb : TE} {pos : Pos}
/-- a[b] -/
theorem pe_ix {r : R2} (hr : IxR X r) (ha : PE X a ta) (hb : PE X b tb) (hs : PlainIx b) : PE X (.Subscript a b pos) (tOp r ta tb) := by
  intro pins s σ H Q I h
  exact Subscript_ (binT ha hb I h fun v u s2 x y H2 I2 rx ry q => hr a b pins s2 σ H2 x y v u Q I2 rx ry q (hs _ _))

def rIxL (K : PySem.W.Frag) : R2 := fun x y H Q => ∃ p xs i v, x = .ref p ∧ y = .int i ∧ SqL K H p xs ∧ atI xs i = some v ∧ Q v H
def rIxT (K : PySem.W.Frag) : R2 := fun x y H Q => ∃ p xs i v, x = .ref p ∧ y = .int i ∧ SqT K H p xs ∧ atI xs i = some v ∧ Q v H
def rIxS : R2 := fun x y H Q => ∃ z i c, x = .str z ∧ y = .int i ∧ z.length ≤ sizeLine ∧ atI z.cps.toList i = some c ∧ Q (.str ⟨#[c]⟩) H
theorem ix_list : IxR X (rIxL X.K) := by
  intro value slice pins s σ H x y v u Q I rx ry h hs
  obtain ⟨p, xs, i, z, rfl, rfl, hq, he, q⟩ := h
  cases rx
  obtain ⟨t, rfl⟩ := ry
  obtain ⟨its, r, pl, hz⟩ := I.list hq
  obtain ⟨j, h1, h2, h3, h4, h5⟩ := atI_get he
  obtain ⟨w, ew, rw'⟩ := r.get h2
  have hl := r.length
  have hn := line63
  have fin : EP X pins σ Q w s := ⟨z, H, I, rw', q⟩
  by_cases h0 : 0 ≤ i
  · have hj : i.toNat = j := by
      rw [seqIndex_of h0 h5] at h1
      exact Option.some.inj h1
    exact item_listR pl.isList h0 (by omega) (by rw [hj]; simpa using ew) fin hs
  · have hj : (i + (its.toArray.size : Int)).toNat = j := by
      rw [seqIndex_neg (by omega) h4] at h1
      rw [List.size_toArray, ← hl]
      exact Option.some.inj h1
    exact subscriptTail_builtinR (x := w) pl.isList.typeIs slot_list_getitem.lookup
      (wpAny_getItem_list_neg (Q := fun r s' => r = w ∧ EP X pins σ Q r s') pl.isList (by omega) (by rw [List.size_toArray] <;> omega) (by omega) (by rw [hj]; simpa using ew) ⟨rfl, fin⟩) hs
theorem ix_tup : IxR X (rIxT X.K) := by
  intro value slice pins s σ H x y v u Q I rx ry h hs
  obtain ⟨p, xs, i, z, rfl, rfl, hq, he, q⟩ := h
  cases rx
  obtain ⟨t, rfl⟩ := ry
  obtain ⟨its, r, pl, hz⟩ := I.tuple hq
  obtain ⟨j, h1, h2, h3, h4, h5⟩ := atI_get he
  obtain ⟨w, ew, rw'⟩ := r.get h2
  have hl := r.length
  have hn := line63
  have fin : EP X pins σ Q w s := ⟨z, H, I, rw', q⟩
  exact subscriptTail_builtinR (x := w) pl.typeIs slot_tuple_getitem.lookup
    (getItem_tuple (j := j) (Q := fun r s' => r = w ∧ EP X pins σ Q r s') pl (by omega) (by omega) (by rw [List.size_toArray, ← hl]; exact h1) (by simpa using ew) ⟨rfl, fin⟩) hs
/-- list, tuple or str -/
def rIx (K : PySem.W.Frag) : R2 := fun x y H Q => rIxL K x y H Q ∨ rIxT K x y H Q ∨ rIxS x y H Q

/-! ### xs[i] = v, any sign -/
def rSetL : V → V → V → Hp → (Hp → Prop) → Prop := fun o i v H Q => ∃ p xs k j, o = .ref p ∧ i = .int k ∧ H p = some (.lst xs) ∧ ixN xs.length k = some j ∧ Q (upd H p (.lst (xs.set j v)))

/-! ### slices -/
theorem slice_bounds (lo hi : Option Int) (n : Nat) : (sliceBounds lo hi none n).1 = ((HT.sIx n 0 lo : Nat) : Int) ∧ (sliceBounds lo hi none n).2.1 = ((HT.sIx n n hi : Nat) : Int) ∧ (sliceBounds lo hi none n).2.2 = 1 := by
  refine ⟨?_, ?_, rfl⟩
  · cases lo with
    | none => simp [sliceBounds, HT.sIx]
    | some i =>
      simp only [sliceBounds, HT.sIx, Option.getD_none, show (1 : Int) > 0 by decide, if_true]
      by_cases h : i < 0
      · simp only [h, if_true] <;> omega
      · simp only [h, if_false] <;> omega
  · cases hi with
    | none => simp [sliceBounds, HT.sIx]
    | some i =>
      simp only [sliceBounds, HT.sIx, Option.getD_none, show (1 : Int) > 0 by decide, if_true]
      by_cases h : i < 0
      · simp only [h, if_true] <;> omega
      · simp only [h, if_false] <;> omega
theorem slicePick_cut (its : List Value) (lo hi : Option Int) : slicePick its.toArray lo hi none = ((its.drop (HT.sIx its.length 0 lo)).take (HT.sIx its.length its.length hi - HT.sIx its.length 0 lo)).toArray := by
  obtain ⟨h1, h2, h3⟩ := slice_bounds lo hi its.toArray.size
  unfold slicePick
  rw [h1, h2, h3]
  simp only [sliceRange_one, pick_run, List.size_toArray] <;> rfl
/-- xs[lo:hi] of a list: a new list -/
def rSlL (K : PySem.W.Frag) : V → Option Int → Option Int → Hp → VK → Prop := fun x lo hi H Q => ∃ a xs, x = .ref a ∧ SqL K H a xs ∧ ∀ p, H p = none → Q (.ref p) (upd H p (.lst (cutV xs lo hi)))
theorem sl_list : SlR X (rSlL X.K) := by
  intro pins s σ H x v vl vu lo hi sl Q I rx hs pl pu h
  obtain ⟨a, xs, rfl, hx, q⟩ := h
  cases rx
  obtain ⟨its, r, ht, hz⟩ := I.list hx
  have hlen := r.length
  refine ⟨"list", _, slot_list_getitem.lookup, ht.isList.typeIs, ?_⟩
  refine wpAny_getItem_list_slice ht.isList hs pl pu .none (by simp) ?_ (by rw [List.size_toArray] <;> omega)
  rw [slicePick_cut, ← hlen]
  refine ⟨.ref s.heap.objs.size, _, I.laid (t' := s.toks) (o := .lst (cutV xs lo hi)) (fun b ob q => Heap.get?_push_of_some _ q) (Nat.le_refl _) ?_, rfl, q _ (I.hok.fresh (Nat.le_refl _))⟩
  exact ⟨Nat.le_trans (cutV_length xs lo hi) hz, _, 0, (r.drop (HT.sIx xs.length 0 lo)).take (HT.sIx xs.length xs.length hi - HT.sIx xs.length 0 lo), Heap.get?_push_size _ rfl⟩

/-! ### in, not in: flat items -/
def flatV : V → Bool
  | .non => true
  | .bl _ => true
  | .int _ => true
  | .str _ => true
  | _ => false
/-- == of flat values -/
def eqV : V → V → Bool
  | .non, .non => true
  | .bl a, .bl b => a == b
  | .bl a, .int b => (if a then 1 else 0) == b
  | .int a, .bl b => a == (if b then 1 else 0)
  | .int a, .int b => a == b
  | .str a, .str b => a == b
  | _, _ => false
theorem eqAt_V {A : Around} {s : Shared} {y x : V} {u v : Value} (ry : RelV y u) (rx : RelV x v) (fy : flatV y = true) (fx : flatV x = true) : SeqAt.EqAt A s u v (eqV y x) := by
  cases y with
  | non =>
    cases ry
    cases x with
    | non => cases rx; exact SeqAt.EqAt.same _
    | bl b => cases rx; exact SeqAt.EqAt.none_bool b
    | int b => obtain ⟨t, rfl⟩ := rx; exact SeqAt.EqAt.none_int b t
    | str b => obtain ⟨t, rfl⟩ := rx; exact SeqAt.EqAt.none_str b t
    | _ => exact absurd (show false = true from fx) Bool.false_ne_true
  | bl a =>
    cases ry
    cases x with
    | non => cases rx; exact SeqAt.EqAt.bool_none a
    | bl b => cases rx; exact SeqAt.EqAt.bool_bool a b
    | int b => obtain ⟨t, rfl⟩ := rx; exact SeqAt.EqAt.bool_int a b t
    | str b => obtain ⟨t, rfl⟩ := rx; exact SeqAt.EqAt.bool_str a b t
    | _ => exact absurd (show false = true from fx) Bool.false_ne_true
  | int a =>
    obtain ⟨t', rfl⟩ := ry
    cases x with
    | non => cases rx; exact SeqAt.EqAt.int_none a t'
    | bl b => cases rx; exact SeqAt.EqAt.int_bool a t' b
    | int b => obtain ⟨t, rfl⟩ := rx; exact SeqAt.EqAt.int_int a t' b t
    | str b => obtain ⟨t, rfl⟩ := rx; exact SeqAt.EqAt.int_str a t' b t
    | _ => exact absurd (show false = true from fx) Bool.false_ne_true
  | str a =>
    obtain ⟨t', rfl⟩ := ry
    cases x with
    | non => cases rx; exact SeqAt.EqAt.str_none a t'
    | bl b => cases rx; exact SeqAt.EqAt.str_bool a t' b
    | int b => obtain ⟨t, rfl⟩ := rx; exact SeqAt.EqAt.str_int a t' b t
    | str b => obtain ⟨t, rfl⟩ := rx; exact SeqAt.EqAt.str_str a t' b t
    | _ => exact absurd (show false = true from fx) Bool.false_ne_true
  | _ => exact absurd (show false = true from fy) Bool.false_ne_true
/-- the items' answers, read off the values (a value's own answer does not lean on its token) -/
def eqU (x : V) (u : Value) : Bool := match u with
  | .none => eqV .non x
  | .bool b => eqV (.bl b) x
  | .int i _ => eqV (.int i) x
  | .str z _ => eqV (.str z) x
  | _ => false
theorem eqU_of {x y : V} {u : Value} (r : RelV y u) (f : flatV y = true) : eqU x u = eqV y x := by
  cases y with
  | non => cases r; rfl
  | bl b => cases r; rfl
  | int i => obtain ⟨t, rfl⟩ := r; rfl
  | str z => obtain ⟨t, rfl⟩ := r; rfl
  | _ => exact absurd (show false = true from f) Bool.false_ne_true
theorem any_eqU {x : V} : ∀ {xs : List V} {us : List Value}, Vals xs us → xs.all flatV = true → us.any (eqU x) = xs.any fun y => eqV y x
  | _, _, .nil, _ => rfl
  | y :: xs, u :: us, .cons r t, f => by
    rw [List.all_cons, Bool.and_eq_true] at f
    rw [List.any_cons, List.any_cons, eqU_of r f.1, any_eqU t f.2]
theorem mem_eqAt {A : Around} {s : Shared} {x : V} {v : Value} (rx : RelV x v) (fx : flatV x = true) : ∀ {xs : List V} {us : List Value}, Vals xs us → xs.all flatV = true → ∀ u ∈ us, SeqAt.EqAt A s u v (eqU x u)
  | _, _, .nil, _ => fun u hu => by cases hu
  | y :: xs, u :: us, .cons r t, f => fun u' hu => by
    rw [List.all_cons, Bool.and_eq_true] at f
    rcases List.mem_cons.mp hu with rfl | hu
    · rw [eqU_of r f.1]; exact eqAt_V r rx f.1 fx
    · exact mem_eqAt rx fx t f.2 u' hu
def inV (x : V) (xs : List V) : Bool := xs.any fun y => eqV y x
/-- x in a list or tuple of flat items -/
def rIn (K : PySem.W.Frag) (neg : Bool) : R2 := fun x y H Q => ∃ p xs, y = .ref p ∧ (SqL K H p xs ∨ SqT K H p xs) ∧ flatV x = true ∧ xs.all flatV = true ∧ Q (.bl (if neg then !inV x xs else inV x xs)) H
theorem op_notIn_seq : OpR X (compareOp .NotIn) (rIn X.K true) := by
  intro pins s σ H x y v u Q I rx ry h
  obtain ⟨p, xs, rfl, hq, fx, fs, q⟩ := h
  cases ry
  rcases hq with hq | hq
  · obtain ⟨its, r, pl, hz⟩ := I.list hq
    refine SeqAt.notIn_listAt (eqU x) pl.isList (fun w hw => mem_eqAt rx fx r fs w (by simpa using hw)) ⟨.bl _, H, I, rfl, ?_⟩
    rw [show its.toArray.any (eqU x) = its.any (eqU x) by simp, any_eqU r fs]
    exact q
  · obtain ⟨its, r, pl, hz⟩ := I.tuple hq
    refine SeqAt.notIn_tupleAt (eqU x) pl (fun w hw => mem_eqAt rx fx r fs w (by simpa using hw)) ⟨.bl _, H, I, rfl, ?_⟩
    rw [show its.toArray.any (eqU x) = its.any (eqU x) by simp, any_eqU r fs]
    exact q

/-! ### len, list(x), tuple(x) of any list or tuple that is read -/
theorem call_len_seq : CallR X (.builtin "len") (fun xs H Q => ∃ p ys, xs = [.ref p] ∧ (SqL X.K H p ys ∨ SqT X.K H p ys) ∧ Q (.int ys.length) H) := by
  intro pins s σ H xs us Q I r h
  obtain ⟨p, ys, rfl, hq, q⟩ := h
  obtain ⟨u, rfl, rx⟩ := vals1 r
  cases rx
  have hn := line63
  rcases hq with hq | hq
  · obtain ⟨its, r', pl, hz⟩ := I.list hq
    have hlen := r'.length
    exact Calls.call_len_list pl.isList (by simp only [List.size_toArray] <;> omega) ⟨.int ys.length, H, I.tok _, ⟨s.toks + 1, by rw [List.size_toArray, hlen]⟩, q⟩
  · obtain ⟨its, r', pl, hz⟩ := I.tuple hq
    have hlen := r'.length
    exact len_tuple pl (by simp only [List.size_toArray] <;> omega) ⟨.int ys.length, H, I.tok _, ⟨s.toks + 1, by rw [List.size_toArray, hlen]⟩, q⟩
theorem call_list_of : CallR X (.type "list") (fun xs H Q => ∃ p ys, xs = [.ref p] ∧ (SqL X.K H p ys ∨ SqT X.K H p ys) ∧ ∀ l, H l = none → Q (.ref l) (upd H l (.lst ys))) := by
  intro pins s σ H xs us Q I r h
  obtain ⟨p, ys, rfl, hq, q⟩ := h
  obtain ⟨u, rfl, rx⟩ := vals1 r
  cases rx
  have fin : ∀ (its : List Value), Vals ys its → ys.length ≤ sizeLine → ∀ (h' : Heap) (c' : Nat), (∀ b o', s.heap.get? b = some o' → h'.get? b = some o') →
      h'.get? s.heap.objs.size = some { cls := .type "list", dict := none, data := .seq its.toArray c', slots := #[] } → EP X pins σ Q (.ref s.heap.objs.size) { s with heap := h' } := fun its r' hz h' c' kp e =>
    ⟨.ref s.heap.objs.size, _, I.laid (t' := s.toks) kp (Nat.le_refl _) (show ObjOk X.prog X.w _ h' _ (.lst ys) from ⟨hz, its, c', r', e⟩), rfl, q _ (I.hok.fresh (Nat.le_refl _))⟩
  rcases hq with hq | hq
  · obtain ⟨its, r', pl, hz⟩ := I.list hq
    have hlen := r'.length
    obtain ⟨o, ho, hc, n, hd⟩ := pl.isList
    exact call_list_seq p (.inl rfl) ho hc hd (fun h' c' kp e => fin its r' hz h' c' kp e) (by simp only [List.size_toArray] <;> omega)
  · obtain ⟨its, r', pl, hz⟩ := I.tuple hq
    have hlen := r'.length
    obtain ⟨o, ho, hc, n, hd⟩ := pl
    exact call_list_seq p (.inr rfl) ho hc hd (fun h' c' kp e => fin its r' hz h' c' kp e) (by simp only [List.size_toArray] <;> omega)
theorem call_tuple_of : CallR X (.type "tuple") (fun xs H Q => ∃ p ys, xs = [.ref p] ∧ ((SqL X.K H p ys ∧ ∀ l, H l = none → Q (.ref l) (upd H l (.tup ys))) ∨ (SqT X.K H p ys ∧ Q (.ref p) H))) := by
  intro pins s σ H xs us Q I r h
  obtain ⟨p, ys, rfl, h⟩ := h
  obtain ⟨u, rfl, rx⟩ := vals1 r
  cases rx
  rcases h with ⟨hq, q⟩ | ⟨hq, q⟩
  · obtain ⟨its, r', pl, hz⟩ := I.list hq
    have hlen := r'.length
    refine call_tuple_list pl.isList (fun h' kp => ?_) (by simp only [List.size_toArray] <;> omega)
    have I1 : Inv X pins σ H { s with heap := h' } := I.kept (t' := s.toks) kp
    have I2 : Inv X pins σ (upd H h'.objs.size (.tup ys)) { s with heap := h'.push { cls := .type "tuple", data := .seq its.toArray } } :=
      I1.laid (t' := s.toks) (fun b o e => Heap.get?_push_of_some _ e) (Nat.le_refl _) (show ObjOk X.prog X.w _ _ _ (.tup ys) from ⟨hz, its, r', IsTup.new _ _⟩)
    exact ⟨.ref h'.objs.size, _, I2, rfl, q _ (I1.hok.fresh (Nat.le_refl _))⟩
  · obtain ⟨its, r', pl, hz⟩ := I.tuple hq
    exact call_tuple_same pl ⟨.ref p, H, I, rfl, q⟩

/-! ### the call of a builtin's method: o.m(..) -/
/-- the value is of that builtin type -/
def tyV (K : PySem.W.Frag) (T : String) (x : V) (H : Hp) : Prop := match x with
  | .str _ => T = "str"
  | .int _ => T = "int"
  | .ref p => (T = "list" ∧ ∃ xs, SqL K H p xs) ∨ (T = "tuple" ∧ ∃ o, K.lookup p = some o ∧ o.cls = .type "tuple" ∧ o.dict = none) ∨
      (T = "dict" ∧ ((∃ kvs, H p = some (.dK kvs)) ∨ ∃ kvs, H p = some (.dT kvs))) ∨ (T = "set" ∧ ∃ S n, H p = some (.set S n))
  | _ => False
theorem tyV_is {pins : List (Addr × Obj)} {σ : St} {H : Hp} {s : Shared} {T : String} {x : V} {v : Value} (I : Inv X pins σ H s) (r : RelV x v) (ty : tyV X.K T x H) :
    s.TypeIs v T ∧ ∀ a, v = .ref a → ∃ ob, s.heap.get? a = some ob ∧ ob.dict = none := by
  cases x with
  | str z =>
    obtain ⟨t, rfl⟩ := r
    cases (show T = "str" from ty)
    exact ⟨typeIs_str s z t, fun _ e => nomatch e⟩
  | int i =>
    obtain ⟨t, rfl⟩ := r
    cases (show T = "int" from ty)
    exact ⟨typeIs_int s i t, fun _ e => nomatch e⟩
  | ref p =>
    cases r
    rcases ty with ⟨rfl, xs, hq⟩ | ⟨rfl, o, hk, hc, hd⟩ | ⟨rfl, hk⟩ | ⟨rfl, S, n, hk⟩
    · obtain ⟨its, _, pl, _⟩ := I.list hq
      refine ⟨pl.isList.typeIs, fun a e => ?_⟩
      cases e
      obtain ⟨o, n, e, c, hd, _⟩ := pl
      exact ⟨o, e, hd⟩
    · refine ⟨⟨o, I.kIn p o hk, hc⟩, fun a e => ?_⟩
      cases e
      exact ⟨o, I.kIn _ o hk, hd⟩
    · have z : ∃ o, s.heap.get? p = some o ∧ o.ExactDict := by
        rcases hk with ⟨kvs, hk⟩ | ⟨kvs, hk⟩
        · obtain ⟨_, _, _, _, o, _, _, e, ex, _⟩ := I.hok p _ hk
          exact ⟨o, e, ex⟩
        · obtain ⟨_, _, _, _, o, _, _, e, ex, _⟩ := I.hok p _ hk
          exact ⟨o, e, ex⟩
      obtain ⟨o, e, ex⟩ := z
      refine ⟨⟨o, e, ex.1⟩, fun a e2 => ?_⟩
      cases e2
      exact ⟨o, e, ex.2.1⟩
    · obtain ⟨o, _, _, _, e, ex, _⟩ := I.hok p _ hk
      refine ⟨⟨o, e, ex.1⟩, fun a e2 => ?_⟩
      cases e2
      exact ⟨o, e, ex.2.1⟩
  | _ => exact False.elim ty
def tBM0 (K : PySem.W.Frag) (T : String) (r : V → List V → Hp → VK → Prop) (to : TE) : TE := fun σ H Q => to σ H fun x H1 => tyV K T x H1 ∧ r x [] H1 Q
def tBM (K : PySem.W.Frag) (T : String) (r : V → List V → Hp → VK → Prop) (to : TE) (t : TA) : TE := fun σ H Q => to σ H fun x H1 => tyV K T x H1 ∧ t σ H1 fun xs H2 => r x xs H2 Q
variable {o e : Expr} {es : List Expr} {to : TE} {t : TA} {name : Str} {apos cpos : Pos} {T id : String} {r : V → List V → Hp → VK → Prop}
theorem pe_bm0 (pa : PlainAttrs T) (slot : Slot T name id) (hty : typeOf (.builtin id) = pure (.type "method_descriptor")) (hm : MtR X id r) (ho : PE X o to)
    (hbase : attributeBase o name X.env (eval o X.env) = eval o X.env := by rfl) (hline : (apos.endLine == cpos.line) = true := by rfl) : PE X (.Call (.Attribute o name apos) [] [] cpos) (tBM0 X.K T r to) := by
  intro pins s σ H Q I h
  refine wpAny_Call_method0_late hbase hline (thn (ho pins s σ H _ I h) fun v s1 ⟨x, H1, I1, r1, ty, q1⟩ => ?_)
  obtain ⟨h1, h2⟩ := tyV_is I1 r1 ty
  exact ⟨T, id, pa, slot, hty, h1, h2, Calls.callWith_builtin rfl (PySem.evalArgs_none (hm pins s1 σ H1 x [] v [] Q I1 r1 .nil q1))⟩
theorem pe_bm (pa : PlainAttrs T) (slot : Slot T name id) (hty : typeOf (.builtin id) = pure (.type "method_descriptor")) (hm : MtR X id r) (ho : PE X o to) (ha : PA X (e :: es) t)
    (hbase : attributeBase o name X.env (eval o X.env) = eval o X.env := by rfl)
    (hfew : ((backTo cpos (starEach (e :: es) X.env)).all (fun x => !x.1) && (backToKw cpos (keywordEach [] X.env)).all (fun x => x.1.isSome)
      && decide ((e :: es).length + ([] : List Keyword).length + (if ([] : List Keyword).isEmpty then 0 else 1) < 30)) = true := by rfl)
    (hline : (apos.endLine == cpos.line) = true := by rfl) (hs : starEach (e :: es) X.env = (false, eval e X.env) :: starEach es X.env := by rfl) (hplain : (backTo cpos (starEach es X.env)).any (·.1) = false := by rfl) :
    PE X (.Call (.Attribute o name apos) (e :: es) [] cpos) (tBM X.K T r to t) := by
  intro pins s σ H Q I h
  refine wpAny_Call_method_late hbase hfew hline rfl (thn (ho pins s σ H _ I h) fun v s1 ⟨x, H1, I1, r1, ty, q1⟩ => ?_)
  obtain ⟨h1, h2⟩ := tyV_is I1 r1 ty
  refine ⟨T, id, pa, slot, hty, h1, h2, ?_⟩
  have hA := ha cpos pins s1 σ H1 _ I1 q1
  rw [hs] at hA ⊢
  refine Calls.callWith_builtin (by show (false || (backTo cpos (starEach es X.env)).any (·.1)) = false; rw [hplain] <;> rfl) (Calls.evalArgs_plain ?_)
  exact thn hA fun us s2 ⟨vs, H2, I2, r2, q2⟩ => hm pins s2 σ H2 x vs v us Q I2 r1 r2 q2
/- xs.append(e), list.index on a module's tuple .. are MtR facts of 06m -/
end
end L2

namespace L2
open PySem PySem.Spec PyProof.Rows

def MtM (X : Cx) (id : String) (r : V → List V → Hp → VK → Prop) : Prop :=
  ∀ (pins : List (Addr × Obj)) (s : Shared) (σ : St) (H : Hp) (x : V) (xs : List V) (v : Value) (us : List Value) (Q : VK), Inv X pins σ H s → RelV x v → Vals xs us → r x xs H Q →
    wpAny (model X.prog X.w) X.A (call (.builtin id) (v :: us)) (EP X pins σ Q) X.xe s

/-! ### lists of values -/
theorem Vals.one : ∀ {x : V} {us : List Value}, Vals [x] us → ∃ u, us = [u] ∧ RelV x u
  | _, _, .cons r .nil => ⟨_, rfl, r⟩
theorem Vals.two : ∀ {x y : V} {us : List Value}, Vals [x, y] us → ∃ u v, us = [u, v] ∧ RelV x u ∧ RelV y v
  | _, _, _, .cons r (.cons q .nil) => ⟨_, _, rfl, r, q⟩

section
variable {X : Cx} {pins : List (Addr × Obj)} {σ : St} {H : Hp} {s : Shared} {l b : Addr} {xs ys zs : List V}

/-! ### the two steps: a tracked list is rewritten, a new list is laid -/
theorem Inv.lset {its its' : List Value} {n : Nat} {f : Array Value → Array Value} {t' : Nat} (I : Inv X pins σ H s) (hH : H l = some (.lst xs))
    (e : s.heap.get? l = some { cls := .type "list", data := .seq its.toArray n }) (hf : f its.toArray = its'.toArray) (hv : Vals ys its') (hz : ys.length ≤ sizeLine) :
    Inv X pins σ (upd H l (.lst ys)) { s with heap := s.heap.update l (Obj.mapSeq f), toks := t' } := by
  have q := PySem.IsL.update e f
  rw [hf] at q
  refine I.write (x := l) (e := l) (by rw [hH]; exact trivial) (.inl rfl) (fun b' u hb hu => (Heap.get?_update_other s.heap (Obj.mapSeq f) (Ne.symm hb)).trans hu) ⟨_, q⟩ ?_
  exact ⟨hz, its', _, hv, q⟩
theorem Inv.lnew {its : List Value} {t' : Nat} (I : Inv X pins σ H s) (hv : Vals ys its) (hz : ys.length ≤ sizeLine) :
    Inv X pins σ (upd H s.heap.objs.size (.lst ys)) { s with heap := s.heap.push { cls := .type "list", data := .seq its.toArray }, toks := t' } :=
  I.laid (fun _ _ q => Heap.get?_push_of_some _ q) (Nat.le_refl _) ⟨hz, its, 0, hv, Heap.get?_push_size _ rfl⟩
theorem Inv.fresh (I : Inv X pins σ H s) : H s.heap.objs.size = none := I.hok.fresh (Nat.le_refl _)
theorem Inv.lstM (I : Inv X pins σ H s) (hH : H l = some (.lst xs)) : xs.length ≤ sizeLine ∧ ∃ (its : List Value) (n : Nat), Vals xs its ∧ xs.length = its.length ∧ s.heap.get? l = some { cls := .type "list", data := .seq its.toArray n } := by
  obtain ⟨z, its, n, r, e⟩ := I.hok l _ hH
  exact ⟨z, its, n, r, r.length, e⟩

end

section
variable {X : Cx}

/-! ### methods -/
def rAppend : V → List V → Hp → VK → Prop := fun x vs H Q => ∃ l xs y, x = .ref l ∧ vs = [y] ∧ H l = some (.lst xs) ∧ xs.length < sizeLine ∧ Q .non (upd H l (.lst (xs ++ [y])))
theorem mt_append : MtM X "list.append" rAppend := by
  intro pins s σ H x vs v us Q I rx rv h
  obtain ⟨l, xs, y, rfl, rfl, hH, hz, q⟩ := h
  cases rx
  obtain ⟨u, rfl, ru⟩ := rv.one
  obtain ⟨z, its, n, r, hl, e⟩ := I.lstM hH
  refine call_meets F.slot_list_append ⟨_, e, rfl⟩ F.entry_list_append (F.args_list_append_2 _ _) (PySem.list_append l its.toArray n u (by rw [List.size_toArray]; omega)) ⟨e, ?_⟩
  refine ⟨.non, _, I.lset (its' := its ++ [u]) hH e (by simp) (r.append (.cons ru .nil)) ?_, rfl, q⟩
  rw [List.length_append, List.length_singleton]
  omega

def rExtend : V → List V → Hp → VK → Prop := fun x vs H Q => ∃ l b xs zs, x = .ref l ∧ vs = [.ref b] ∧ H l = some (.lst xs) ∧ H b = some (.lst zs) ∧ xs.length + zs.length ≤ sizeLine ∧ Q .non (upd H l (.lst (xs ++ zs)))

def rPop : V → List V → Hp → VK → Prop := fun x vs H Q => ∃ l xs y, x = .ref l ∧ vs = [] ∧ H l = some (.lst xs) ∧ xs[xs.length - 1]? = some y ∧ Q y (upd H l (.lst xs.dropLast))

def rPopAt : V → List V → Hp → VK → Prop := fun x vs H Q => ∃ l xs i k y, x = .ref l ∧ vs = [.int i] ∧ H l = some (.lst xs) ∧ -(2 ^ 63) ≤ i ∧ i < 2 ^ 63 ∧ seqIndex? i xs.length = some k ∧ xs[k]? = some y ∧ Q y (upd H l (.lst (xs.eraseIdx k)))

def rReverse : V → List V → Hp → VK → Prop := fun x vs H Q => ∃ l xs, x = .ref l ∧ vs = [] ∧ H l = some (.lst xs) ∧ Q .non (upd H l (.lst xs.reverse))

def rClear : V → List V → Hp → VK → Prop := fun x vs H Q => ∃ l xs, x = .ref l ∧ vs = [] ∧ H l = some (.lst xs) ∧ Q .non (upd H l (.lst []))

/-! ### list + list, list += list, list * int -/
def rCat : R2 := fun x y H Q => ∃ l b xs zs, x = .ref l ∧ y = .ref b ∧ H l = some (.lst xs) ∧ H b = some (.lst zs) ∧ xs.length + zs.length ≤ sizeLine ∧ ∀ p, H p = none → Q (.ref p) (upd H p (.lst (xs ++ zs)))
theorem op_cat : OpR X (binaryOp .Add) rCat := by
  intro pins s σ H x y v u Q I rx ry h
  obtain ⟨l, b, xs, zs, rfl, rfl, hH, hB, hz, q⟩ := h
  cases rx
  cases ry
  obtain ⟨z, its, n, r, hl, e⟩ := I.lstM hH
  obtain ⟨z2, its2, n2, r2, hl2, e2⟩ := I.lstM hB
  refine PySem.P.add_list e e2 ?_ (by rw [List.size_toArray, List.size_toArray]; omega)
  have ea : its.toArray ++ its2.toArray = (its ++ its2).toArray := by simp
  rw [ea]
  exact ⟨.ref _, _, I.lnew (t' := s.toks) (r.append r2) (by rw [List.length_append]; omega), rfl, q _ I.fresh⟩
/-- a list times an int (a negative one is nothing) -/
def rRep : R2 := fun x y H Q => ∃ l k xs, x = .ref l ∧ y = .int k ∧ H l = some (.lst xs) ∧ -(2 ^ 63) ≤ k ∧ k < 2 ^ 63 ∧ xs.length * k.toNat ≤ sizeLine ∧
  ∀ p, H p = none → Q (.ref p) (upd H p (.lst (List.replicate k.toNat xs).flatten))

/-! ### del xs[i] -/
end

/-! ### xs[a:b] = ys -/
section
variable {prog : Program} {w : World} {A : Around} {E : Value → Shared → Prop} {s : Shared}
set_option maxRecDepth 100000 in
end

section
variable {X : Cx}
end
end L2

namespace Att
open PySem PySem.W PySem.Calls PyProof.Rows

/-! ### the script -/
theorem ints_of_wellAll {P : Params} {h : Heap} : ∀ (ns : List Int) (vs : List Value), WellAll P h vs (ns.map WData.int) → IntsAre vs ns := by
  intro ns
  induction ns with
  | nil =>
    intro vs w
    rw [List.map_nil] at w
    cases w
    exact .nil
  | cons n ns ih =>
    intro vs w
    rw [List.map_cons] at w
    cases w with
    | cons a b =>
      cases a
      exact .cons _ _ (ih _ b)

theorem script_of {l : OpenLaw} {n : Nat} (hn : l.most = some n) {P : Params} {h : Heap} {args : List WData} {vals : List Value}
    (hpre : l.row.toRowW.claim.pre args = true) (hwl : WellAll P h vals args) :
    ∃ a vs ns, vals = [Value.ref a] ∧ args = [WData.list (ns.map WData.int)] ∧ h.get? a = some { cls := .type "list", data := .seq vs.toArray } ∧ IntsAre vs ns ∧ ns.length ≤ n := by
  have hsh : WShape.hasAll [] args [.list .int] = true := (pre_splitW hpre).1
  have hc : l.pre.holds [] { args := args } = true := (pre_splitW hpre).2
  obtain ⟨d, r, rfl, h1, h2⟩ := hasAllW_cons hsh
  obtain rfl := hasAllW_nil h2
  obtain ⟨xs, rfl, h3⟩ := hasW_list h1
  obtain ⟨ns, rfl⟩ := items_int h3
  have hlen : ns.length ≤ n := by
    unfold OpenLaw.pre at hc
    have h4 : (WTm.not (.lt (.lit (.int (n : Int))) (.len (.arg 0)))).holds [] { args := [.list (ns.map .int)] } = true := by
      have h4 := (holds_andW hc).1
      rw [hn] at h4
      exact h4
    have h5 := condW_of h4 (w_not (w_lt w_lit (w_len_list (w_arg rfl))))
    rw [List.length_map] at h5
    refine Nat.le_of_not_lt fun q => ?_
    have q' : (n : Int) < ((ns.length : Nat) : Int) := by omega
    first
      | (rw [decide_eq_true q'] at h5; exact absurd h5 (by decide))
      | (simp at h5; omega)
  cases hwl with
  | cons w1 w2 =>
    cases w2
    cases w1 with
    | list ho hall => exact ⟨_, _, ns, rfl, rfl, ho, ints_of_wellAll ns _ hall, hlen⟩

theorem post_true (l : OpenLaw) (args : List WData) : l.row.toRowW.claim.post args (.bool true) args = true :=
  postW_of (r := l.row.toRowW) (X := (true == true))
    (show WShape.has [] (.bool true) .bool = true by first | rfl | decide | simp [WShape.has, WShape.arms, WShape.armsAll])
    (show (WTm.eq .res (.lit (.bool true))).value [] { args := args, res := some (.bool true), after := args } = some (.bool (true == true)) from w_eq_bool (w_res rfl) w_lit) rfl

/-! ### the attachment: holds_open's last premise (the goal 'hc' behind k_head) from a wpAny of the law's body -/

/-- the same from a codeAny of the CALL (for a layer whose function contracts speak of calls) -/
theorem attach_call {l : OpenLaw} {n : Nat} {q : Program} {loose : List Str} {XP : (Str → Option Value) → Heap → Prop} {YP : World → Heap → Prop} {d : DefRec}
    (hn : l.most = some n) (hdf : d.params.defaults = [])
    (call : ∀ (w : World) (s₀ s₁ : Shared) (mg mb : Str → Option Value) (fa : Addr) (o : Obj) (pm cd doc : Value) (a : Addr) (vs : List Value) (ns : List Int),
      Ground q loose [] XP w s₀ mg mb s₁.heap → YP w s₁.heap →
      s₁.heap.get? fa = some o → o.data = .func (docDef d.name d.params d.body d.scope pm cd doc) → s₁.heap.CodeRec cd d.name → mg d.name = some (.ref fa) →
      s₁.heap.get? a = some { cls := .type "list", data := .seq vs.toArray } → IntsAre vs ns → ns.length ≤ n → s₁.gens = #[] →
      codeAny (model l.prog w) callerA (.call (.ref fa) ⟨[.ref a], []⟩) (fun r s' => r = .ok (.ret (.bool true)) ∧ OldK s₁.heap s'.heap ∧ s'.os = s₁.os ∧ AllBare s'.gens) s₁) :
    WalkO q loose XP YP l.row.toRowW d [] (fun f vs => PySem.call f vs) := by
  intro w s₀ s₁ mg mb G Y fa o pm cd doc dV kV ho hd hcd hD hmg hg args vals as hpre hlay hrd hwl hlo
  obtain rfl : dV = .none := Dflts.none hD hdf
  obtain rfl : kV = .none := Dflts.noKw hD
  obtain ⟨a, vs, ns, rfl, rfl, hobj, hints, hlen⟩ := script_of hn hpre hwl
  refine enter_call (codeAny_mono (call w s₀ s₁ mg mb fa o pm cd doc a vs ns G Y ho (fd_plain hd) hcd hmg hobj hints hlen hg) fun r s' hq => ?_)
  obtain ⟨rfl, h2, h3, h4⟩ := hq
  exact ⟨.inl ⟨.bool true, .bool true, [], rfl, fun _ => rfl, .bool true, post_true l _, fun _ => ⟨List.Pairwise.nil, fun _ hm => (nomatch hm)⟩⟩, h2, h3, h4⟩


/-! ### rules over ANY heap (no ledger) from facts about the written part K: the library's own take a ledger (News) for what they write -/
section
variable {prog : Program} {w : World} {A : Around} {E : Value → Shared → Prop} {s : Shared} {K : Frag}





/-! the whole heap as the ledger: makes every rule that writes through a ledger a rule over any heap -/
def noObjs (h : Heap) : Heap := { h with objs := #[] }
def ledger (h : Heap) (L d : Addr) : List (Addr × Obj) := (List.range h.objs.size).filterMap fun a => if a = L ∨ a = d then none else (h.get? a).map fun o => (a, o)

end
end Att

namespace L2
open PySem PySem.Spec PyProof.Rows

theorem vals_ints : ∀ {vs : List Value} {ns : List Int}, IntsAre vs ns → Vals (ns.map V.int) vs
  | _, _, .nil => .nil
  | _, _, .cons n t h => .cons ⟨t, rfl⟩ (vals_ints h)

/-- nothing is tracked but the script, known to the object (or it is an object of the module) -/
def Only (H : Hp) : Prop := ∀ b, H b = none ∨ ∃ o xs, H b = some (.frz o (.lst xs))

/-- THE HEAD: the law's promise, at the heap behind the top. F, the promise of the law's def, may use that base is part of the heap (so K.In base, base.Ns mainGlobals mg stand in Mod) -/
theorem law_call {P : Program} {w : World} {K : PySem.W.Frag} {mg mb : Str → Option Value} {CX : CXT} {k : Nat} {fa a : Addr} {fd : FuncData} {x : Str} {sp : Sp} {s₁ : Shared} {vs : List Value} {ns : List Int}
    (KX : K.In s₁.heap) (hns : s₁.heap.Ns mainGlobals mg) (hb : s₁.heap.Ns builtinsNs mb) (hbb : ∀ x : Str, x ≠ "__name__" → mb x = bootBuiltins x) (hlim : s₁.heap.NoLimit) (hg : s₁.gens = #[])
    (ha : s₁.heap.get? a = some { cls := .type "list", data := .seq vs.toArray }) (hi : IntsAre vs ns) (hl : ns.length ≤ sizeLine) (hr : Room k callerA)
    (F : ∀ base : Heap, K.In base → base.Ns mainGlobals mg → FnOk P w K mg base CX k fa fd [x] sp) (hbind : ∀ (s : Shared) (u : Value), BindsTo s fd ⟨[u], []⟩ [(x, u)])
    (hsp : ∀ H : Hp, Only H → SqL K H a (ns.map V.int) → sp [.ref a] H (fun v _ => v = .bl true) fun _ _ _ => False)
    (hCX : ∀ H e s', CX [] H s₁ (fun _ _ _ => False) e s' → False) :
    codeAny (model P w) callerA (.call (.ref fa) ⟨[.ref a], []⟩) (fun r s' => r = .ok (.ret (.bool true)) ∧ OldK s₁.heap s'.heap ∧ s'.os = s₁.os ∧ AllBare s'.gens) s₁ := by
  have rv := vals_ints hi
  have lenV := hi.length
  -- from an abstract heap in which nothing but the script may be tracked
  have core : ∀ H : Hp, Only H → SqL K H a (ns.map V.int) → HOk P w H s₁.heap → (∀ b, H b ≠ none → b = a) → (H a ≠ none → K.lookup a = none) →
      codeAny (model P w) callerA (.call (.ref fa) ⟨[.ref a], []⟩) (fun r s' => r = .ok (.ret (.bool true)) ∧ OldK s₁.heap s'.heap ∧ s'.os = s₁.os ∧ AllBare s'.gens) s₁ := by
    intro H hO hS hok hA hK
    have base_of : ∀ {b : Addr} {o : Obj}, s₁.heap.get? b = some o → H b = none → (hidT s₁.heap H).get? b = some o := fun e n => hidT_get e n
    have noA : ∀ {b : Addr} {o : Obj} {es : Array DictEntry} {ep : Nat}, s₁.heap.get? b = some o → o.data = .dict es ep → H b = none := fun {b o es ep} e d => by
      cases q : H b with
      | none => rfl
      | some u =>
        have e' : b = a := hA b (by rw [q]; simp)
        subst e'
        rw [ha] at e; cases e
        have d' : Data.seq vs.toArray _ = Data.dict es ep := d
        cases d'
    have nsK : ∀ {b : Addr} {m : Str → Option Value}, s₁.heap.Ns b m → (hidT s₁.heap H).Ns b m := fun {b m} ⟨o, es, ep, e, d, r⟩ => ⟨o, es, ep, base_of e (noA e d), d, r⟩
    have hKb : K.In (hidT s₁.heap H) := fun b o e => base_of (KX b o e) (by
      cases q : H b with
      | none => rfl
      | some u =>
        have e' : b = a := hA b (by rw [q]; simp)
        subst e'
        rw [hK (by rw [q]; simp)] at e; cases e)
    have hM : Mod K mg (hidT s₁.heap H) := ⟨hKb, nsK hns, ⟨mb, nsK hb, hbb⟩, let ⟨mc, h1, h2⟩ := hlim; ⟨mc, nsK h1, h2⟩⟩
    have e0 : Env0 P w K mg (hidT s₁.heap H) callerA [] s₁ H := ⟨rfl, hM, fun b o e => of_hidT e, Nat.le_of_eq (hidT_size _ _), trivial, fun b hb => absurd (show b ∈ ([] : List Addr) from hb) (by simp), hok, .of_eq hg⟩
    refine codeAny_mono ((F _ hKb (nsK hns)).run callerA [] s₁ H ⟨[.ref a], []⟩ [.ref a] [.ref a] _ _ hr e0 (hbind s₁ (.ref a)) (.cons rfl .nil) (hsp H hO hS)) fun r s' h => ?_
    cases r with
    | error e => exact (hCX H e s' h).elim
    | ok fl =>
      cases fl with
      | next => exact False.elim h
      | brk => exact False.elim h
      | cont => exact False.elim h
      | ret u =>
        obtain ⟨v, H', os, bare, un, hok', r', q⟩ := h
        have q' : v = .bl true := q
        subst q'
        obtain rfl : u = Value.bool true := r'
        refine ⟨rfl, OldK.of_keep fun b o e => ?_, os, bare⟩
        cases q : H b with
        | none => exact un.keep b o e q (by intro z; exact absurd (show b ∈ ([] : List Addr) from z) (by simp)) (by simp)
        | some u =>
          rcases hO b with z | ⟨ob, xs, z⟩
          · rw [q] at z; cases z
          · have z2 := un.frzs b ob _ z
            obtain ⟨e1, _⟩ := hok b _ z
            obtain ⟨e2, _⟩ := hok' b _ z2
            rw [e] at e1; cases e1
            exact e2
  cases hk : K.lookup a with
  | some o =>
    -- the script is one of the module's own objects
    have e := KX a o hk
    rw [ha] at e
    cases e
    refine core (fun _ => none) (fun _ => .inl rfl) (.inr ⟨_, vs.toArray, _, hk, rfl, rfl, rfl, by rw [List.size_toArray, lenV]; exact hl, by simpa using rv⟩) (fun b u z => by have z' : (none : Option HO) = some u := z; cases z') (fun b z => absurd rfl z) fun z => absurd rfl z
  | none =>
    refine core (fun b => if b = a then some (.frz { cls := .type "list", data := .seq vs.toArray } (.lst (ns.map V.int))) else none) (fun b => ?_) (.inl (.inr ⟨{ cls := .type "list", data := .seq vs.toArray }, if_pos rfl⟩)) (fun b u z => ?_) (fun b z => ?_) fun _ => hk
    · by_cases hb : b = a
      · exact .inr ⟨_, _, if_pos hb⟩
      · exact .inl (if_neg hb)
    · by_cases hb : b = a
      · have z' := (if_pos hb).symm.trans z
        cases z'
        subst hb
        exact ⟨ha, by rw [List.length_map]; exact hl, vs, _, rv, ha⟩
      · have z' := (if_neg hb).symm.trans z
        cases z'
    · by_cases hb : b = a
      · exact hb
      · exact absurd (if_neg hb) z
end L2

namespace L2
open PySem PySem.Spec PyProof.Rows

abbrev KOf {K : PySem.W.Frag} {h : Heap} (_ : K.In h) : PySem.W.Frag := K

/-- the goal that k_head leaves (case hc), from the law's promise. F gives the function object fd (K's own) once, then the promise over every base -/
theorem walk_of {l : PySem.W.OpenLaw} {n k : Nat} {q : Program} {loose : List Str} {XP : (Str → Option Value) → Heap → Prop} {YP : World → Heap → Prop} {d : DefRec} {K : Params → PySem.W.Frag} {CX : World → CXT} {sp : World → Sp} {x : Str}
    (hn : l.most = some n) (hn2 : n ≤ sizeLine) (hdf : d.params.defaults = []) (hr : Room k callerA)
    (hY : ∀ (w : World) (h : Heap), YP w h → (K w.params).In h)
    (F : ∀ (w : World) (mg : Str → Option Value) (fa : Addr) (h : Heap), (K w.params).In h → h.Ns mainGlobals mg → mg d.name = some (.ref fa) →
      ∃ fd : FuncData, (∀ (s : Shared) (u : Value), BindsTo s fd ⟨[u], []⟩ [(x, u)]) ∧
        ∀ base : Heap, (K w.params).In base → base.Ns mainGlobals mg → FnOk l.prog w (K w.params) mg base (CX w) k fa fd [x] (sp w))
    (hsp : ∀ (w : World) (H : Hp) (a : Addr) (ns : List Int), ns.length ≤ n → Only H → SqL (K w.params) H a (ns.map V.int) → sp w [.ref a] H (fun v _ => v = .bl true) fun _ _ _ => False)
    (hCX : ∀ (w : World) (H : Hp) (s : Shared) (e : Value) (s' : Shared), CX w [] H s (fun _ _ _ => False) e s' → False) :
    PySem.W.WalkO q loose XP YP l.row.toRowW d [] (fun f vs => PySem.call f vs) := by
  refine Att.attach_call hn hdf fun w s₀ s₁ mg mb fa o pm cd doc a vs ns G Y ho hd hcd hmg hobj hints hlen hg => ?_
  have KX := hY w _ Y
  obtain ⟨fd, hb, hF⟩ := F w mg fa _ KX G.T.g hmg
  exact law_call KX G.T.g G.T.b G.T.builtins G.T.nolimit hg hobj hints (Nat.le_trans hlen hn2) hr hF hb (fun H hO hS => hsp w H a ns hlen hO hS) fun H e s' => hCX w H s₁ e s'
/-- the same where the promise hangs on the written part alone: (sp := My.sp_law), no hole under a binder -/
theorem walk_ofK {l : PySem.W.OpenLaw} {n k : Nat} {q : Program} {loose : List Str} {XP : (Str → Option Value) → Heap → Prop} {YP : World → Heap → Prop} {d : DefRec} {K : Params → PySem.W.Frag} {CX : CXT} {sp : PySem.W.Frag → Sp} {x : Str}
    (hn : l.most = some n) (hn2 : n ≤ sizeLine) (hdf : d.params.defaults = []) (hr : Room k callerA)
    (hY : ∀ (w : World) (h : Heap), YP w h → (K w.params).In h)
    (F : ∀ (w : World) (mg : Str → Option Value) (fa : Addr) (h : Heap), (K w.params).In h → h.Ns mainGlobals mg → mg d.name = some (.ref fa) →
      ∃ fd : FuncData, (∀ (s : Shared) (u : Value), BindsTo s fd ⟨[u], []⟩ [(x, u)]) ∧
        ∀ base : Heap, (K w.params).In base → base.Ns mainGlobals mg → FnOk l.prog w (K w.params) mg base CX k fa fd [x] (sp (K w.params)))
    (hsp : ∀ (K : PySem.W.Frag) (H : Hp) (a : Addr) (ns : List Int), ns.length ≤ n → Only H → SqL K H a (ns.map V.int) → sp K [.ref a] H (fun v _ => v = .bl true) fun _ _ _ => False)
    (hCX : ∀ (H : Hp) (s : Shared) (e : Value) (s' : Shared), CX [] H s (fun _ _ _ => False) e s' → False) :
    PySem.W.WalkO q loose XP YP l.row.toRowW d [] (fun f vs => PySem.call f vs) :=
  walk_of (K := K) (CX := fun _ => CX) (sp := fun w => sp (K w.params)) hn hn2 hdf hr hY F (fun w H a ns h1 h2 h3 => hsp (K w.params) H a ns h1 h2 h3) fun _ H s e s' => hCX H s e s'
end L2

/- THE LAST THEOREM (shape; LID, My.* are yours):
   My.Adr: a structure of the addresses that your layer names (classes, functions); My.Txt K t: a structure (Prop) of the equations over K;
   My.txt_mk : {K} {implicit addresses ..} (e1 : nsIn K mainGlobals "law" = some (some (.ref f))) (e2 : K.lookup f = some ⟨oc, od, .func (fnOf "law" "law" params body scope dV kV doc pm an cdv ct), sl⟩) (e3 : codeIn K cdv "law" = true) .. : ∃ t, My.Txt K t

set_option maxRecDepth 100000 in
set_option maxHeartbeats 0 in
theorem PySem.Challenge.cw_LID_holds : PySem.Challenge.rw_LID.Holds := by
  w_on; o_law; k_head; (case hw => w_witness2)
  k_fill
  refine L2.walk_of (l := PySem.Challenge.rw_LID) (n := 63) (k := 40) (x := "script") (CX := fun w => ..) (sp := fun _ => My.sp_law) rfl (by decide) rfl ⟨rfl, by decide, by decide⟩ (fun w h Y => PySem.W.kIn_of Y) ?F ?S ?C
  case F =>
    intro w mg fa h KX G hmg
    have T : ∃ t, My.Txt (L2.KOf KX) t := by
      dsimp only [L2.KOf]                          -- K must stand as «<heap const> w.params» for k_is
      refine' My.txt_mk ?e1 ?e2 ?e3 ..
      (case e1 => PySem.W.k_is)                    -- in the order: a name -> its address -> its object -> its parts
      (case e2 => PySem.W.k_is)
      ..
    obtain ⟨t, T⟩ := T
    have e0 := hmg.symm.trans (PySem.W.mg_of KX G T.law)
    cases e0                                       -- fa is the law's own address
    exact ⟨_, fun s u => .of_eq rfl, fun base kb nb => My.law_fn T kb nb⟩     -- if «.of_eq rfl» comes too early: refine' ⟨_, ?b, fun base kb nb => My.law_fn T kb nb⟩; exact fun s u => .of_eq rfl
  case S => exact fun w H a ns hl hO hS => ..
  case C => exact ..
(the tactic k_is has no namespace: write k_is) -/

/-! SHORT WORDS over the layer: a def of the text, its body, what a loop and a test want. -/
namespace L2
open PySem PySem.Spec PyProof.Rows

/-! ### the text by places -/
/-- the j-th statement of a class's body -/
def inClass (s : Stmt) (j : Nat) : Stmt := match s with
  | .ClassDef _ _ _ body _ _ _ _ _ _ _ => body.getD j (.Pass ⟨0, 0, 0, 0⟩)
  | _ => .Pass ⟨0, 0, 0, 0⟩
def defArgs (s : Stmt) : Arguments := match s with
  | .FunctionDef _ a _ _ _ _ _ _ _ _ => a
  | _ => { posonlyargs := [], args := [], vararg := none, kwonlyargs := [], kw_defaults := [], kwarg := none, defaults := [] }
def defBody (s : Stmt) : List Stmt := match s with
  | .FunctionDef _ _ b _ _ _ _ _ _ _ => b
  | _ => []
def defScope (s : Stmt) : Scope := match s with
  | .FunctionDef _ _ _ _ _ _ sc _ _ _ => sc
  | _ => { kind := .function, names := [], isGenerator := false, isCoroutine := false }

/-! ### no exception leaves a def -/
abbrev CX0 : CXT := fun _ _ _ _ _ _ => False
abbrev E0 : XK := fun _ _ _ => False
theorem pass0 {X : Cx} : Passes CX0 X E0 := fun _ _ _ _ _ _ _ h => h.elim

/-! ### a def (or method) of the text as it stands behind the top -/
structure Fun (K : PySem.W.Frag) (x qual : Str) (st : Stmt) (f : Addr) (fd : FuncData) : Prop where
  ex : ∃ (oc : Value) (od : Option Addr) (kV doc pm : Value) (an : Option Addr) (cdv ct : Value) (osl : Array (Option Value)),
    fd = PySem.W.fnOf x qual (defArgs st) (defBody st) (defScope st) .none kV doc pm an cdv ct ∧ K.lookup f = some ⟨oc, od, .func fd, osl⟩ ∧ PySem.W.codeIn K cdv qual = true
  kp : PySem.W.keepIn K (.ref f) = true
section
variable {P : Program} {w : World} {K : PySem.W.Frag} {mg : Str → Option Value} {base : Heap}
/-- THE RULE for a def: its body as a term of rules, and the reading of that term -/
theorem Fun.ok {x qual : Str} {st : Stmt} {f : Addr} {fd : FuncData} {N ps : List Str} {k : Nat} {sp : Sp} (F : Fun K x qual st f fd) (S : FnScope N ps (defScope st)) (len : ∀ vs H Q E, sp vs H Q E → vs.length = ps.length)
    (hbody : ∀ (cdv : Value) (A : Around) (outer : List Env) (s : Shared) (H : Hp) (vs : List V) (Q : VK) (E : XK), Room k (A.deeper (envOfC qual (defScope st) s.heap.objs.size f cdv)) → sp vs H Q E →
      ∃ t, PSs (cxOf CX0 P w K mg base N qual (defScope st) f cdv A outer s H E).nox (defBody st) t ∧ t { nx := fun _ H' => Q .non H', rt := Q } (start N vs) H) : FnOk P w K mg base CX0 (k + 1) f fd ps sp := by
  obtain ⟨oc, od, kV, doc, pm, an, cdv, ct, osl, rfl, lk, hcd⟩ := F.ex
  refine fn_of lk hcd S len fun A outer s H vs Q E hr hsp => ?_
  obtain ⟨t, h, q⟩ := hbody cdv A outer s H vs Q E hr hsp
  exact ⟨t, h.nox, q⟩
/-- how its arguments bind (no defaults): h is «fun _ _ _ _ _ _ us hl => match us, hl with | [_, _], _ => rfl», one _ a parameter -/
theorem Fun.binds {x qual : Str} {st : Stmt} {f : Addr} {fd : FuncData} {ps : List Str} (F : Fun K x qual st f fd)
    (h : ∀ (kV doc pm : Value) (an : Option Addr) (cdv ct : Value) (us : List Value), us.length = ps.length → bindArgs (PySem.W.fnOf x qual (defArgs st) (defBody st) (defScope st) .none kV doc pm an cdv ct) ⟨us, []⟩ = pure (ps.zip us)) : Binds K fd ps [] := by
  obtain ⟨oc, od, kV, doc, pm, an, cdv, ct, osl, rfl, lk, hcd⟩ := F.ex
  exact .all (h kV doc pm an cdv ct)
theorem fun_mk {x qual : Str} {st : Stmt} {f : Addr} {oc : Value} {od an : Option Addr} {osl : Array (Option Value)} {kV doc pm cdv ct : Value} (l : K.lookup f = some ⟨oc, od, .func (PySem.W.fnOf x qual (defArgs st) (defBody st) (defScope st) .none kV doc pm an cdv ct), osl⟩)
    (c : PySem.W.codeIn K cdv qual = true) (k : PySem.W.keepIn K (.ref f) = true) : Fun K x qual st f (PySem.W.fnOf x qual (defArgs st) (defBody st) (defScope st) .none kV doc pm an cdv ct) := ⟨⟨oc, od, kV, doc, pm, an, cdv, ct, osl, rfl, l, c⟩, k⟩
end
theorem hu_of {A : Around} {k : Nat} (hr : Room k A) : A.units + 1 < cLine := Nat.lt_of_le_of_lt (Nat.add_le_add_left (by decide : 1 ≤ 64) _) hr.units
theorem small1000 {n : Nat} (h : n ≤ 1000) : n < sizeLine := Nat.lt_of_le_of_lt h (by decide)

/-! ### expressions in short: the name that stands in the i-th slot -/
section
variable {X : Cx}
theorem pv (i : Nat) {x : Str} {pos : Pos} (hN : X.N[i]? = some x := by rfl) (hv : Vis X.env.scope x := by first | exact Or.inl rfl | exact Or.inr (Or.inl rfl) | exact Or.inr (Or.inr rfl)) (hd : (x == ("__debug__" : Str)) = false := by decide)
    (hcd : (x == ("__classdict__" : Str)) = false := by decide) : PE X (.Name x pos) (tVar i) := pe_var hN hv hd hcd
end

/-! ### tests -/
theorem iteF {A B : Prop} (h : B) : if false = true then A else B := by
  rw [if_neg Bool.false_ne_true]
  exact h
theorem iteT {A B : Prop} (h : A) : if true = true then A else B := by
  rw [if_pos rfl]
  exact h
theorem ite2 {c A B : Prop} [Decidable c] (h1 : c → A) (h2 : ¬ c → B) : if c then A else B := by
  by_cases h : c
  · rw [if_pos h]
    exact h1 h
  · rw [if_neg h]
    exact h2 h

/-! ### heaps -/
/-- all that was tracked is as it was -/
def Same (H H' : Hp) : Prop := ∀ b o, H b = some o → H' b = some o
theorem Same.refl (H : Hp) : Same H H := fun _ _ h => h
theorem Same.trans {H H1 H2 : Hp} (a : Same H H1) (b : Same H1 H2) : Same H H2 := fun c o h => b c o (a c o h)
theorem Same.free {H H' : Hp} (e : Same H H') {l : Addr} (h : H' l = Option.none) : H l = Option.none := by
  cases q : H l with
  | none => rfl
  | some o =>
    rw [e l o q] at h
    cases h
theorem Same.seq {K : PySem.W.Frag} {H H' : Hp} {a : Addr} {xs : List V} (e : Same H H') (h : SqL K H a xs) : SqL K H' a xs := by
  rcases h with (h | ⟨o, h⟩) | h
  · exact .inl (.inl (e _ _ h))
  · exact .inl (.inr ⟨o, e _ _ h⟩)
  · exact .inr h

end L2

set_option Elab.async false
set_option maxRecDepth 100000
namespace L2
open PySem PySem.Spec PyProof.Rows
def closOf (cells : List (Str × Addr)) : List (Str × NameKind) → List (Str × Addr) → List (Str × Addr)
  | [], acc => acc
  | (n, k) :: r, acc => closOf cells r (if k == .free then (n, (cells.lookup n).getD 0) :: acc else acc)
theorem closureFor_of {scope : Scope} {env : Env} (h : ∀ x ∈ scope.names, x.2 = .free → ∃ c, env.cells.lookup x.1 = some c) : closureFor scope env = pure (closOf env.cells scope.names []) := by
  unfold closureFor
  generalize hn : scope.names = names at h ⊢
  clear hn
  generalize ([] : List (Str × Addr)) = acc
  induction names generalizing acc with
  | nil => simp [closOf]
  | cons x r ih =>
    obtain ⟨n, k⟩ := x
    have ih' := fun a => ih (fun x hx => h x (List.mem_cons_of_mem _ hx)) a
    simp only [List.forIn_cons, bind_pure] at ih' ⊢
    by_cases hk : k = .free
    · obtain ⟨c, hc⟩ := h (n, k) List.mem_cons_self hk
      subst hk
      have hcl : cellOf env n = pure c := by simp only [cellOf, hc]
      simp only [beq_self_eq_true, if_true, hcl, hc, pure_bind, closOf, Option.getD_some]
      simpa using ih' _
    · have hb : (k == NameKind.free) = false := by simpa using hk
      simp only [hb, Bool.false_eq_true, if_false, pure_bind, closOf]
      simpa using ih' _
theorem closOf_look {cells : List (Str × Addr)} {y : Str} {c : Addr} : ∀ {names : List (Str × NameKind)} {acc : List (Str × Addr)}, (∀ x ∈ names, x.2 = .free → ∃ c, cells.lookup x.1 = some c) → (acc.lookup y = some c → cells.lookup y = some c) →
    (closOf cells names acc).lookup y = some c → cells.lookup y = some c
  | [], _, _, ha, e => ha e
  | (n, k) :: r, acc, h, ha, e => by
    unfold closOf at e
    refine closOf_look (names := r) (fun x hx => h x (List.mem_cons_of_mem _ hx)) (fun e' => ?_) e
    by_cases hk : k = .free
    · obtain ⟨d, hd⟩ := h (n, k) List.mem_cons_self hk
      subst hk
      simp only [beq_self_eq_true, if_true, hd, Option.getD_some, List.lookup_cons] at e'
      cases q : y == n with
      | true =>
        rw [q] at e'
        have : y = n := by simpa using q
        subst this
        exact hd.trans e'
      | false => rw [q] at e'; exact ha e'
    · have hb : (k == NameKind.free) = false := by simpa using hk
      simp only [hb, Bool.false_eq_true, if_false] at e'
      exact ha e'
theorem closOf_has {cells : List (Str × Addr)} {y : Str} : ∀ {names : List (Str × NameKind)} {acc : List (Str × Addr)}, ((y, NameKind.free) ∈ names ∨ ∃ c, acc.lookup y = some c) → ∃ c, (closOf cells names acc).lookup y = some c
  | [], _, h => by simpa [closOf] using h
  | (n, k) :: r, acc, h => by
    unfold closOf
    refine closOf_has (names := r) ?_
    rcases h with h | ⟨c, h⟩
    · rcases List.mem_cons.mp h with e | e
      · cases e
        right
        simp
      · exact .inl e
    · right
      by_cases hk : (k == NameKind.free) = true
      · rw [if_pos hk, List.lookup_cons]
        cases y == n
        · exact ⟨c, h⟩
        · exact ⟨_, rfl⟩
      · rw [if_neg hk]
        exact ⟨c, h⟩
end L2

set_option Elab.async false
set_option maxRecDepth 100000
namespace L2
open PySem PySem.Spec PyProof.Rows
/-! ### list comprehensions (one clause, at most one test) -/
def PTs (X : Cx) (ifs : List Expr) (t : TT) : Prop :=
  ∀ (pins : List (Addr × Obj)) (s : Shared) (σ : St) (H : Hp) (Q : Bool → Hp → Prop), Inv X pins σ H s → t σ H Q →
    wpAny (model X.prog X.w) X.A (forIn ifs true fun c r => if r = true then do let ok ← isTrue c X.env (eval c X.env); pure (ForInStep.yield ok) else pure (ForInStep.yield r)) (TP X pins σ Q) X.xe s
def tTrue : TT := fun _ H Q => Q true H
theorem pts_nil {X : Cx} : PTs X [] tTrue := fun _ _ _ H _ I h => wpAny_tests_nil ⟨H, I, h⟩

/-- the context of a comprehension's block -/
def Cx.block (X : Cx) (scope : Scope) (N : List Str) (s : Shared) (H : Hp) (fp : List Addr) : Cx where
  prog := X.prog
  w := X.w
  K := X.K
  mg := X.mg
  base := X.base
  A := X.A
  N := N
  s₀ := s
  H₀ := H
  env := compEnvC scope (closOf X.env.cells scope.names []) s.heap.objs.size X.env
  outer := X.stack
  stack := X.stack
  ex := fp
  fn := fun _ => false
  calm := X.calm
  pn := []
  xe := fun _ _ => False

def isCl : Option NameKind → Bool
  | some .cell => true
  | some .free => true
  | _ => false
theorem isCl_iff {k : Option NameKind} (h : isCl k = true) : k = some .cell ∨ k = some .free := by
  unfold isCl at h
  split at h
  · exact .inl rfl
  · exact .inr rfl
  · cases h
/-- what a comprehension's scope must be, over the context -/
structure CompOk (X : Cx) (scope : Scope) (N : List Str) (cap : List (Option Nat)) : Prop where
  kind : scope.kind = .function
  nocell : (scope.names.all fun y => !(y.2 == .cell)) = true
  loc : (scope.names.all fun y => !(y.2 == .local) || (scope.names.lookup y.1 == some .local)) = true
  fre : (scope.names.all fun y => !(y.2 == .free) || isCl (X.env.kindOf y.1)) = true
  len : cap.length = N.length
  cap : ((cap.zip N).all fun p => match p.1 with | none => true | some j => (X.N[j]? == some p.2) && isCl (X.env.kindOf p.2) && isCl ((relabel scope X.env).names.lookup p.2)) = true
/-- the names' values at the block's entry -/
def capS (cap : List (Option Nat)) (σ : St) : St := cap.map fun o => match o with | none => none | some j => (σ[j]?).join

section
variable {X : Cx} {pins : List (Addr × Obj)} {σ : St} {H : Hp} {s : Shared} {fp : List Addr} {scope : Scope} {N : List Str} {cap : List (Option Nat)}
theorem CompOk.freeH (c : CompOk X scope N cap) (ok : X.Ok) : ∀ x ∈ scope.names, x.2 = .free → ∃ a, X.env.cells.lookup x.1 = some a := fun x hx hf => by
  have := List.all_eq_true.mp c.fre x hx
  rw [hf] at this
  simp only [beq_self_eq_true, Bool.not_true, Bool.false_or] at this
  exact ok.has x.1 (isCl_iff this)
theorem relabel_look {scope : Scope} {env : Env} {y : Str} (h : (relabel scope env).names.lookup y = some .cell ∨ (relabel scope env).names.lookup y = some .free) (nc : ∀ z ∈ scope.names, z.2 ≠ .cell) : (y, NameKind.free) ∈ scope.names := by
  unfold relabel at h
  dsimp only at h
  generalize scope.names = names at h nc
  induction names with
  | nil => simp at h
  | cons z r ih =>
    obtain ⟨n, k⟩ := z
    have nc' : ∀ z ∈ r, z.2 ≠ .cell := fun z hz => nc z (List.mem_cons_of_mem _ hz)
    rw [List.map_cons, List.lookup_cons] at h
    have nck := nc (n, k) List.mem_cons_self
    dsimp only at h nck
    by_cases hc : (k == NameKind.free && env.scope.kind == .function && env.kindOf n == some .cell) = true
    · rw [if_pos hc] at h
      dsimp only at h
      have hk : k = .free := by
        simp only [Bool.and_eq_true, beq_iff_eq] at hc
        exact hc.1.1
      cases q : y == n with
      | true => rw [show y = n from by simpa using q, hk]; exact List.mem_cons_self
      | false => rw [q] at h; exact List.mem_cons_of_mem _ (ih h nc')
    · rw [if_neg hc] at h
      dsimp only at h
      cases q : y == n with
      | true =>
        rw [q] at h
        rcases h with h | h
        · cases h; exact absurd rfl nck
        · cases h; rw [show y = n from by simpa using q]; exact List.mem_cons_self
      | false => rw [q] at h; exact List.mem_cons_of_mem _ (ih h nc')
theorem CompOk.nc (c : CompOk X scope N cap) : ∀ z ∈ scope.names, z.2 ≠ .cell := fun z hz e => by
  have := List.all_eq_true.mp c.nocell z hz
  rw [e] at this
  exact absurd this (by decide)
theorem CompOk.lc (c : CompOk X scope N cap) : ∀ x ∈ scope.names, x.2 = .local → scope.names.lookup x.1 = some .local := fun x hx e => by
  have := List.all_eq_true.mp c.loc x hx
  rw [e] at this
  simpa using this
theorem block_ok (c : CompOk X scope N cap) (I : Inv X pins σ H s) (hf : ∀ b ∈ fp, FpOk X pins H b) (hlt : ∀ b ∈ fp, b < s.heap.objs.size) : (X.block scope N s H fp).Ok := by
  have lk : ∀ {y : Str} {a : Addr}, (closOf X.env.cells scope.names []).lookup y = some a → X.env.cells.lookup y = some a := fun e => closOf_look (c.freeH I.ok) (fun z => by simp at z) e
  refine ⟨I.ok.mod, c.kind, I.ok.glob, I.ok.blt, Nat.le_refl _, fun x y a h1 h2 => I.ok.inj x y a (lk h1) (lk h2), fun x hx => closOf_has (.inl (relabel_look hx c.nc)), fun x a h => absurd h (by simp [Cx.block]), I.ok.hd, I.ok.frames, .inl rfl, fun b hb => ⟨?_, fun x a h => (hf b hb).2.2.2.2.1 x a (lk h)⟩, I.bs, Nat.le_trans I.ok.bsz I.sz, fun b o e hb => ?_, fun b hb z => ?_, I.stack, I.stkFree⟩
  · exact Nat.ne_of_lt (hlt b hb)
  · rcases (hf b hb).2.2.2.1 with z | z
    · exact I.ok.noex b o e z
    · exact absurd (Nat.lt_of_lt_of_le (Heap.lt_size (I.ok.bs b o e).1) z) (Nat.lt_irrefl _)
  · rcases List.mem_cons.mp (I.stkSub b z) with e | e
    · exact (hf b hb).2.1 e
    · exact (hf b hb).2.2.1 e
theorem capS_get {i : Nat} {v : V} (h : (capS cap σ)[i]? = some (some v)) : ∃ j, cap[i]? = some (some j) ∧ σ[j]? = some (some v) := by
  unfold capS at h
  rw [List.getElem?_map] at h
  cases q : cap[i]? with
  | none => rw [q] at h; cases h
  | some o =>
    rw [q] at h
    cases o with
    | none => cases h
    | some j =>
      refine ⟨j, rfl, ?_⟩
      have h' : (σ[j]?).join = some v := Option.some.inj h
      cases q2 : σ[j]? with
      | none => rw [q2] at h'; cases h'
      | some o =>
        rw [q2] at h'
        have : o = some v := h'
        rw [this]
theorem block_inv (c : CompOk X scope N cap) (I : Inv X pins σ H s) (hf : ∀ b ∈ fp, FpOk X pins H b) (hlt : ∀ b ∈ fp, b < s.heap.objs.size) {h1 : Heap} {t1 : Nat} (hns : h1.Ns s.heap.objs.size (fun x => ([] : List (Str × Value)).reverse.lookup x))
    (hsb : Heap.SameBut s.heap.objs.size (s.heap.push { cls := .type (if (some X.env : Option Env).isSome then "dict" else "frame"), data := .dict #[] }) h1) : Inv (X.block scope N s H fp) [] (capS cap σ) H { s with heap := h1, toks := t1 } := by
  have lk : ∀ {y : Str} {a : Addr}, (closOf X.env.cells scope.names []).lookup y = some a → X.env.cells.lookup y = some a := fun e => closOf_look (c.freeH I.ok) (fun z => by simp at z) e
  have keep : ∀ b o, s.heap.get? b = some o → h1.get? b = some o := fun b o e => (hsb.2 b (Nat.ne_of_lt (Heap.lt_size e))).trans (Heap.get?_push_of_some _ e)
  have cellK : ∀ {a : Addr} {v : Option Value}, s.heap.IsCell a v → h1.IsCell a v := fun ⟨o, e, d⟩ => ⟨o, keep _ _ e, d⟩
  refine ⟨block_ok c I hf hlt, rfl, I.bare, Un.kept keep, ⟨_, hns, fun i x v h1 h2 h3 => ?_⟩, fun x a e => ?_, I.hok.fresh (Nat.le_refl _), fun x a e => I.freeC x a (lk e), fun p hp => absurd (show p ∈ ([] : List (Addr × Obj)) from hp) (by simp), I.hok.kept keep, ?_⟩
  · obtain ⟨j, hc, hs⟩ := capS_get h2
    have hN : N[i]? = some x := h1
    have hz : (cap.zip N)[i]? = some (some j, x) := by rw [List.getElem?_zip_eq_some]; exact ⟨hc, hN⟩
    have := List.all_eq_true.mp c.cap _ (List.mem_of_getElem? hz)
    simp only [Bool.and_eq_true, beq_iff_eq] at this
    obtain ⟨⟨e1, e2⟩, e3⟩ := this
    obtain ⟨m, hn, hl⟩ := I.loc
    have hk := isCl_iff e2
    obtain ⟨u, r, l⟩ := hl j x v e1 hs (by rcases hk with z | z; exact .inr (.inl z); exact .inr (.inr z))
    refine ⟨u, r, ?_⟩
    rcases l with ⟨l, _⟩ | ⟨_, a, ea, ca⟩
    · rw [l] at hk; rcases hk with z | z <;> cases z
    · have hk' := isCl_iff e3
      obtain ⟨a', ha'⟩ := closOf_has (cells := X.env.cells) (acc := []) (.inl (relabel_look hk' c.nc))
      have : a' = a := Option.some.inj ((lk ha').symm.trans ea)
      subst this
      exact .inr ⟨hk', a', ha', cellK ca⟩
  · obtain ⟨v, hv⟩ := I.cell x a (lk e)
    exact ⟨v, cellK hv⟩
  · unfold capS
    rw [List.length_map]
    exact c.len
end
end L2

set_option Elab.async false
set_option maxRecDepth 100000
namespace L2
open PySem PySem.Spec PyProof.Rows
theorem compLoop_go {prog : Program} {w : World} {A : Around} {R : Result → Shared → Prop} {s : Shared} {elt target iter : Expr} {ifs : List Expr} {scope : Scope} {pos : Pos} {it acc : Value} {env : Env} (J : Nat → Shared → Prop)
    (turn : ∀ n s, J n s → wpAny (model prog w) A (pyNext it) (fun r s₁ => match r with
      | none => R (.ok .next) s₁
      | some v => wpAny (model prog w) A (letOwnedTupleGo target it v) (fun _ s₀ => wpAny (model prog w) A (assign target env v) (fun _ s₂ =>
          wpAny (model prog w) A (forIn ifs true fun c r => if r = true then do let ok ← isTrue c env (eval c env); pure (ForInStep.yield ok) else pure (ForInStep.yield r)) (fun ok s₃ =>
            if ok = true then wpAny (model prog w) A (eval elt env) (fun x s₄ =>
              wpAny (model prog w) A (call (.builtin "list.append") [acc, x]) (fun _ s₅ => ∃ m, m < n ∧ J m s₅) (fun _ _ => False) s₄) (fun _ _ => False) s₃
            else ∃ m, m < n ∧ J m s₃) (fun _ _ => False) s₂) (fun _ _ => False) s₀) (fun _ _ => False) s₁) (fun _ _ => False) s)
    (n : Nat) (h : J n s) :
    codeAny (model prog w) A (.compLoop (.ListComp elt [⟨target, iter, ifs, 0⟩] scope pos) 0 it acc env) R s := by
  refine codeAny_loop rfl J (fun n s hI => ?_) n h
  show wpAny _ A ((compTurn (.ListComp elt [⟨target, iter, ifs, 0⟩] scope pos) 0 it acc env).onRaise (fun x => do noteFrame x env; theTreesLotGoes x)) _ _ s
  refine wpAny_noted ?_
  rw [compTurn_list]
  refine wpAny_bind (wpAny_standAt (wpAny_bind (wpAny_mono (turn n s hI) (fun r s₁ h₁ => ?_) fun _ _ h' => h'.elim)))
  cases r with
  | none => exact wpAny_pure h₁
  | some v =>
    refine wpAny_bind (wpAny_mono h₁ (fun _ s₀ h₀ => ?_) fun _ _ h' => h'.elim)
    refine wpAny_bind (wpAny_mono h₀ (fun _ s₂ h₂ => wpAny_bind (wpAny_mono h₂ (fun ok s₃ h₃ => ?_) fun _ _ h' => h'.elim)) fun _ _ h' => h'.elim)
    cases ok with
    | false => exact wpAny_pure ⟨rfl, h₃⟩
    | true =>
      exact wpAny_bind (wpAny_bind (wpAny_mono h₃ (fun x s₄ h₄ => wpAny_bind (wpAny_mono h₄ (fun _ s₅ h₅ => wpAny_pure (wpAny_pure ⟨rfl, h₅⟩)) fun _ _ h' => h'.elim)) fun _ _ h' => h'.elim))

/-- the reading of a comprehension: over each fresh place l for the list, a number of turns n and a word Pv (turn, items so far, the block's names, heap) -/
def tComp (wi : TI) (g : TG) (tt : TT) (te : TE) (cap : List (Option Nat)) : TE := fun σ H Q => wi σ H fun J H1 => ∀ l, H1 l = none →
  ∃ (n : Nat) (Pv : Nat → List V → St → Hp → Prop), Pv 0 [] (capS cap σ) (upd H1 l (.lst [])) ∧
    (∀ i ys σ' H', i < n → Pv i ys σ' H' → J.go i H' ∧ ∀ x H2, J.yld i H' x H2 → g x σ' H2 fun σ3 H3 => tt σ3 H3 fun b H4 =>
      if b = true then te σ3 H4 fun y H5 => H5 l = some (.lst ys) ∧ ys.length < sizeLine ∧ Pv (i + 1) (ys ++ [y]) σ3 (upd H5 l (.lst (ys ++ [y]))) else Pv (i + 1) ys σ3 H4) ∧
    ∀ ys σ' H', Pv n ys σ' H' → J.stop n H' ∧ Q (.ref l) H'

section
variable {X : Cx} {elt tg iter : Expr} {ifs : List Expr} {scope : Scope} {pos : Pos} {N : List Str} {cap : List (Option Nat)} {wi : TI} {g : TG} {tt : TT} {te : TE}
/-- the whole of it, up to what is done with the list: U is what is wanted where the block has ended, ahead of its variables' going -/
theorem comp_run {U : Value → Addr → Shared → Prop} (hc : X.calm = true) (c : CompOk X scope N cap) (hi : PI X tg iter wi) (hg : ∀ s H fp, PG (X.block scope N s H fp) tg g) (ht : ∀ s H fp, PTs (X.block scope N s H fp) ifs tt)
    (he : ∀ s H fp, PE (X.block scope N s H fp) elt te)
    {pins : List (Addr × Obj)} {s : Shared} {σ : St} {H : Hp} {Q : VK} (I : Inv X pins σ H s) (h : tComp wi g tt te cap σ H Q)
    (hU : ∀ (l C : Addr) (H' : Hp) (s' : Shared), Inv X pins σ H' s' → (∃ m, s'.heap.Ns C m) → FpOk X pins H' C → Q (.ref l) H' → U (.ref l) C s')
    {RR : Value → Addr → Result → Shared → Prop} (hRR : ∀ a C s', U a C s' → RR a C (.ok .next) s') :
    wpAny (model X.prog X.w) X.A (eval iter X.env) (fun x s₁ => wpAny (model X.prog X.w) X.A (pyIter x) (fun it s₂ => wpAny (model X.prog X.w) X.A (newList []) (fun acc s₃ =>
      wpAny (model X.prog X.w) X.A (newFunctionEnv scope X.env.globals (closOf X.env.cells scope.names []) [] X.env.qual none .none (some X.env)) (fun cenv s₄ =>
        codeAny (model X.prog X.w) X.A (.compStart (.ListComp elt [⟨tg, iter, ifs, 0⟩] scope pos) 0 it acc { cenv with scope := relabel scope X.env }) (RR acc cenv.locals) s₄) X.xe s₃) X.xe s₂) X.xe s₁) X.xe s := by
  refine thn (hi pins s σ H _ I h) fun v s1 h1 => thn h1 fun itv s2 h2 => ?_
  obtain ⟨it, fp, tn, J, H2, e, I2, T, st2, f2, hq⟩ := h2
  subst e
  have hl : H2 s2.heap.objs.size = none := I2.hok.fresh (Nat.le_refl _)
  obtain ⟨n, Pv, p0, step, fin⟩ := hq _ hl
  refine wpAny_newObj_type ?_ (by show 0 ≤ sizeLine; exact Nat.zero_le _)
  have I3 : Inv X pins σ (upd H2 s2.heap.objs.size (.lst [])) { s2 with heap := s2.heap.push { cls := .type "list", data := .seq ([] : List Value).toArray } } :=
    I2.laid (t' := s2.toks) (fun b u e => Heap.get?_push_of_some _ e) (Nat.le_refl _) ⟨Nat.zero_le _, [], _, .nil, Heap.get?_push_size _ rfl⟩
  generalize hs3 : ({ s2 with heap := s2.heap.push { cls := .type "list", data := .seq ([] : List Value).toArray } } : Shared) = s3 at I3 ⊢
  have k23 : ∀ b o, s2.heap.get? b = some o → s3.heap.get? b = some o := fun b o e => by rw [← hs3]; exact Heap.get?_push_of_some _ e
  have fplt2 : ∀ b ∈ fp, b < s2.heap.objs.size := fun b hb => let ⟨o, e, _⟩ := T.obj _ _ st2 b hb; Heap.lt_size e
  have sz23 : s2.heap.objs.size ≤ s3.heap.objs.size := by rw [← hs3]; show _ ≤ (s2.heap.push _).objs.size; rw [Heap.size_push]; exact Nat.le_succ _
  have fplt : ∀ b ∈ fp, b < s3.heap.objs.size := fun b hb => Nat.lt_of_lt_of_le (fplt2 b hb) sz23
  have f3 : ∀ b ∈ fp, FpOk X pins (upd H2 s2.heap.objs.size (.lst [])) b := fun b hb => ⟨by rw [upd_ne (Nat.ne_of_lt (fplt2 b hb))]; exact (f2 b hb).1, (f2 b hb).2⟩
  have st3 : tn 0 s3.heap := T.keep _ _ _ st2 fun b hb o e => k23 b o e
  refine wpAny_newFunctionEnv c.nc (by intro y hy; simp at hy) (fun h4 hns hsb => ?_) c.kind
  have I4 := block_inv (t1 := s3.toks + ([] : List (Str × Value)).length) c I3 f3 fplt hns hsb
  have st4 : tn 0 h4 := T.keep _ _ _ st3 fun b hb o e => (hsb.2 b (Nat.ne_of_lt (fplt b hb))).trans (Heap.get?_push_of_some _ e)
  generalize hY : X.block scope N s3 (upd H2 s2.heap.objs.size (.lst [])) fp = Y at I4
  have yP : Y.prog = X.prog := by rw [← hY]; rfl
  have yw : Y.w = X.w := by rw [← hY]; rfl
  have yK : Y.K = X.K := by rw [← hY]; rfl
  have yA : Y.A = X.A := by rw [← hY]; rfl
  have yx : Y.xe = fun _ _ => False := by rw [← hY]; rfl
  have yc : Y.calm = true := by rw [← hY]; exact hc
  have yex : Y.ex = fp := by rw [← hY]; rfl
  have yfs : Y.fs = frs X.stack := by rw [← hY]; rfl
  have yH : Y.H₀ = upd H2 s2.heap.objs.size (.lst []) := by rw [← hY]; rfl
  have ys : Y.s₀ = s3 := by rw [← hY]; rfl
  have yC : Y.env.locals = s3.heap.objs.size := by rw [← hY]; rfl
  have yenv : compEnvC scope (closOf X.env.cells scope.names []) s3.heap.objs.size X.env = Y.env := by rw [← hY]; rfl
  have yg := hg s3 (upd H2 s2.heap.objs.size (.lst [])) fp
  have yt := ht s3 (upd H2 s2.heap.objs.size (.lst [])) fp
  have ye := he s3 (upd H2 s2.heap.objs.size (.lst [])) fp
  have ypn : Y.pn = [] := by rw [← hY]; rfl
  have ycl : Y.env.cells = closOf X.env.cells scope.names [] := by rw [← hY]; rfl
  rw [hY] at yg yt ye
  have lk : ∀ {y : Str} {a : Addr}, Y.env.cells.lookup y = some a → X.env.cells.lookup y = some a := fun e => by rw [ycl] at e; exact closOf_look (c.freeH I.ok) (fun z => by simp at z) e
  have stat : ∀ {H' : Hp}, (∀ b ∈ fp, H' b = none) → ∀ b ∈ fp, FpOk Y [] H' b := fun hn b hb => by
    refine ⟨hn b hb, by rw [yC]; exact Nat.ne_of_lt (fplt b hb), ?_, .inl (by rw [yex]; exact hb), fun x a e => (f2 b hb).2.2.2.2.1 x a (lk e), fun p hp => ?_⟩
    · rw [yfs]
      intro z
      rcases List.mem_cons.mp (I2.stkSub b z) with e | e
      · exact (f2 b hb).2.1 e
      · exact (f2 b hb).2.2.1 e
    · rw [ypn] at hp
      exact absurd hp (by simp)
  -- the end
  have done : ∀ {σ' : St} {H' : Hp} {s' : Shared}, Inv Y [] σ' H' s' → Q (.ref s2.heap.objs.size) H' → U (.ref s2.heap.objs.size) s3.heap.objs.size s' := fun {σ' H' s'} J' q => by
    have un := J'.base
    rw [yfs, yex, yH, ys] at un
    have J3 := I3.call' (s' := s') (ch := fp) (by rw [J'.os, ys]) un (by have := J'.hok; rw [yP, yw] at this; exact this) J'.bare fun b hb => ⟨(f3 b hb).2.2.2.1, (f3 b hb).2.1, (f3 b hb).2.2.2.2.1, (f3 b hb).2.2.2.2.2⟩
    have hCn : H' s3.heap.objs.size = none := by have := J'.free; rw [yC] at this; exact this
    have hne : s3.heap.objs.size ≠ X.env.locals := Nat.ne_of_gt I3.lt
    have hcl : ∀ x a, X.env.cells.lookup x = some a → a ≠ s3.heap.objs.size := fun x a e => let ⟨_, o, ho, _⟩ := I3.cell x a e; Nat.ne_of_lt (Heap.lt_size ho)
    have hpn : ∀ p ∈ X.pn ++ pins, p.1 ≠ s3.heap.objs.size := fun p hp => Nat.ne_of_lt (Heap.lt_size (I3.pin p hp).1)
    obtain ⟨m, hn, _⟩ := J'.loc
    rw [yC] at hn
    exact hU _ _ H' s' J3 ⟨m, hn⟩ ⟨hCn, hne, I3.nofs (Nat.le_refl _), .inr I3.sz, hcl, hpn⟩ q
  have loop : ∀ s5 : Shared, s5 = { s3 with heap := h4, toks := s3.toks + ([] : List (Str × Value)).length } →
      codeAny (model X.prog X.w) X.A (.compLoop (.ListComp elt [⟨tg, iter, ifs, 0⟩] scope pos) 0 (.ref it) (.ref s2.heap.objs.size) Y.env) (RR (.ref s2.heap.objs.size) s3.heap.objs.size) s5 := by
    rintro s5 rfl
    refine compLoop_go (fun k s' => ∃ i ys σ' H', Inv Y [] σ' H' s' ∧ tn i s'.heap ∧ (∀ b ∈ fp, H' b = none) ∧ i ≤ n ∧ k = n - i ∧ Pv i ys σ' H') ?_ n ⟨0, [], _, _, I4, st4, fun b hb => (f3 b hb).1, Nat.zero_le _, rfl, p0⟩
    rintro k s6 ⟨i, zs, σ6, H6, I6, st6, fr6, hin, rfl, pv6⟩
    by_cases hlt : i < n
    · obtain ⟨go, stp⟩ := step i zs σ6 H6 hlt pv6
      have q := T.item Y yP yw yK yc i [] s6 σ6 H6 (fun _ _ => False) I6 (stat fr6) st6 go
      rw [yA] at q
      refine thn q fun r s7 ⟨u, hr, h7⟩ => ?_
      subst hr
      refine thn h7 fun _ s8 ⟨x, H8, I8, r8, y8, st8, fr8⟩ => ?_
      have I8' := I8.pinned (stat fr8) (T.obj _ _ st8)
      have q := yg _ s8 σ6 H8 x u _ I8' r8 (stp x H8 y8)
      rw [yP, yw, yA, yx] at q
      refine thn q fun _ s9 ⟨σ9, H9, I9, q9⟩ => ?_
      have q := yt _ s9 σ9 H9 _ I9 q9
      rw [yP, yw, yA, yx] at q
      refine thn q fun b s10 ⟨H10, I10, q10⟩ => ?_
      have again : ∀ {ws : List V} {σ' : St} {H' : Hp} {s' : Shared}, Inv Y ([] ++ pinsAt fp s8.heap) σ' H' s' → Pv (i + 1) ws σ' H' → ∃ m, m < n - i ∧ ∃ i ys σ' H', Inv Y [] σ' H' s' ∧ tn i s'.heap ∧ (∀ b ∈ fp, H' b = none) ∧ i ≤ n ∧ m = n - i ∧ Pv i ys σ' H' := fun {ws σ' H' s'} J' p' => by
        refine ⟨n - (i + 1), by omega, i + 1, ws, σ', H', J'.unpinned, T.keep _ _ _ st8 fun b hb o e => (J'.pin (b, o) (List.mem_append_right _ (List.mem_append_right _ (mem_pinsAt hb e)))).1, fun b hb => ?_, hlt, rfl, p'⟩
        obtain ⟨o, e, d⟩ := T.obj _ _ st8 b hb
        exact (J'.pin (b, o) (List.mem_append_right _ (List.mem_append_right _ (mem_pinsAt hb e)))).2.1
      cases b with
      | false => exact again I10 q10
      | true =>
        have q10 := (if_pos (α := Prop) rfl).mp q10
        have q := ye _ s10 σ9 H10 _ I10 q10
        rw [yP, yw, yA, yx] at q
        refine iteT ?_
        refine thn q fun xv s11 ⟨y, H11, I11, r11, hl11, hz, p11⟩ => ?_
        have q := mt_append (X := Y) _ s11 σ9 H11 (.ref s2.heap.objs.size) [y] _ [xv] (fun _ H' => Pv (i + 1) (zs ++ [y]) σ9 H') I11 rfl (.cons r11 .nil) ⟨_, _, _, rfl, rfl, hl11, hz, p11⟩
        rw [yP, yw, yA, yx] at q
        exact thn q fun _ s12 ⟨_, H12, I12, _, p12⟩ => again I12 p12
    · have e : i = n := by omega
      subst e
      obtain ⟨stop, q⟩ := fin zs σ6 H6 pv6
      have qd := T.done Y yP yw yK yc i [] s6 σ6 H6 (fun _ _ => False) I6 (stat fr6) st6 stop
      rw [yA] at qd
      refine thn qd fun r s7 ⟨hr, I7⟩ => ?_
      subst hr
      exact hRR _ _ _ (done I7 q)
  show codeAny _ _ (.compStart _ 0 (.ref it) _ (compEnvC scope (closOf X.env.cells scope.names []) s3.heap.objs.size X.env)) (RR (.ref s2.heap.objs.size) s3.heap.objs.size) _
  rw [yenv]
  exact codeAny_compStart_list (loop _ rfl) (T.self X.A 0 _ _ _ st4 (loop _ rfl))
theorem FpOk.turned {pins : List (Addr × Obj)} {σ : St} {H : Hp} {s : Shared} {C : Addr} {h' : Heap} (f : FpOk X pins H C) (I : Inv X pins σ H s) (sb : Heap.SameBut C s.heap h') : Inv X pins σ H { s with heap := h' } :=
  I.turned (t' := s.toks) (fun b o hb e => (sb.2 b hb).trans e) f.1 f.2.1 f.2.2.2.1 f.2.2.2.2.1 f.2.2.2.2.2
/-- [elt for tg in iter if ..] as a value -/
theorem pe_comp (hc : X.calm = true) (c : CompOk X scope N cap) (hi : PI X tg iter wi) (hg : ∀ s H fp, PG (X.block scope N s H fp) tg g) (ht : ∀ s H fp, PTs (X.block scope N s H fp) ifs tt)
    (he : ∀ s H fp, PE (X.block scope N s H fp) elt te) (hs : ∀ x, foldedSetIterable iter X.env x = pure x := by intro _; rfl) : PE X (.ListComp elt [⟨tg, iter, ifs, 0⟩] scope pos) (tComp wi g tt te cap) := by
  intro pins s σ H Q I h
  rw [eval_ListComp]
  refine wpAny_comprehension_free rfl hs (closureFor_of (c.freeH I.ok)) c.kind c.lc ?_
  exact comp_run (U := fun a C s' => ∃ m, s'.heap.Ns C m ∧ ∀ h', Heap.SameBut C s'.heap h' → EP X pins σ Q a { s' with heap := h' }) hc c hi hg ht he I h
    (fun l C H' s' I' ⟨m, hn⟩ f q => ⟨m, hn, fun h' sb => ⟨.ref l, H', f.turned I' sb, rfl, q⟩⟩) fun a C s' u => u
end
end L2

set_option Elab.async false
set_option maxRecDepth 100000
namespace L2
open PySem PySem.Spec PyProof.Rows
section
variable {X : Cx}
/-! ### isinstance, all, sum, int lists compared -/
theorem call_isinst : CallR X (.builtin "isinstance") (fun xs H Q => ∃ x n t b, xs = [x, .ty n] ∧ TyOf X.K H x t ∧ PySem.W.kitOne X.K t (.type n) = some b ∧ Q (.bl b) H) := by
  intro pins s σ H xs us Q I r h
  obtain ⟨x, n, t, b, rfl, ty, e, q⟩ := h
  obtain ⟨u, v, rfl, ru, rv⟩ := r.two
  cases (show v = Value.type n from rv)
  exact isinst_ok I ru ty e fun tk => ⟨.bl b, H, I.tok tk, rfl, q⟩
theorem in1_hd {A : Around} (h : A.handled = none) : A.in1.handled = none := h
theorem vals_getD {its : List Value} {bs : List Bool} (r : Vals (bs.map V.bl) its) {i : Nat} {v : Value} (e : its[i]? = some v) : v = .bool (bs.getD i false) := by
  have hl := r.length
  rw [List.length_map] at hl
  have hi : i < its.length := (List.getElem?_eq_some_iff.mp e).1
  have hb : (bs.map V.bl)[i]? = some (V.bl (bs.getD i false)) := by
    rw [List.getElem?_map, List.getD_eq_getElem?_getD, List.getElem?_eq_getElem (by omega)]
    rfl
  obtain ⟨u, hu, ru⟩ := r.get hb
  rw [e] at hu
  cases hu
  exact ru
theorem range_all (bs : List Bool) : (List.range bs.length).all (fun i => bs.getD i false) = bs.all id := by
  rw [Bool.eq_iff_iff]
  simp only [List.all_eq_true, List.mem_range, id]
  constructor
  · intro h b hb
    obtain ⟨i, hi, rfl⟩ := List.mem_iff_getElem.mp hb
    have := h i hi
    rwa [List.getD_eq_getElem?_getD, List.getElem?_eq_getElem hi] at this
  · intro h i hi
    rw [List.getD_eq_getElem?_getD, List.getElem?_eq_getElem hi]
    exact h _ (List.getElem_mem hi)
theorem call_all_bl (hc : X.calm = true) : CallR X (.builtin "all") (fun xs H Q => ∃ (p : Addr) (bs : List Bool), xs = [.ref p] ∧ SqL X.K H p (bs.map V.bl) ∧ Q (.bl (bs.all id)) H) := by
  intro pins s σ H xs us Q I r h
  obtain ⟨p, bs, rfl, hp, q⟩ := h
  obtain ⟨u, rfl, ru⟩ := r.one
  cases (show u = Value.ref p from ru)
  obtain ⟨its, rv, pl, hz⟩ := I.list hp
  have hh := in1_hd (I.ok.hd hc)
  have hlt : p < s.heap.objs.size := let ⟨o, ho, _⟩ := pl.isList; Heap.lt_size ho
  refine call_all_walk (wpAny_pyIter_list pl.isList ?_)
  refine ⟨s.heap.objs.size, _, _, _, _, _, fun i => bs.getD i false, rfl, Walks.list hh s.heap.objs.size p (Nat.ne_of_lt hlt) its.toArray, ⟨⟨_, Heap.get?_push_size _ rfl, rfl, rfl⟩, pl.isList.push _⟩, fun i v s' Q' E' hP hQ => ?_, fun h' tk hk => ?_⟩
  · have := vals_getD rv (i := i) (v := v) (by simpa using hP)
    subst this
    exact wpAny_truthy_bool hQ
  · have hl := rv.length
    rw [List.length_map] at hl
    refine ⟨.bl (bs.all id), H, I.kept (h' := h') (t' := tk) fun b o e => hk b o (by simpa using Nat.ne_of_lt (Heap.lt_size e)) (Heap.get?_push_of_some _ e), ?_, q⟩
    show _ = _
    rw [List.size_toArray, ← hl, range_all]
theorem vals_geti {its : List Value} {ns : List Int} (r : Vals (ns.map V.int) its) {i : Nat} {v : Value} (e : its[i]? = some v) : ∃ t, v = .int (ns.getD i 0) t := by
  have hl := r.length
  rw [List.length_map] at hl
  have hi : i < its.length := (List.getElem?_eq_some_iff.mp e).1
  have hb : (ns.map V.int)[i]? = some (V.int (ns.getD i 0)) := by
    rw [List.getElem?_map, List.getD_eq_getElem?_getD, List.getElem?_eq_getElem (by omega)]
    rfl
  obtain ⟨u, hu, ru⟩ := r.get hb
  rw [e] at hu
  cases hu
  exact ru
theorem preSum_take (ns : List Int) : ∀ k, k ≤ ns.length → preSum (fun i => ns.getD i 0) k = (ns.take k).sum
  | 0, _ => rfl
  | k + 1, h => by
    have ih := preSum_take ns k (by omega)
    rw [List.take_add_one, List.sum_append, ← ih, List.getElem?_eq_getElem (by omega)]
    show preSum _ k + ns.getD k 0 = _
    rw [List.getD_eq_getElem?_getD, List.getElem?_eq_getElem (by omega)]
    simp
/-- what sum of small ints wants -/
def SmallSum (ns : List Int) : Prop := ∀ k, k ≤ ns.length → InLong ((ns.take k).sum) ∧ ∀ n ∈ ns, InLong n
theorem call_sum_seq (hc : X.calm = true) : CallR X (.builtin "sum") (fun xs H Q => ∃ (p : Addr) (ns : List Int), xs = [.ref p] ∧ (SqL X.K H p (ns.map V.int) ∨ SqT X.K H p (ns.map V.int)) ∧ SmallSum ns ∧ Q (.int ns.sum) H) := by
  intro pins s σ H xs us Q I r h
  obtain ⟨p, ns, rfl, hp, sm, q⟩ := h
  obtain ⟨u, rfl, ru⟩ := r.one
  cases (show u = Value.ref p from ru)
  have hh := in1_hd (I.ok.hd hc)
  have fin : ∀ {its : List Value} {h' : Heap} {tk : Nat} {t' : Tok}, Vals (ns.map V.int) its → (∀ b o, b ∉ [s.heap.objs.size] → s.heap.get? b = some o → h'.get? b = some o) →
      EP X pins σ Q (.int (preSum (fun i => ns.getD i 0) its.length) t') { s with heap := h', toks := tk } := fun {its h' tk t'} rv hk => by
    have hl := rv.length
    rw [List.length_map] at hl
    refine ⟨.int ns.sum, H, I.kept (h' := h') (t' := tk) fun b o e => hk b o (by simpa using Nat.ne_of_lt (Heap.lt_size e)) e, ⟨t', ?_⟩, q⟩
    rw [← hl, preSum_take _ _ (Nat.le_refl _), List.take_of_length_le (Nat.le_refl _)]
  have fit : ∀ {its : List Value}, Vals (ns.map V.int) its → ∀ j, j < its.length → InLong (ns.getD j 0) ∧ InLong (preSum (fun i => ns.getD i 0) (j + 1)) := fun {its} rv j hj => by
    have hl := rv.length
    rw [List.length_map] at hl
    refine ⟨(sm 0 (Nat.zero_le _)).2 _ ?_, ?_⟩
    · rw [List.getD_eq_getElem?_getD, List.getElem?_eq_getElem (by omega)]
      exact List.getElem_mem _
    · rw [preSum_take _ _ (by omega)]
      exact (sm _ (by omega)).1
  rcases hp with hp | hp
  · obtain ⟨its, rv, pl, hz⟩ := I.list hp
    have hlt : p < s.heap.objs.size := let ⟨o, ho, _⟩ := pl.isList; Heap.lt_size ho
    refine call_sum_walk (wpAny_pyIter_list pl.isList ?_)
    refine ⟨s.heap.objs.size, _, _, _, _, _, fun i => ns.getD i 0, rfl, Walks.list hh s.heap.objs.size p (Nat.ne_of_lt hlt) its.toArray, ⟨⟨_, Heap.get?_push_size _ rfl, rfl, rfl⟩, pl.isList.push _⟩, fun b hb => ?_, fun i v hP => vals_geti rv (by simpa using hP), fun j hj => fit rv j (by simpa using hj), fun h' tk t' hk => fin rv fun b o hb e => hk b o hb (Heap.get?_push_of_some _ e)⟩
    rw [Heap.size_push]
    rcases List.mem_cons.mp hb with e | e
    · rw [e]; exact Nat.lt_succ_self _
    · have : b = p := by simpa using e
      rw [this]; exact Nat.lt_succ_of_lt hlt
  · obtain ⟨its, rv, pl, hz⟩ := I.tuple hp
    have hlt : p < s.heap.objs.size := let ⟨o, ho, _⟩ := pl; Heap.lt_size ho
    refine call_sum_walk (wpAny_pyIter_tuple pl ?_)
    refine ⟨s.heap.objs.size, _, _, _, _, _, fun i => ns.getD i 0, rfl, Walks.tuple hh s.heap.objs.size p (Nat.ne_of_lt hlt) its.toArray, ⟨⟨_, Heap.get?_push_size _ rfl, rfl, rfl⟩, pl.push _⟩, fun b hb => ?_, fun i v hP => vals_geti rv (by simpa using hP), fun j hj => fit rv j (by simpa using hj), fun h' tk t' hk => fin rv fun b o hb e => hk b o hb (Heap.get?_push_of_some _ e)⟩
    rw [Heap.size_push]
    rcases List.mem_cons.mp hb with e | e
    · rw [e]; exact Nat.lt_succ_self _
    · have : b = p := by simpa using e
      rw [this]; exact Nat.lt_succ_of_lt hlt
end
end L2

set_option Elab.async false
set_option maxRecDepth 100000
namespace L2
open PySem PySem.Spec PyProof.Rows
mutual
/-- v stands for the data d in the heap H -/
def Rep (H : Hp) : PyData → V → Prop
  | .none, v => v = .non
  | .bool b, v => v = .bl b
  | .int i, v => v = .int i
  | .str x, v => v = .str x
  | .list ds, v => ∃ a xs, v = .ref a ∧ H a = some (.lst xs) ∧ RepL H ds xs
  | .tuple ds, v => ∃ a xs, v = .ref a ∧ H a = some (.tup xs) ∧ RepL H ds xs
  | .dict _, _ => False
def RepL (H : Hp) : List PyData → List V → Prop
  | [], xs => xs = []
  | d :: ds, xs => ∃ x r, xs = x :: r ∧ Rep H d x ∧ RepL H ds r
end
mutual
theorem Rep.mono {H H' : Hp} (s : Same H H') : ∀ {d : PyData} {v : V}, Rep H d v → Rep H' d v
  | .none, _, h => by simpa [Rep] using h
  | .bool _, _, h => by simpa [Rep] using h
  | .int _, _, h => by simpa [Rep] using h
  | .str _, _, h => by simpa [Rep] using h
  | .list ds, _, h => by
    simp only [Rep] at h ⊢
    obtain ⟨a, xs, e, h1, h2⟩ := h
    exact ⟨a, xs, e, s _ _ h1, RepL.mono s h2⟩
  | .tuple ds, _, h => by
    simp only [Rep] at h ⊢
    obtain ⟨a, xs, e, h1, h2⟩ := h
    exact ⟨a, xs, e, s _ _ h1, RepL.mono s h2⟩
  | .dict _, _, h => by simp only [Rep] at h
theorem RepL.mono {H H' : Hp} (s : Same H H') : ∀ {ds : List PyData} {xs : List V}, RepL H ds xs → RepL H' ds xs
  | [], _, h => by simpa [RepL] using h
  | d :: ds, _, h => by
    simp only [RepL] at h ⊢
    obtain ⟨x, r, e, h1, h2⟩ := h
    exact ⟨x, r, e, Rep.mono s h1, RepL.mono s h2⟩
end
section
variable {X : Cx} {pins : List (Addr × Obj)} {σ : St} {H : Hp} {s : Shared}
mutual
theorem Rep.reads (I : Inv X pins σ H s) : ∀ {d : PyData} {v : V} {u : Value}, Rep H d v → RelV v u → ∃ as, Reads s.heap u d as
  | .none, _, _, h, r => by simp only [Rep] at h; subst h; cases r; exact ⟨_, .none⟩
  | .bool _, _, _, h, r => by simp only [Rep] at h; subst h; cases r; exact ⟨_, .bool _⟩
  | .int _, _, _, h, r => by simp only [Rep] at h; subst h; obtain ⟨t, rfl⟩ := r; exact ⟨_, .int _ _⟩
  | .str _, _, _, h, r => by simp only [Rep] at h; subst h; obtain ⟨t, rfl⟩ := r; exact ⟨_, .str _ _⟩
  | .list ds, _, _, h, r => by
    simp only [Rep] at h
    obtain ⟨a, xs, rfl, h1, h2⟩ := h
    cases (show _ = Value.ref a from r)
    obtain ⟨its, rv, pl, _⟩ := I.list (SqL.of h1)
    obtain ⟨as, ra⟩ := RepL.reads I h2 rv
    obtain ⟨o, n, e, c, _, d⟩ := pl
    exact ⟨_, .list e c d (by simpa using ra)⟩
  | .tuple ds, _, _, h, r => by
    simp only [Rep] at h
    obtain ⟨a, xs, rfl, h1, h2⟩ := h
    cases (show _ = Value.ref a from r)
    obtain ⟨its, rv, pl, _⟩ := I.tuple (SqT.of h1)
    obtain ⟨as, ra⟩ := RepL.reads I h2 rv
    obtain ⟨o, e, c, n, d⟩ := pl
    exact ⟨_, .tuple e c d (by simpa using ra)⟩
  | .dict _, _, _, h, _ => by simp only [Rep] at h
theorem RepL.reads (I : Inv X pins σ H s) : ∀ {ds : List PyData} {xs : List V} {us : List Value}, RepL H ds xs → Vals xs us → ∃ as, ReadsAll s.heap us ds as
  | [], _, _, h, r => by simp only [RepL] at h; subst h; cases r; exact ⟨_, .nil⟩
  | d :: ds, _, _, h, r => by
    simp only [RepL] at h
    obtain ⟨x, t, rfl, h1, h2⟩ := h
    cases r with
    | cons r1 r2 =>
      obtain ⟨as, a1⟩ := Rep.reads I h1 r1
      obtain ⟨bs, a2⟩ := RepL.reads I h2 r2
      exact ⟨_, .cons a1 a2⟩
end
end
/-- == and != of data, at any depth up to 64 -/
def rEqD (neg : Bool) : R2 := fun x y H Q => ∃ d e, Rep H d x ∧ Rep H e y ∧ SeqAt.shaped d = true ∧ SeqAt.shaped e = true ∧ Q (.bl (if neg then !PyData.eqv d e else PyData.eqv d e)) H
section
variable {X : Cx}
theorem op_eqD (hu : X.A.units + 64 < cLine) : OpR X (compareOp .Eq) (rEqD false) := by
  intro pins s σ H x y v u Q I rx ry h
  obtain ⟨d, e, h1, h2, s1, s2, q⟩ := h
  obtain ⟨as, r1⟩ := h1.reads I rx
  obtain ⟨bs, r2⟩ := h2.reads I ry
  exact eq_dataH r1 r2 s1 s2 hu ⟨.bl _, H, I, rfl, q⟩
theorem op_neD (hu : X.A.units + 64 < cLine) : OpR X (compareOp .NotEq) (rEqD true) := by
  intro pins s σ H x y v u Q I rx ry h
  obtain ⟨d, e, h1, h2, s1, s2, q⟩ := h
  obtain ⟨as, r1⟩ := h1.reads I rx
  obtain ⟨bs, r2⟩ := h2.reads I ry
  exact ne_dataH r1 r2 s1 s2 hu ⟨.bl _, H, I, rfl, q⟩
end
def tyD : PyData → String
  | .none => "NoneType"
  | .bool _ => "bool"
  | .int _ => "int"
  | .str _ => "str"
  | .list _ => "list"
  | .tuple _ => "tuple"
  | .dict _ => "dict"
theorem Rep.ty {K : PySem.W.Frag} {H : Hp} {d : PyData} {v : V} (h : Rep H d v) : TyOf K H v (.type (tyD d)) := by
  cases d with
  | none => simp only [Rep] at h; subst h; exact .non
  | bool b => simp only [Rep] at h; subst h; exact .bl b
  | int b => simp only [Rep] at h; subst h; exact .int b
  | str b => simp only [Rep] at h; subst h; exact .str b
  | list ds => simp only [Rep] at h; obtain ⟨a, xs, rfl, e, _⟩ := h; exact .lst e
  | tuple ds => simp only [Rep] at h; obtain ⟨a, xs, rfl, e, _⟩ := h; exact .tup e
  | dict _ => simp only [Rep] at h
def isD (T : String) : PyData → Bool
  | .none => T == "NoneType"
  | .bool _ => T == "bool" || T == "int"
  | .int _ => T == "int"
  | .str _ => T == "str"
  | .list _ => T == "list"
  | .tuple _ => T == "tuple"
  | .dict _ => T == "dict"
theorem kit_bool {K : PySem.W.Frag} (d : PyData) : PySem.W.kitOne K (.type (tyD d)) (.type "bool") = some (isD "bool" d) := by cases d <;> kernel_rfl
theorem kit_int {K : PySem.W.Frag} (d : PyData) : PySem.W.kitOne K (.type (tyD d)) (.type "int") = some (isD "int" d) := by cases d <;> kernel_rfl
theorem kit_str {K : PySem.W.Frag} (d : PyData) : PySem.W.kitOne K (.type (tyD d)) (.type "str") = some (isD "str" d) := by cases d <;> kernel_rfl
theorem kit_list {K : PySem.W.Frag} (d : PyData) : PySem.W.kitOne K (.type (tyD d)) (.type "list") = some (isD "list" d) := by cases d <;> kernel_rfl
theorem kit_tuple {K : PySem.W.Frag} (d : PyData) : PySem.W.kitOne K (.type (tyD d)) (.type "tuple") = some (isD "tuple" d) := by cases d <;> kernel_rfl
end L2

set_option Elab.async false
set_option maxRecDepth 100000
namespace L2
open PySem PySem.Spec PyProof.Rows
/-- several untracked records of ours have turned, and a new object is laid -/
theorem Inv.turnedL {X : Cx} {pins : List (Addr × Obj)} {σ : St} {H : Hp} {s : Shared} {h' : Heap} {t' : Nat} {ch : List Addr} {T : Addr} {o : HO} (I : Inv X pins σ H s) (k : ∀ b o, b ∉ ch → s.heap.get? b = some o → h'.get? b = some o)
    (f : ∀ b ∈ ch, FpOk X pins H b) (there : ∀ b ∈ ch, ∃ o, h'.get? b = some o) (hT : s.heap.objs.size ≤ T) (new : ObjOk X.prog X.w (upd H T o) h' T o) : Inv X pins σ (upd H T o) { s with heap := h', toks := t' } := by
  have nit : ∀ b u, H b = some u → b ∉ ch := fun b u e z => by rw [(f b z).1] at e; cases e
  have ltT : ∀ b ob, s.heap.get? b = some ob → b ≠ T := fun b ob e => Nat.ne_of_lt (Nat.lt_of_lt_of_le (Heap.lt_size e) hT)
  have hTn : H T = none := I.hok.fresh hT
  have neT : ∀ b u, H b = some u → b ≠ T := fun b u e => ne_of_none e hTn
  refine I.step (g' := s.gens) (d' := s.drawn) (ch := ch) (fun b hb => ⟨(f b hb).2.2.2.1, (f b hb).2.1, (f b hb).2.2.2.2.1, (f b hb).2.2.2.2.2⟩) (fun b o _ _ hc e _ => k b o hc e) (fun b o _ _ hc e _ => ⟨o.slots, k b o hc e⟩) (fun b o _ e n => by rw [upd_ne (ltT b o e)]; exact n)
    (fun b o hc e => ⟨o, k b o hc e⟩) (fun b _ e => by rw [upd_ne (neT b _ e)]; exact e) (fun b _ _ e => by rw [upd_ne (neT b _ e)]; exact e) (fun b ps e => ⟨#[], by rw [upd_ne (neT b _ e), e]; simp⟩) (fun m hm => ?_) (fun b u e => ?_) I.bare
  · obtain ⟨ob, es, ep, ho, r⟩ := hm
    exact ⟨ob, es, ep, k _ ob (fun z => (f _ z).2.1 rfl) ho, r⟩
  · by_cases hb : b = T
    · subst hb
      rw [upd_same] at e
      cases e
      exact new
    · rw [upd_ne hb] at e
      refine (I.hok b u e).stay (fun c v hc q => k c v ?_ q) (fun q e' => ?_) fun a q e' => ?_
      · rcases hc with z | z
        · rw [z]; exact nit b u e
        · exact nit c _ z
      · rw [upd_ne (neT _ _ e')]; exact e'
      · rw [upd_ne (neT _ _ e')]; exact e'
/-! ### zip of two lists, unpacked into names -/
def Itz (K : PySem.W.Frag) (a b : Addr) : It :=
  ⟨fun i H => ∃ xs ys x y, SqL K H a xs ∧ SqL K H b ys ∧ xs[i]? = some x ∧ ys[i]? = some y,
   fun i H v H' => ∃ T, v = .ref T ∧ H T = none ∧ ∀ xs ys, SqL K H a xs → SqL K H b ys → ∃ x y, xs[i]? = some x ∧ ys[i]? = some y ∧ H' = upd H T (.tup [x, y]),
   fun i H => ∃ xs ys, SqL K H a xs ∧ SqL K H b ys ∧ (xs.length ≤ i ∨ ys.length ≤ i)⟩
theorem turn_zip {P : Program} {w : World} {K : PySem.W.Frag} {elts : List Expr} {kt : Nat} {pt : Pos} {a b n : Addr} (ha : a < n) (hb : b < n) :
    Turn P w K (.Tuple elts kt pt) (Itz K a b) [n + 4, n + 2, n + 3, n, n + 1] (n + 4) (fun i h => IsZip h (n + 4) (n + 2) (n + 3) .none ∧ IsPair h (n + 2) (.ref n) (.ref (n + 1)) ∧ (∃ x y, IsPair h (n + 3) x y) ∧ h.IsListIter n a i ∧ h.IsListIter (n + 1) b i) where
  mem := by simp
  obj := fun i h st c hc => by
    obtain ⟨z1, z2, ⟨x, y, z3⟩, ⟨o4, e4, c4, d4⟩, ⟨o5, e5, c5, d5⟩⟩ := st
    simp only [List.mem_cons, List.not_mem_nil, or_false] at hc
    rcases hc with rfl | rfl | rfl | rfl | rfl
    · exact ⟨_, z1, fun v z => by cases z⟩
    · exact ⟨_, z2, fun v z => by cases z⟩
    · exact ⟨_, z3, fun v z => by cases z⟩
    · exact ⟨_, e4, fun v z => by rw [d4] at z; cases z⟩
    · exact ⟨_, e5, fun v z => by rw [d5] at z; cases z⟩
  keep := fun i h h' st k => by
    obtain ⟨z1, z2, ⟨x, y, z3⟩, z4, z5⟩ := st
    exact ⟨k _ (by simp) _ z1, k _ (by simp) _ z2, ⟨x, y, k _ (by simp) _ z3⟩, z4.at fun o e => k _ (by simp) o e, z5.at fun o e => k _ (by simp) o e⟩
  item := by
    intro X hP hw hK hc i pins s σ H E I hf st hg
    subst hP hw hK
    obtain ⟨xs, ys, x, y, hqa, hqb, hx, hy⟩ := hg
    obtain ⟨its, rv, p, hz⟩ := I.list hqa
    obtain ⟨jts, rw', p', hz'⟩ := I.list hqb
    obtain ⟨u, hu, ru⟩ := rv.get hx
    obtain ⟨u', hu', ru'⟩ := rw'.get hy
    obtain ⟨z1, z2, ⟨x0, y0, z3⟩, z4, z5⟩ := st
    have D : ZipApart (n + 4) (n + 2) (n + 3) n (n + 1) a b := PyProof.Rows.zipApart_new ha hb
    have ltz : n + 4 < s.heap.objs.size := Heap.lt_size z1
    refine wpAny_pyNext_zip_item D z1 z2 z3 z4 z5 p.isList p'.isList (x := u) (y := u') (by simpa using hu) (by simpa using hu') fun h' a1 a2 a3 a4 a5 a6 hk => ?_
    refine ⟨_, rfl, wpAny_letOwnedTupleGo_zip (s := { s with heap := h' }) a1 fun h2 b1 hs => ?_⟩
    have neT : ∀ {c : Addr}, c ≤ n + 4 → c ≠ s.heap.objs.size := fun h => Nat.ne_of_lt (Nat.lt_of_le_of_lt h ltz)
    have kk : ∀ c o, c ∉ [n + 4, n + 3, n, n + 1] → s.heap.get? c = some o → h2.get? c = some o := fun c o hc e => by
      simp only [List.mem_cons, List.not_mem_nil, or_false, not_or] at hc
      exact (hs.2 c hc.1).trans (hk c o hc.1 hc.2.1 hc.2.2.1 hc.2.2.2 e)
    have q2 : h2.get? (n + 2) = _ := kk _ _ (by simp only [List.mem_cons, List.not_mem_nil, or_false, not_or]; exact ⟨D.TIz, D.TITO, D.TIi1, D.TIi2⟩) z2
    have q3 : h2.get? (n + 3) = _ := (hs.2 _ D.TOz).trans a2
    obtain ⟨o4, e4, c4⟩ := a3
    obtain ⟨o5, e5, c5⟩ := a4
    have q4 : h2.get? n = _ := (hs.2 _ D.i1z).trans e4
    have q5 : h2.get? (n + 1) = _ := (hs.2 _ D.i2z).trans e5
    have qT : h2.get? s.heap.objs.size = _ := (hs.2 _ (Ne.symm (neT (Nat.le_refl _)))).trans a5
    have sub : ∀ c ∈ [n + 4, n + 3, n, n + 1], c ∈ [n + 4, n + 2, n + 3, n, n + 1] := fun c hc => by
      simp only [List.mem_cons, List.not_mem_nil, or_false] at hc ⊢
      rcases hc with e | e | e | e
      · exact .inl e
      · exact .inr (.inr (.inl e))
      · exact .inr (.inr (.inr (.inl e)))
      · exact .inr (.inr (.inr (.inr e)))
    have I1 : Inv X pins σ (upd H s.heap.objs.size (.tup [x, y])) { s with heap := h2, toks := s.toks } := I.turnedL (ch := [n + 4, n + 3, n, n + 1]) kk (fun c hc => hf c (sub c hc)) (fun c hc => by
        simp only [List.mem_cons, List.not_mem_nil, or_false] at hc
        rcases hc with rfl | rfl | rfl | rfl
        · exact ⟨_, b1⟩
        · exact ⟨_, q3⟩
        · exact ⟨_, q4⟩
        · exact ⟨_, q5⟩) (Nat.le_refl _) ⟨by show 2 ≤ sizeLine; decide, [u, u'], .cons ru (.cons ru' .nil), _, qT, rfl, _, rfl⟩
    refine ⟨.ref s.heap.objs.size, _, I1, rfl, ⟨_, rfl, I.hok.fresh (Nat.le_refl _), fun vs ws hv hw => ?_⟩, ⟨b1, q2, ⟨_, _, q3⟩, ⟨_, q4, c4⟩, ⟨_, q5, c5⟩⟩, fun c hc => ?_⟩
    · rw [I.list_inj hv hqa, I.list_inj hw hqb]
      exact ⟨x, y, hx, hy, rfl⟩
    · have hle : c ≤ n + 4 := by
        simp only [List.mem_cons, List.not_mem_nil, or_false] at hc
        rcases hc with rfl | rfl | rfl | rfl | rfl
        · exact Nat.le_refl _
        · exact Nat.le_add_right (n + 2) 2
        · exact Nat.le_add_right (n + 3) 1
        · exact Nat.le_add_right _ 4
        · exact Nat.le_add_right (n + 1) 3
      rw [upd_ne (neT hle)]
      exact (hf c hc).1
  done := by
    intro X hP hw hK hc i pins s σ H E I hf st hg
    subst hP hw hK
    obtain ⟨xs, ys, hqa, hqb, hl⟩ := hg
    obtain ⟨its, rv, p, hz⟩ := I.list hqa
    obtain ⟨jts, rw', p', hz'⟩ := I.list hqb
    obtain ⟨z1, z2, ⟨x0, y0, z3⟩, z4, z5⟩ := st
    have D : ZipApart (n + 4) (n + 2) (n + 3) n (n + 1) a b := PyProof.Rows.zipApart_new ha hb
    have l1 := rv.length
    have l2 := rw'.length
    refine wpAny_pyNext_zip_end (I.ok.hd hc) D z1 z2 z3 z4 z5 p.isList p'.isList ?_ fun h' hk => ⟨rfl, ?_⟩
    · rcases hl with h | h
      · exact .inl (by simp; omega)
      · exact .inr (by simp; omega)
    · have fp : ∀ c ∈ [n + 4, n + 3, n, n + 1], FpOk X pins H c := fun c hc => hf c (by
        simp only [List.mem_cons, List.not_mem_nil, or_false] at hc ⊢
        rcases hc with e | e | e | e
        · exact .inl e
        · exact .inr (.inr (.inl e))
        · exact .inr (.inr (.inr (.inl e)))
        · exact .inr (.inr (.inr (.inr e))))
      have kk : ∀ c o, c ∉ [n + 4, n + 3, n, n + 1] → s.heap.get? c = some o → h'.get? c = some o := fun c o hc e => by
        simp only [List.mem_cons, List.not_mem_nil, or_false, not_or] at hc
        exact hk c o hc.1 hc.2.1 hc.2.2.1 hc.2.2.2 e
      have nit : ∀ c u, H c = some u → c ∉ [n + 4, n + 3, n, n + 1] := fun c u e z => by rw [(fp c z).1] at e; cases e
      refine I.step (g' := s.gens) (d' := s.drawn) (t' := s.toks) (ch := [n + 4, n + 3, n, n + 1]) (fun c hc => ⟨(fp c hc).2.2.2.1, (fp c hc).2.1, (fp c hc).2.2.2.2.1, (fp c hc).2.2.2.2.2⟩) (fun c o _ _ hc e _ => kk c o hc e) (fun c o _ _ hc e _ => ⟨o.slots, kk c o hc e⟩) (fun _ _ _ _ n => n)
        (fun c o hc e => ⟨o, kk c o hc e⟩) (fun _ _ e => e) (fun _ _ _ e => e) (fun _ ps e => ⟨#[], by rw [e]; simp⟩) (fun m hm => ?_) (fun c u e => ?_) I.bare
      · obtain ⟨ob, es, ep, ho, r⟩ := hm
        exact ⟨ob, es, ep, kk _ ob (fun z => (fp _ z).2.1 rfl) ho, r⟩
      · refine (I.hok c u e).stay (fun d v hd q => kk d v ?_ q) (fun _ e' => e') fun _ _ e' => e'
        rcases hd with z | z
        · rw [z]; exact nit c u e
        · exact nit d _ z
  self := fun _ _ _ _ _ st h => wpAny_pyIter_zip st.1 h
section
variable {X : Cx} {elts : List Expr} {kt : Nat} {pt : Pos}
def iZip (K : PySem.W.Frag) (ta : TA) : TI := fun σ H R => ta σ H fun vs H1 => ∃ a b, vs = [.ref a, .ref b] ∧ (∃ xs, SqL K H1 a xs) ∧ (∃ ys, SqL K H1 b ys) ∧ R (Itz K a b) H1
end
end L2

set_option Elab.async false
set_option maxRecDepth 100000
namespace L2
open PySem PySem.Spec PyProof.Rows
/-! ### readings, one step each -/
section
variable {σ : St} {H : Hp} {Q : VK} {D : Ends} {QB : Bool → Hp → Prop} {QA : List V → Hp → Prop}
theorem rd_next (h : D.nx σ H) : tNext D σ H := h
theorem rd_asg {te : TE} {g : TG} (h : te σ H fun x H1 => g x σ H1 D.nx) : tAsg te g D σ H := h
theorem rd_name {i : Nat} {v : V} {Q : St → Hp → Prop} (h : Q (σ.set i (some v)) H) : gName i v σ H Q := h
theorem rd_ret {te : TE} (h : te σ H D.rt) : tRet te D σ H := h
theorem rd_retN (h : D.rt .non H) : tRetN D σ H := h
theorem rd_drop {te : TE} (h : te σ H fun _ H1 => D.nx σ H1) : tDrop te D σ H := h
theorem rd_ifS {c : TT} {t u : TS} (h : c σ H fun b H1 => if b = true then t D σ H1 else u D σ H1) : tIfS c t u D σ H := h
theorem rd_tB {t : TE} (h : t σ H fun x H1 => ∃ c, x = .bl c ∧ QB c H1) : tB t σ H QB := h
theorem rd_tTest {t : TE} (h : t σ H fun x H1 => ∃ c, x = .bl c ∧ QB c H1) : tTest t σ H QB := h
theorem rd_exbl {b : Bool} {P : Bool → Prop} (h : P b) : ∃ c, V.bl b = V.bl c ∧ P c := ⟨b, rfl, h⟩
theorem rd_exref {a : Addr} {P : Addr → Prop} (h : P a) : ∃ c, V.ref a = V.ref c ∧ P c := ⟨a, rfl, h⟩
theorem rd_exint {i : Int} {P : Int → Prop} (h : P i) : ∃ c, V.int i = V.int c ∧ P c := ⟨i, rfl, h⟩
theorem rd_var {i : Nat} {v : V} (e : σ[i]? = some (some v)) (h : Q v H) : tVar i σ H Q := ⟨v, e, h⟩
theorem rd_c {v : V} (h : Q v H) : tC v σ H Q := h
theorem rd_op {r : R2} {ta tb : TE} (h : ta σ H fun x H1 => tb σ H1 fun y H2 => r x y H2 Q) : tOp r ta tb σ H Q := h
theorem rd_un {r : V → Hp → VK → Prop} {ta : TE} (h : ta σ H fun x H1 => r x H1 Q) : tUn r ta σ H Q := h
theorem rd_andV {ta tb : TE} (h : ta σ H fun x H1 => ∃ c, x = .bl c ∧ if c = true then tb σ H1 Q else Q (.bl false) H1) : tAndV ta tb σ H Q := h
theorem rd_notV {ta : TE} (h : ta σ H fun x H1 => ∃ c, x = .bl c ∧ Q (.bl (!c)) H1) : tNotV ta σ H Q := h
theorem rd_and {t u : TT} (h : t σ H fun c H1 => if c = true then u σ H1 QB else QB false H1) : tAnd t u σ H QB := h
theorem rd_or {t u : TT} (h : t σ H fun c H1 => if c = true then QB true H1 else u σ H1 QB) : tOr t u σ H QB := h
theorem rd_not {t : TT} (h : t σ H fun c H1 => QB (!c) H1) : tNot t σ H QB := h
theorem rd_if {t : TT} {ta tb : TE} (h : t σ H fun c H1 => if c = true then ta σ H1 Q else tb σ H1 Q) : tIf t ta tb σ H Q := h
theorem rd_true (h : QB true H) : tTrue σ H QB := h
theorem rd_I0 {g : Int → Int → V} {i j : Int} (h : Q (g i j) H) : rI0 g (.int i) (.int j) H Q := ⟨i, j, rfl, rfl, h⟩
theorem rd_I {C : Int → Int → Prop} {g : Int → Int → V} {i j : Int} (c : C i j) (h : Q (g i j) H) : rI C g (.int i) (.int j) H Q := ⟨i, j, rfl, rfl, c, h⟩
theorem rd_U {g : Int → V} {i : Int} (h : Q (g i) H) : rU g (.int i) H Q := ⟨i, rfl, h⟩
theorem rd_eqI {i j : Int} (h : Q (.bl (decide (i = j))) H) : rEq (.int i) (.int j) H Q := ⟨rfl, by
  rw [dec_int, Int.instDecidableEq.eq_def] <;> first | exact h | (simpa [dec_int] using h)⟩
theorem rd_neI {i j : Int} (h : Q (.bl (!decide (i = j))) H) : rNe (.int i) (.int j) H Q := ⟨rfl, by
  have e : decide (V.int i = V.int j) = decide (i = j) := by by_cases z : i = j <;> simp [z]
  rw [e]; exact h⟩
theorem rd_eqS {i j : Str} (h : Q (.bl (decide (i = j))) H) : rEq (.str i) (.str j) H Q := ⟨rfl, by
  have e : decide (V.str i = V.str j) = decide (i = j) := by by_cases z : i = j <;> simp [z]
  rw [e]; exact h⟩
theorem rd_eqB {i j : Bool} (h : Q (.bl (decide (i = j))) H) : rEq (.bl i) (.bl j) H Q := ⟨rfl, by
  have e : decide (V.bl i = V.bl j) = decide (i = j) := by by_cases z : i = j <;> simp [z]
  rw [e]; exact h⟩
theorem rd_neB {i j : Bool} (h : Q (.bl (!decide (i = j))) H) : rNe (.bl i) (.bl j) H Q := ⟨rfl, by
  have e : decide (V.bl i = V.bl j) = decide (i = j) := by by_cases z : i = j <;> simp [z]
  rw [e]; exact h⟩
theorem rd_ixL {K : PySem.W.Frag} {p : Addr} {xs : List V} {i : Int} {v : V} (h : SqL K H p xs) (e : atI xs i = some v) (q : Q v H) : rIxL K (.ref p) (.int i) H Q := ⟨p, xs, i, v, rfl, rfl, h, e, q⟩
theorem rd_ixT {K : PySem.W.Frag} {p : Addr} {xs : List V} {i : Int} {v : V} (h : SqT K H p xs) (e : atI xs i = some v) (q : Q v H) : rIxT K (.ref p) (.int i) H Q := ⟨p, xs, i, v, rfl, rfl, h, e, q⟩
theorem rd_chain {r r' : R2} {ta tb tc : TE} (h : ta σ H fun x H1 => tb σ H1 fun y H2 => r x y H2 fun z H3 => ∃ k, z = .bl k ∧ if k = true then tc σ H3 fun y' H4 => r' y y' H4 Q else Q (.bl false) H3) : tChain r r' ta tb tc σ H Q := h
theorem rd_call {sp : Sp} {dvs : List V} {E : XK} {t : TA} (h : t σ H fun vs H1 => sp (vs ++ dvs) H1 Q E) : tCall sp dvs E t σ H Q := h
theorem rd_nil (h : QA [] H) : tNil σ H QA := h
theorem rd_cons {ta : TE} {tr : TA} (h : ta σ H fun x H1 => tr σ H1 fun xs H2 => QA (x :: xs) H2) : tCons ta tr σ H QA := h
theorem rd_CB {r : List V → Hp → VK → Prop} {t : TA} (h : t σ H fun vs H1 => r vs H1 Q) : tCB r t σ H Q := h
theorem rd_tup {t : TA} (h : t σ H fun xs H1 => xs.length ≤ sizeLine ∧ ∀ p, H1 p = none → Q (.ref p) (upd H1 p (.tup xs))) : tTup t σ H Q := h
theorem rd_lst {t : TA} (h : t σ H fun xs H1 => xs.length ≤ sizeLine ∧ ∀ p, H1 p = none → Q (.ref p) (upd H1 p (.lst xs))) : tLst t σ H Q := h
end
end L2

set_option Elab.async false
set_option maxRecDepth 100000
namespace L2
open PySem PySem.Spec PyProof.Rows
theorem kit_ii {K : PySem.W.Frag} : PySem.W.kitOne K (.type "int") (.type "int") = some true := by kernel_rfl
theorem kit_ib {K : PySem.W.Frag} : PySem.W.kitOne K (.type "int") (.type "bool") = some false := by kernel_rfl
section
variable {X : Cx} {K : PySem.W.Frag} {H : Hp} {Q : VK} {σ : St}
/-! calls of built-ins, by named relations -/
def rIsi (K : PySem.W.Frag) : List V → Hp → VK → Prop := fun xs H Q => ∃ x n t b, xs = [x, .ty n] ∧ TyOf K H x t ∧ PySem.W.kitOne K t (.type n) = some b ∧ Q (.bl b) H
theorem cI_isinst : CallR X (.builtin "isinstance") (rIsi X.K) := call_isinst
theorem rd_isi {x : V} {n : String} {t : Value} {b : Bool} (ty : TyOf K H x t) (e : PySem.W.kitOne K t (.type n) = some b) (h : Q (.bl b) H) : rIsi K [x, .ty n] H Q := ⟨x, n, t, b, rfl, ty, e, h⟩
def rLen (K : PySem.W.Frag) : List V → Hp → VK → Prop := fun xs H Q => ∃ p ys, xs = [.ref p] ∧ (SqL K H p ys ∨ SqT K H p ys) ∧ Q (.int ys.length) H
theorem cI_len : CallR X (.builtin "len") (rLen X.K) := call_len_seq
theorem rd_lenL {p : Addr} {ys : List V} (h : H p = some (.lst ys)) (q : Q (.int ys.length) H) : rLen K [.ref p] H Q := ⟨p, ys, rfl, .inl (SqL.of h), q⟩
theorem rd_lenT {p : Addr} {ys : List V} (h : H p = some (.tup ys)) (q : Q (.int ys.length) H) : rLen K [.ref p] H Q := ⟨p, ys, rfl, .inr (SqT.of h), q⟩
def rAll (K : PySem.W.Frag) : List V → Hp → VK → Prop := fun xs H Q => ∃ (p : Addr) (bs : List Bool), xs = [.ref p] ∧ SqL K H p (bs.map V.bl) ∧ Q (.bl (bs.all id)) H
theorem cI_all (hc : X.calm = true) : CallR X (.builtin "all") (rAll X.K) := call_all_bl hc
theorem rd_all {p : Addr} {bs : List Bool} (h : H p = some (.lst (bs.map V.bl))) (q : Q (.bl (bs.all id)) H) : rAll K [.ref p] H Q := ⟨p, bs, rfl, SqL.of h, q⟩
def rSum (K : PySem.W.Frag) : List V → Hp → VK → Prop := fun xs H Q => ∃ (p : Addr) (ns : List Int), xs = [.ref p] ∧ (SqL K H p (ns.map V.int) ∨ SqT K H p (ns.map V.int)) ∧ SmallSum ns ∧ Q (.int ns.sum) H
theorem cI_sum (hc : X.calm = true) : CallR X (.builtin "sum") (rSum X.K) := call_sum_seq hc
theorem rd_sumT {p : Addr} {ns : List Int} (h : H p = some (.tup (ns.map V.int))) (s : SmallSum ns) (q : Q (.int ns.sum) H) : rSum K [.ref p] H Q := ⟨p, ns, rfl, .inr (SqT.of h), s, q⟩
theorem rd_sumL {p : Addr} {ns : List Int} (h : H p = some (.lst (ns.map V.int))) (s : SmallSum ns) (q : Q (.int ns.sum) H) : rSum K [.ref p] H Q := ⟨p, ns, rfl, .inl (SqL.of h), s, q⟩
def rAbs : List V → Hp → VK → Prop := fun xs H Q => ∃ i, xs = [.int i] ∧ Q (.int (if i < 0 then -i else i)) H
theorem cI_abs : CallR X (.builtin "abs") rAbs := call_abs
theorem rd_abs {i : Int} (q : Q (.int (if i < 0 then -i else i)) H) : rAbs [.int i] H Q := ⟨i, rfl, q⟩
def rMin2 : List V → Hp → VK → Prop := fun xs H Q => ∃ i j, xs = [.int i, .int j] ∧ Q (.int (if j < i then j else i)) H
def rList (K : PySem.W.Frag) : List V → Hp → VK → Prop := fun xs H Q => ∃ p ys, xs = [.ref p] ∧ (SqL K H p ys ∨ SqT K H p ys) ∧ ∀ l, H l = none → Q (.ref l) (upd H l (.lst ys))
theorem cI_list : CallR X (.type "list") (rList X.K) := call_list_of
theorem rd_listL {p : Addr} {ys : List V} (h : H p = some (.lst ys)) (q : ∀ l, H l = none → Q (.ref l) (upd H l (.lst ys))) : rList K [.ref p] H Q := ⟨p, ys, rfl, .inl (SqL.of h), q⟩
def rTuple (K : PySem.W.Frag) : List V → Hp → VK → Prop := fun xs H Q => ∃ p ys, xs = [.ref p] ∧ ((SqL K H p ys ∧ ∀ l, H l = none → Q (.ref l) (upd H l (.tup ys))) ∨ (SqT K H p ys ∧ Q (.ref p) H))
theorem cI_tuple : CallR X (.type "tuple") (rTuple X.K) := call_tuple_of
theorem rd_tupleL {p : Addr} {ys : List V} (h : H p = some (.lst ys)) (q : ∀ l, H l = none → Q (.ref l) (upd H l (.tup ys))) : rTuple K [.ref p] H Q := ⟨p, ys, rfl, .inl ⟨SqL.of h, q⟩⟩
def rInt1 : List V → Hp → VK → Prop := fun xs H Q => (∃ i, xs = [.int i] ∧ Q (.int i) H) ∨ ∃ k, xs = [.bl k] ∧ Q (.int (if k then 1 else 0)) H
/-! attributes, methods, appends -/
def rFld (K : PySem.W.Frag) (f : Str) : V → Hp → VK → Prop := fun x H1 Q => ∃ a C dx fs v, x = .ref a ∧ H1 a = some (.ins C dx fs) ∧ Cls K C ∧ NoAttr K C f ∧ fs.lookup f = some v ∧ Q v H1
theorem rd_fld {ta : TE} {f : Str} (h : ta σ H fun x H1 => rFld K f x H1 Q) : tFld K ta f σ H Q := h
theorem rd_fldv {f : Str} {a C dx : Addr} {fs : List (Str × V)} {v : V} (h : H a = some (.ins C dx fs)) (c : Cls K C) (n : NoAttr K C f) (l : fs.lookup f = some v) (q : Q v H) : rFld K f (.ref a) H Q := ⟨a, C, dx, fs, v, rfl, h, c, n, l, q⟩
def rMeth (C : Addr) (m : Str) : V → Hp → Prop → Prop := fun x H1 q => ∃ a dx fs, x = .ref a ∧ H1 a = some (.ins C dx fs) ∧ fs.lookup m = none ∧ q
theorem rd_meth {C : Addr} {m : Str} {sp : Sp} {dvs : List V} {E : XK} {ta : TE} {t : TA} (h : ta σ H fun x H1 => rMeth C m x H1 (t σ H1 fun vs H2 => sp (x :: (vs ++ dvs)) H2 Q E)) : tMeth C m sp dvs E ta t σ H Q := h
theorem rd_methv {C a dx : Addr} {m : Str} {fs : List (Str × V)} {q : Prop} (h : H a = some (.ins C dx fs)) (l : fs.lookup m = none) (hq : q) : rMeth C m (.ref a) H q := ⟨a, dx, fs, rfl, h, l, hq⟩
theorem rd_make {C : Addr} {sp : Sp} {dvs : List V} {E : XK} {t : TA} (h : t σ H fun vs H1 => ∀ x dx, H1 x = none → H1 dx = none → dx ≠ x →
  sp (.ref x :: (vs ++ dvs)) (upd (upd H1 dx (.own x)) x (.ins C dx [])) (fun v H2 => v = .non ∧ Q (.ref x) H2) E) : tMake C sp dvs E t σ H Q := h
def rBM (K : PySem.W.Frag) (T : String) : V → Hp → Prop → Prop := fun x H1 q => tyV K T x H1 ∧ q
theorem rd_bm {T : String} {r : V → List V → Hp → VK → Prop} {to : TE} {t : TA} (h : to σ H fun x H1 => rBM K T x H1 (t σ H1 fun xs H2 => r x xs H2 Q)) : tBM K T r to t σ H Q := h
theorem rd_bm0 {T : String} {r : V → List V → Hp → VK → Prop} {to : TE} (h : to σ H fun x H1 => rBM K T x H1 (r x [] H1 Q)) : tBM0 K T r to σ H Q := h
theorem rd_bmL {l : Addr} {xs : List V} {q : Prop} (h : H l = some (.lst xs)) (hq : q) : rBM K "list" (.ref l) H q := ⟨.inl ⟨rfl, _, SqL.of h⟩, hq⟩
theorem rd_append {l : Addr} {xs : List V} {y : V} (h : H l = some (.lst xs)) (z : xs.length < sizeLine) (q : Q .non (upd H l (.lst (xs ++ [y])))) : rAppend (.ref l) [y] H Q := ⟨l, xs, y, rfl, rfl, h, z, q⟩
theorem rd_sl {r : V → Option Int → Option Int → Hp → VK → Prop} {te : TE} {tl th : TO} (h : te σ H fun x H1 => tl σ H1 fun l H2 => th σ H2 fun u H3 => r x l u H3 Q) : tSl r te tl th σ H Q := h
theorem rd_nopart {Q : Option Int → Hp → Prop} (h : Q none H) : tNoPart σ H Q := h
theorem rd_part {t : TE} {Q : Option Int → Hp → Prop} (h : t σ H fun x H1 => ∃ i, x = .int i ∧ Q (some i) H1) : tPart t σ H Q := h
theorem rd_slL {a : Addr} {xs : List V} {lo hi : Option Int} (h : H a = some (.lst xs)) (q : ∀ p, H p = none → Q (.ref p) (upd H p (.lst (cutV xs lo hi)))) : rSlL K (.ref a) lo hi H Q := ⟨a, xs, rfl, SqL.of h, q⟩
def ForW (J : It) (g : TG) (tb : TS) (D : Ends) (σ : St) (H1 : Hp) : Prop := ∃ W : Nat → Nat → St → Hp → Prop, (∃ m, W 0 m σ H1) ∧ ∀ i m σ H, W i m σ H →
  (J.stop i H ∧ D.nx σ H) ∨ (J.go i H ∧ ∃ N : St → Hp → Prop, (∀ σ' H', N σ' H' → ∃ m', m' < m ∧ W (i + 1) m' σ' H') ∧ ∀ x H', J.yld i H x H' → g x σ H' fun σ2 H2 => tb { D with nx := N, ct := N, bk := D.nx } σ2 H2)
theorem rd_for {wi : TI} {g : TG} {tb : TS} {D : Ends} (h : wi σ H fun J H1 => ForW J g tb D σ H1) : tFor wi g tb D σ H := h
theorem forW_list {a : Addr} {xs : List V} {g : TG} {tb : TS} {D : Ends} (Pv : Nat → St → Hp → Prop) (h0 : Pv 0 σ H) (hl : ∀ i σ H, i ≤ xs.length → Pv i σ H → SqL K H a xs)
    (hs : ∀ i x σ H, xs[i]? = some x → Pv i σ H → g x σ H fun σ2 H2 => tb { D with nx := Pv (i + 1), ct := Pv (i + 1), bk := D.nx } σ2 H2) (hd : ∀ σ H, Pv xs.length σ H → D.nx σ H) : ForW (Itl K a) g tb D σ H := for_list Pv h0 hl hs hd
theorem forW_range {lo : Int} {n : Nat} {g : TG} {tb : TS} {D : Ends} (Pv : Nat → St → Hp → Prop) (h0 : Pv 0 σ H)
    (hs : ∀ i σ H, i < n → Pv i σ H → g (.int (lo + i)) σ H fun σ2 H2 => tb { D with nx := Pv (i + 1), ct := Pv (i + 1), bk := D.nx } σ2 H2) (hd : ∀ σ H, Pv n σ H → D.nx σ H) : ForW (Itr lo n) g tb D σ H := for_range Pv h0 hs hd
theorem rd_rng1 {ta : TA} {R : It → Hp → Prop} (h : ta σ H fun vs H1 => ∃ j : Int, vs = [.int j] ∧ -(2 ^ 62) ≤ j ∧ j < 2 ^ 62 ∧ R (Itr 0 j.toNat) H1) : iRng1 ta σ H R := h
theorem rd_ilist {tl : TE} {R : It → Hp → Prop} (h : tl σ H fun x H1 => ∃ a, x = .ref a ∧ (∃ xs, SqL K H1 a xs) ∧ R (Itl K a) H1) : iList K tl σ H R := h
end
/-- an item of a list of ints, by its place -/
theorem atI_ints {zs : List Int} {i : Int} (h0 : 0 ≤ i) (h1 : i < zs.length) : atI (zs.map V.int) i = some (.int (zs.getD i.toNat 0)) := by
  obtain ⟨k, rfl⟩ : ∃ k : Nat, i = (k : Int) := ⟨i.toNat, by omega⟩
  refine atI_nat ?_
  have hk : k < zs.length := by omega
  simp [hk]
/-- a fresh object keeps all that was -/
theorem Same.new {H : Hp} {p : Addr} {o : HO} (h : H p = none) : Same H (upd H p o) := fun b u e => by rw [upd_ne (ne_of_none e h)]; exact e
/-- a store into what is younger than H0 -/
theorem Same.later {H0 H : Hp} {p : Addr} {o : HO} (s : Same H0 H) (h : H0 p = none) : Same H0 (upd H p o) := fun b u e => by rw [upd_ne (ne_of_none e h)]; exact s b u e
end L2

set_option Elab.async false
set_option maxRecDepth 100000
namespace L2
open PySem PySem.Spec PyProof.Rows
theorem iteTA {b : Bool} {A B : Prop} (h : if b = true then A else B) : if (true && b) = true then A else B := by rw [Bool.true_and]; exact h
theorem iteNN {b : Bool} {A B : Prop} (h : if b = true then B else A) : if (!b) = true then A else B := by cases b <;> exact h
section
variable {prog : Program} {w : World} {A : Around} {E : Value → Shared → Prop} {s : Shared}
theorem getItem_tuple_whole {t sl : Addr} {items : Array Value} {vl vu : Value} {lo hi : Option Int} {Q : Value → Shared → Prop} (ht : IsTup s.heap t items) (hs : s.heap.IsSliceOf sl vl vu .none) (pl : IsPart vl lo) (pu : IsPart vu hi)
    (hw : HT.sIx items.size 0 lo = 0 ∧ HT.sIx items.size items.size hi = items.size) (h : Q (.ref t) s) : wpAny (model prog w) A (getItem (.ref t) (.ref sl)) Q E s := by
  obtain ⟨os, hos, hcs, hds⟩ := id hs
  have hTs : s.TypeIs (.ref sl) "slice" := ⟨os, hos, hcs⟩
  unfold getItem
  try with_reducible refine wpAny_holding ?_
  first | refine wpAny_bind (wpAny_pure ?_) | skip
  refine wpAny_bind (wpAny_sequenceKey ht.typeIs (by decide) ?_)
  refine wpAny_bind (wpAny_callSpecial?_slot (name := Str.ofString "__getitem__") ht.typeIs PyProof.Rows.slot_tuple_getitem
    (wpAny_call_entry PyProof.Rows.slot_tuple_getitem ht.typeIs entry_tuple_getitem ?_ (args_tuple_getitem _ _)))
  show wpAny _ _ (Builtin.Tuple.tupleItemsOf (.ref t) >>= _) _ _ s
  refine wpAny_bind (tupleItemsOf_ ht ?_)
  refine wpAny_bind (wpAny_typeOf hTs ?_)
  rw [if_pos (by decide)]
  refine wpAny_bind (HT.sliceApplied_gen hs pl pu ?_)
  have hyes : (((HT.sIx items.size 0 lo : Nat) : Int) == 0 && (1 : Int) == 1 && (HT.sIx items.size items.size hi - HT.sIx items.size 0 lo) == items.size) = true := by
    rw [hw.1, hw.2]; simp
  show wpAny _ _ (if (((HT.sIx items.size 0 lo : Nat) : Int) == 0 && (1 : Int) == 1 && (HT.sIx items.size items.size hi - HT.sIx items.size 0 lo) == items.size) = true then _ else _) _ _ s
  rw [if_pos hyes]
  unfold Builtin.Tuple.tupleIsExact
  refine wpAny_bind (wpAny_bind (wpAny_typeOf ht.typeIs (wpAny_pure ?_)))
  rw [if_pos (by decide)]
  first
    | exact wpAny_bind (wpAny_rule (wpAny_pure ⟨_, rfl, wpAny_pure h⟩))
    | exact wpAny_bind (wpAny_rule (wpAny_bind (wpAny_pure (wpAny_pure ⟨_, rfl, wpAny_pure h⟩))))
    | exact wpAny_bind (wpAny_bind (wpAny_rule (wpAny_pure ⟨_, rfl, wpAny_pure h⟩)))
end
/-- t[lo:hi], all of it or a part -/
def rSlT' (K : PySem.W.Frag) : V → Option Int → Option Int → Hp → VK → Prop := fun x lo hi H Q => ∃ a xs, x = .ref a ∧ H a = some (.tup xs) ∧ ∀ H1 p, Same H H1 → H1 p = some (.tup (cutV xs lo hi)) → Q (.ref p) H1
theorem sl_tup' {X : Cx} : SlR X (rSlT' X.K) := by
  intro pins s σ H x v vl vu lo hi sl Q I rx hs pl pu h
  obtain ⟨a, xs, rfl, hx, q⟩ := h
  by_cases hw : HT.sIx xs.length 0 lo = 0 ∧ HT.sIx xs.length xs.length hi = xs.length
  · cases rx
    obtain ⟨its, r, ht, hz⟩ := I.tuple (SqT.of hx)
    have hlen : its.toArray.size = xs.length := by rw [List.size_toArray]; exact r.length.symm
    refine ⟨"tuple", _, PyProof.Rows.slot_tuple_getitem.lookup, ht.typeIs, getItem_tuple_whole ht hs pl pu (by rw [hlen]; exact hw) ⟨.ref a, H, I, rfl, q H a (Same.refl _) ?_⟩⟩
    rw [hx]
    unfold cutV
    rw [hw.1, hw.2, List.drop_zero, Nat.sub_zero, List.take_of_length_le (Nat.le_refl _)]
  · exact sl_tup pins s σ H _ v vl vu lo hi sl Q I rx hs pl pu ⟨a, xs, rfl, SqT.of hx, hw, fun p hp => q _ p (Same.new hp) upd_same⟩
theorem rd_slT {K : PySem.W.Frag} {H : Hp} {Q : VK} {a : Addr} {xs : List V} {lo hi : Option Int} (h : H a = some (.tup xs)) (q : ∀ H1 p, Same H H1 → H1 p = some (.tup (cutV xs lo hi)) → Q (.ref p) H1) : rSlT' K (.ref a) lo hi H Q := ⟨a, xs, rfl, h, q⟩
def CompW (J : It) (g : TG) (tt : TT) (te : TE) (cap : List (Option Nat)) (l : Addr) (σ : St) (H1 : Hp) (Q : VK) : Prop :=
  ∃ (n : Nat) (Pv : Nat → List V → St → Hp → Prop), Pv 0 [] (capS cap σ) (upd H1 l (.lst [])) ∧
    (∀ i ys σ' H', i < n → Pv i ys σ' H' → J.go i H' ∧ ∀ x H2, J.yld i H' x H2 → g x σ' H2 fun σ3 H3 => tt σ3 H3 fun b H4 =>
      if b = true then te σ3 H4 fun y H5 => H5 l = some (.lst ys) ∧ ys.length < sizeLine ∧ Pv (i + 1) (ys ++ [y]) σ3 (upd H5 l (.lst (ys ++ [y]))) else Pv (i + 1) ys σ3 H4) ∧
    ∀ ys σ' H', Pv n ys σ' H' → J.stop n H' ∧ Q (.ref l) H'
section
variable {K : PySem.W.Frag} {σ : St} {H : Hp} {Q : VK} {te : TE} {cap : List (Option Nat)} {l : Addr}
theorem rd_comp {wi : TI} {g : TG} {tt : TT} (h : wi σ H fun J H1 => ∀ l, H1 l = none → CompW J g tt te cap l σ H1 Q) : tComp wi g tt te cap σ H Q := h
theorem take_succ_map {α β : Type} (F : α → β) (xs : List α) (i : Nat) {x : α} (h : xs[i]? = some x) : (xs.take (i + 1)).map F = (xs.take i).map F ++ [F x] := by
  rw [List.take_add_one, h, List.map_append]
  rfl
/-- over a list, each item's value F x, the heap may grow -/
theorem compW_list {a : Addr} {xs : List V} (F : V → V) (hs : SqL K H a xs) (hz : xs.length ≤ 1000) (hl : H l = none)
    (step : ∀ x o H' (Q' : VK), x ∈ xs → Same H H' → (∀ H5, Same H' H5 → Q' (F x) H5) → te (((capS (none :: cap) σ).set 0 o).set 0 (some x)) H' Q')
    (fin : ∀ H', Same H H' → H' l = some (.lst (xs.map F)) → Q (.ref l) H') : CompW (Itl K a) (gName 0) tTrue te (none :: cap) l σ H Q := by
  refine ⟨xs.length, fun i ys σ' H' => ys = (xs.take i).map F ∧ (∃ o, σ' = (capS (none :: cap) σ).set 0 o) ∧ Same H H' ∧ H' l = some (.lst ys), ⟨rfl, ⟨none, rfl⟩, Same.new hl, upd_same⟩, ?_, ?_⟩
  · rintro i ys σ' H' hi ⟨rfl, ⟨o, rfl⟩, s, e⟩
    refine ⟨⟨xs, xs[i], s.seq hs, by simp [hi]⟩, fun x H2 y => ?_⟩
    obtain ⟨e2, y⟩ := y
    subst e2
    have hx := y xs (s.seq hs)
    refine rd_name (rd_true (iteT ?_))
    refine step x o H2 _ (List.mem_of_getElem? hx) s fun H5 s5 => ⟨s5 _ _ e, ?_, ?_⟩
    · rw [List.length_map, List.length_take]
      exact small1000 (by omega)
    · exact ⟨(take_succ_map F xs i hx).symm, ⟨_, List.set_set ..⟩, (s.trans s5).later hl, upd_same⟩
  · rintro ys σ' H' ⟨rfl, _, s, e⟩
    rw [List.take_of_length_le (Nat.le_refl _)] at e
    exact ⟨⟨xs, s.seq hs, Nat.le_refl _⟩, fin H' s e⟩
/-- over a range from nought -/
theorem compW_range {n : Nat} (F : Nat → V) (hz : n ≤ 1000) (hl : H l = none)
    (step : ∀ i o H' (Q' : VK), i < n → Same H H' → (∀ H5, Same H' H5 → Q' (F i) H5) → te (((capS (none :: cap) σ).set 0 o).set 0 (some (.int ((0 : Int) + (i : Nat))))) H' Q')
    (fin : ∀ H', Same H H' → H' l = some (.lst ((List.range n).map F)) → Q (.ref l) H') : CompW (Itr 0 n) (gName 0) tTrue te (none :: cap) l σ H Q := by
  refine ⟨n, fun i ys σ' H' => ys = (List.range i).map F ∧ (∃ o, σ' = (capS (none :: cap) σ).set 0 o) ∧ Same H H' ∧ H' l = some (.lst ys), ⟨rfl, ⟨none, rfl⟩, Same.new hl, upd_same⟩, ?_, ?_⟩
  · rintro i ys σ' H' hi ⟨rfl, ⟨o, rfl⟩, s, e⟩
    refine ⟨hi, fun x H2 y => ?_⟩
    obtain ⟨e2, rfl⟩ := y
    subst e2
    refine rd_name (rd_true (iteT ?_))
    refine step i o H2 _ hi s fun H5 s5 => ⟨s5 _ _ e, ?_, ?_⟩
    · rw [List.length_map, List.length_range]
      exact small1000 (by omega)
    · refine ⟨?_, ⟨_, List.set_set ..⟩, (s.trans s5).later hl, upd_same⟩
      rw [List.range_succ, List.map_append]
      rfl
  · rintro ys σ' H' ⟨rfl, _, s, e⟩
    exact ⟨Nat.le_refl _, fin H' s e⟩
def rSFld (K : PySem.W.Frag) (f : Str) (y x : V) (H2 : Hp) (k : Hp → Prop) : Prop := ∃ a C dx fs, x = .ref a ∧ H2 a = some (.ins C dx fs) ∧ Cls K C ∧ NoAttr K C f ∧ fs.length < 1000 ∧ k (upd H2 a (.ins C dx (putF f y fs)))
theorem rd_sfld {D : Ends} {ta tv : TE} {f : Str} (h : tv σ H fun y H1 => ta σ H1 fun x H2 => rSFld K f y x H2 fun H3 => D.nx σ H3) : sFld K ta tv f D σ H := h
theorem rd_sfldv {f : Str} {y : V} {k : Hp → Prop} {a C dx : Addr} {fs : List (Str × V)} (h : H a = some (.ins C dx fs)) (c : Cls K C) (n : NoAttr K C f) (z : fs.length < 1000) (q : k (upd H a (.ins C dx (putF f y fs)))) : rSFld K f y (.ref a) H k := ⟨a, C, dx, fs, rfl, h, c, n, z, q⟩
def WhileW (c : TT) (tb : TS) (D : Ends) (σ : St) (H : Hp) : Prop := ∃ W : Nat → St → Hp → Prop, (∃ m, W m σ H) ∧ ∀ m σ H, W m σ H →
  c σ H fun b H1 => if b = true then ∃ N : St → Hp → Prop, (∀ σ' H', N σ' H' → ∃ m', m' < m ∧ W m' σ' H') ∧ tb { D with nx := N, ct := N, bk := D.nx } σ H1 else D.nx σ H1
theorem rd_while {D : Ends} {c : TT} {tb : TS} (h : WhileW c tb D σ H) : tWhile c tb D σ H := h
theorem rd_aug {D : Ends} {i : Nat} {te : TE} {ti : TIp} {x : V} (e : σ[i]? = some (some x)) (h : te σ H fun y H1 => ti x y H1 fun z H2 => D.nx (σ.set i (some z)) H2) : tAug i te ti D σ H := ⟨x, e, h⟩
theorem rd_ipI {f : Int → Int → Int} {i j : Int} (h : Q (.int (f i j)) H) : ipI f (.int i) (.int j) H Q := ⟨i, j, rfl, rfl, h⟩
theorem rd_gtup {n : Nat} {tt : TGs} {a : Addr} {xs : List V} {QS : St → Hp → Prop} (h : H a = some (.tup xs)) (hl : xs.length = n) (q : tt xs σ H QS) : gTup K n tt (.ref a) σ H QS := ⟨a, xs, rfl, SqT.of h, hl, q⟩
theorem rd_gcons {tg : TG} {u : TGs} {v : V} {r : List V} {QS : St → Hp → Prop} (h : tg v σ H fun σ' H' => u r σ' H' QS) : gCons tg u (v :: r) σ H QS := ⟨v, r, rfl, h⟩
theorem rd_gnil {QS : St → Hp → Prop} (h : QS σ H) : gNil [] σ H QS := ⟨rfl, h⟩
end
section
variable {X : Cx} (K : PySem.W.Frag) (h : X.K = K)
include h
theorem ix_listK : IxR X (rIxL K) := h ▸ ix_list
theorem ix_tupK : IxR X (rIxT K) := h ▸ ix_tup
theorem cI_isinstK : CallR X (.builtin "isinstance") (rIsi K) := h ▸ cI_isinst
theorem cI_lenK : CallR X (.builtin "len") (rLen K) := h ▸ cI_len
theorem cI_allK (hc : X.calm = true) : CallR X (.builtin "all") (rAll K) := h ▸ cI_all hc
theorem cI_sumK (hc : X.calm = true) : CallR X (.builtin "sum") (rSum K) := h ▸ cI_sum hc
theorem cI_listK : CallR X (.type "list") (rList K) := h ▸ cI_list
theorem cI_tupleK : CallR X (.type "tuple") (rTuple K) := h ▸ cI_tuple
theorem sl_listK : SlR X (rSlL K) := h ▸ sl_list
theorem sl_tupK : SlR X (rSlT' K) := h ▸ sl_tup'
theorem pe_fldK {e : Expr} {ta : TE} {f : Str} {pos : Pos} (he : PE X e ta) (hb : attributeBase e f X.env (eval e X.env) = eval e X.env) : PE X (.Attribute e f pos) (tFld K ta f) := h ▸ pe_fld he hb
end
theorem cutV_drop {zs : List Int} {k : Nat} : cutV (zs.map V.int) (some (k : Int)) none = (zs.drop k).map V.int := by
  unfold cutV
  rw [HT.sIx_none, HT.sIx_nat, List.length_map]
  rcases Nat.le_total k zs.length with h | h
  · rw [Nat.min_eq_left h, ← List.map_drop, List.take_of_length_le (by rw [List.length_map, List.length_drop]; omega)]
  · rw [Nat.min_eq_right h, List.drop_eq_nil_of_le h, Nat.sub_self, List.take_zero]; rfl
theorem getD_mem {α : Type} {zs : List α} {k : Nat} {d : α} (h : k < zs.length) : zs.getD k d ∈ zs := by
  rw [List.getD_eq_getElem?_getD, List.getElem?_eq_getElem h]
  exact List.getElem_mem h
end L2

set_option Elab.async false
set_option maxRecDepth 100000
namespace L2
open PySem PySem.Spec PyProof.Rows
theorem pg_tupK {X : Cx} (K : PySem.W.Frag) (hK : X.K = K) {es : List Expr} {k : Nat} {t : TGs} {n : Nat} {pos : Pos} (hc : X.calm = true) (h : PGs X es t)
    (hn : (assignEach es X.env).length = n := by rfl) (hst : (assignEach es X.env).findIdx? (·.1) = none := by rfl) : PG X (.Tuple es k pos) (gTup K n t) := hK ▸ pg_tup hc h hn hst
theorem repL_ints {H : Hp} : ∀ (ns : List Int), RepL H (ns.map PyData.int) (ns.map V.int)
  | [] => by simp only [List.map_nil, RepL]
  | n :: r => by
    simp only [List.map_cons, RepL, Rep]
    exact ⟨_, _, rfl, rfl, repL_ints r⟩
theorem rep_ints {H : Hp} {a : Addr} {ns : List Int} (h : H a = some (.lst (ns.map V.int))) : Rep H (.list (ns.map PyData.int)) (.ref a) := by
  simp only [Rep]
  exact ⟨a, _, rfl, h, repL_ints ns⟩
theorem eqv_ints : ∀ ns ms : List Int, PyData.eqvAll (ns.map PyData.int) (ms.map PyData.int) = decide (ns = ms)
  | [], [] => by simp [PyData.eqvAll]
  | [], _ :: _ => by simp [PyData.eqvAll]
  | _ :: _, [] => by simp [PyData.eqvAll]
  | a :: r, b :: u => by
    simp only [List.map_cons, PyData.eqvAll, PyData.eqv, eqv_ints r u]
    by_cases h : a = b <;> by_cases h' : r = u <;> simp [h, h']
theorem rd_neInts {H : Hp} {Q : VK} {a b : Addr} {ns ms : List Int} (ha : H a = some (.lst (ns.map V.int))) (hb : H b = some (.lst (ms.map V.int))) (q : Q (.bl (!decide (ns = ms))) H) : rEqD true (.ref a) (.ref b) H Q :=
  ⟨_, _, rep_ints ha, rep_ints hb, PySem.W.ke_shaped_ints _, PySem.W.ke_shaped_ints _, by
    have e : PyData.eqv (.list (ns.map PyData.int)) (.list (ms.map PyData.int)) = decide (ns = ms) := by simp only [PyData.eqv]; exact eqv_ints ns ms
    rw [e]; exact q⟩
theorem repL_get {H : Hp} : ∀ {ds : List PyData} {xs : List V}, RepL H ds xs → ds.length = xs.length ∧ ∀ (i : Nat) x, xs[i]? = some x → ∃ d, ds[i]? = some d ∧ Rep H d x
  | [], xs, h => by simp only [RepL] at h; subst h; exact ⟨rfl, fun i x e => by simp at e⟩
  | d :: ds, xs, h => by
    simp only [RepL] at h
    obtain ⟨x, r, rfl, h1, h2⟩ := h
    obtain ⟨l, g⟩ := repL_get h2
    refine ⟨by simp [l], fun i y e => ?_⟩
    cases i with
    | zero => simp at e; subst e; exact ⟨d, rfl, h1⟩
    | succ i => exact g i y (by simpa using e)
theorem compW_zip {K : PySem.W.Frag} {σ : St} {H : Hp} {Q : VK} {te : TE} {l a b : Addr} {xs ys : List V} (F : Nat → V) (hx : H a = some (.lst xs)) (hy : H b = some (.lst ys)) (he : xs.length = ys.length) (hz : xs.length ≤ 1000) (hl : H l = none)
    (step : ∀ (i : Nat) x y H' (Q' : VK), xs[i]? = some x → ys[i]? = some y → Same H H' → (∀ H5, Same H' H5 → Q' (F i) H5) → te [some x, some y] H' Q')
    (fin : ∀ H', Same H H' → H' l = some (.lst ((List.range xs.length).map F)) → Q (.ref l) H') : CompW (Itz K a b) (gTup K 2 (gCons (gName 0) (gCons (gName 1) gNil))) tTrue te [none, none] l σ H Q := by
  refine ⟨xs.length, fun i zs σ' H' => zs = (List.range i).map F ∧ (∃ o o', σ' = [o, o']) ∧ Same H H' ∧ H' l = some (.lst zs), ⟨rfl, ⟨none, none, rfl⟩, Same.new hl, upd_same⟩, ?_, ?_⟩
  · rintro i zs σ' H' hi ⟨rfl, ⟨o, o', rfl⟩, s, e⟩
    refine ⟨⟨xs, ys, xs[i], ys[i]'(by omega), SqL.of (s _ _ hx), SqL.of (s _ _ hy), by simp [hi], by simp⟩, fun v H2 z => ?_⟩
    obtain ⟨T, rfl, hT, z⟩ := z
    obtain ⟨x, y, ex, ey, rfl⟩ := z xs ys (SqL.of (s _ _ hx)) (SqL.of (s _ _ hy))
    have sT := Same.new (o := HO.tup [x, y]) hT
    refine rd_gtup upd_same rfl (rd_gcons (rd_name (rd_gcons (rd_name (rd_gnil (rd_true (iteT ?_)))))))
    refine step i x y _ _ ex ey (s.trans sT) fun H5 s5 => ⟨s5 _ _ (sT _ _ e), ?_, ?_⟩
    · rw [List.length_map, List.length_range]
      exact small1000 (by omega)
    · refine ⟨?_, ⟨_, _, rfl⟩, ((s.trans sT).trans s5).later hl, upd_same⟩
      rw [List.range_succ, List.map_append]
      rfl
  · rintro zs σ' H' ⟨rfl, _, s, e⟩
    exact ⟨⟨xs, ys, SqL.of (s _ _ hx), SqL.of (s _ _ hy), .inl (Nat.le_refl _)⟩, fin H' s e⟩
end L2

set_option Elab.async false
set_option maxRecDepth 100000
namespace L2
open PySem PySem.Spec PyProof.Rows
/-- an exception that flies: its records are no object of g (the heap at the entry), none of them is tracked -/
structure Exc (g h : Heap) (H : Hp) (e C : Addr) : Prop where
  tr : h.Traced g e (.ref C)
  ne : g.get? e = none
  he : H e = none
  hT : ∀ oe vs T, h.get? e = some oe → oe.data = .fields vs → vs[1]? = some (.ref T) → H T = none
def CX1 (P : Program) (w : World) : CXT := fun outer H s E x s' => ∃ (e C : Addr) (H' : Hp), x = .ref e ∧ s'.os = s.os ∧ AllBare s'.gens ∧ Un (frs outer) [] H H' s.heap s'.heap ∧ HOk P w H' s'.heap ∧ Exc s.heap s'.heap H' e C ∧ E (.ref C) none H'
section
variable {X : Cx} {pins : List (Addr × Obj)} {σ : St} {H : Hp} {s : Shared}
/-- what a step that notes a frame leaves: all but the frames and the records at es -/
theorem Inv.left {h' : Heap} {es : List Addr} (I : Inv X pins σ H s) (hs : X.stack = X.env :: X.outer) (he : ∀ b ∈ es, H b = none ∧ X.s₀.heap.get? b = none)
    (keep : ∀ b o, s.heap.get? b = some o → b ∉ frs X.stack → b ∉ es → h'.get? b = some o) (slot : ∀ b o, s.heap.get? b = some o → b ∈ frs X.stack → ∃ sl, h'.get? b = some { o with slots := sl }) : Un X.fs X.ex X.H₀ H X.s₀.heap h' ∧ HOk X.prog X.w H h' := by
  have sub : ∀ b ∈ X.fs, b ∈ frs X.stack := fun b hb => by
    rw [hs]; unfold frs; rw [List.filterMap_cons]
    cases X.env.frame with
    | none => exact hb
    | some f => exact List.mem_cons_of_mem _ hb
  have nfr : ∀ b u, H b = some u → b ∉ frs X.stack := fun b u e z => by rw [I.stkFree b z] at e; cases e
  have nes : ∀ b u, H b = some u → b ∉ es := fun b u e z => by rw [(he b z).1] at e; cases e
  have neL : ∀ b o, X.s₀.heap.get? b = some o → b ∉ X.fs → b ∉ frs X.stack := fun b o e hb z => by
    rcases List.mem_cons.mp (I.stkSub b z) with q | q
    · exact absurd (Nat.lt_of_lt_of_le (Heap.lt_size e) (q ▸ I.ok.above)) (Nat.lt_irrefl _)
    · exact hb q
  have ne0 : ∀ b o, X.s₀.heap.get? b = some o → b ∉ es := fun b o e z => by rw [(he b z).2] at e; cases e
  refine ⟨⟨fun b o e n hb hx => keep b o (I.base.keep b o e n hb hx) (neL b o e hb) (ne0 b o e), fun b o e n hb hx => ?_, I.base.free, fun b o e hx => ?_, I.base.tups, I.base.frzs, I.base.tbls⟩, fun b u e => ?_⟩
  · obtain ⟨sl, e1⟩ := I.base.slot b o e n hb hx
    obtain ⟨sl', e2⟩ := slot b _ e1 (sub b hb)
    exact ⟨sl', e2⟩
  · obtain ⟨o', e1⟩ := I.base.there b o e hx
    by_cases hf : b ∈ frs X.stack
    · obtain ⟨sl, e2⟩ := slot b o' e1 hf
      exact ⟨_, e2⟩
    · exact ⟨o', keep b o' e1 hf (ne0 b o e)⟩
  · refine (I.hok b u e).stay (fun c v hc q => ?_) (fun _ q => q) fun _ _ q => q
    rcases hc with z | z
    · rw [z] at q ⊢; exact keep b v q (nfr b u e) (nes b u e)
    · exact keep c v q (nfr c _ z) (nes c _ z)
end
theorem ObjOk.get {P : Program} {w : World} {H : Hp} {h : Heap} {a : Addr} {o : HO} (x : ObjOk P w H h a o) : ∃ ob, h.get? a = some ob := by
  cases o with
  | lst xs => obtain ⟨_, _, _, _, e⟩ := x; exact ⟨_, e⟩
  | tup xs => obtain ⟨_, _, _, p⟩ := x; obtain ⟨o, e, _⟩ := p; exact ⟨_, e⟩
  | dK kvs => obtain ⟨_, _, _, _, o, _, _, e, _⟩ := x; exact ⟨_, e⟩
  | dT kvs => obtain ⟨_, _, _, _, o, _, _, e, _⟩ := x; exact ⟨_, e⟩
  | set S n => obtain ⟨o, _, _, _, e, _⟩ := x; exact ⟨_, e⟩
  | ins C dx fs => obtain ⟨_, _, _, e, _⟩ := x; exact ⟨_, e⟩
  | own y => obtain ⟨_, e⟩ := x; exact ⟨_, e⟩
  | xd fs => obtain ⟨_, ⟨_, _, _, e, _⟩, _⟩ := x; exact ⟨_, e⟩
  | rng lo hi => obtain ⟨_, _, _, e⟩ := x; exact ⟨_, e⟩
  | frz ob u => obtain ⟨e, _⟩ := x; exact ⟨_, e⟩
  | tbl ps => exact ⟨_, (show h.get? a = some _ from x)⟩
  | met f y => exact ⟨_, (show h.get? a = some _ from x)⟩
  | ext φ => obtain ⟨_, ⟨_, e⟩, _⟩ := x; exact ⟨_, e⟩
theorem HOk.none_of {P : Program} {w : World} {H : Hp} {h : Heap} {a : Addr} (k : HOk P w H h) (e : h.get? a = none) : H a = none := by
  cases q : H a with
  | none => rfl
  | some o => obtain ⟨_, z⟩ := (k a o q).get; rw [e] at z; cases z
section
variable {P : Program} {w : World} {K : PySem.W.Frag} {mg : Str → Option Value} {base : Heap} {N : List Str} {qual : Str} {scope : Scope} {f : Addr} {cd : Value} {A : Around} {outer : List Env} {s₀ : Shared} {H₀ : Hp} {E : XK} {pins : List (Addr × Obj)} {σ : St} {H : Hp} {s : Shared}
theorem stack_in {l : List Env} {as : List Addr} (h : ∀ b ∈ frs l, b ∈ as) : ∀ env ∈ l, ∀ a, env.frame = some a → a ∈ as := fun env he a ha => h a (List.mem_filterMap.mpr ⟨env, he, ha⟩)
/-- an exception just made leaves the body -/
theorem xe_new {h' : Heap} {t' : Nat} {e C : Addr} {vs : List Value} (I : Inv (cxOf (CX1 P w) P w K mg base N qual scope f cd A outer s₀ H₀ E) pins σ H s) (hx : Heap.MadeExcOf s.heap h' e (.ref C) vs) (q : E (.ref C) none H) :
    (cxOf (CX1 P w) P w K mg base N qual scope f cd A outer s₀ H₀ E).xe (.ref e) { s with heap := h', toks := t' } := by
  have I1 := I.kept (t' := t') hx.keeps
  obtain ⟨t, he, ht, _⟩ := hx.there
  have hs0 : s₀.heap.get? e = none := by
    cases z : s₀.heap.get? e with
    | none => rfl
    | some o => obtain ⟨o', z'⟩ := I.base.there e o z (by intro q; cases q); rw [hx.new] at z'; cases z'
  have hHe : H e = none := I.hok.none_of hx.new
  have ff := I1.stack
  have hl := PySem.W.funFrames_hide (as := e :: frs (cxOf (CX1 P w) P w K mg base N qual scope f cd A outer s₀ H₀ E).stack) ff (stack_in fun b hb => List.mem_cons_of_mem _ hb)
  refine wpAny_leaving_first (base := PySem.W.hideAll h' (e :: frs (cxOf (CX1 P w) P w K mg base N qual scope f cd A outer s₀ H₀ E).stack)) (L := s₀.heap.objs.size) (e := e) (s := { s with heap := h', toks := t' }) I.ok.frames hl rfl he (fun b o z => ?_) (PySem.W.hideAll_none _ List.mem_cons_self) rfl rfl fun h2 lf => ?_
  · exact PySem.W.of_hideAll _ z
  · obtain ⟨st, ff2, tr, up⟩ := lf
    have lf := I1.left (h' := h2) (es := [e]) rfl (fun b hb => by rw [List.mem_singleton.mp hb]; exact ⟨hHe, hs0⟩) (fun b o z nf ne => st b o (PySem.W.hideAll_get _ z (by intro m; rcases List.mem_cons.mp m with r | r; exact ne (by simp [r]); exact nf r)))
      (fun b o z hb => by
        obtain ⟨_, o', z', hd⟩ := ff.mem hb
        rw [z] at z'; cases z'
        exact up b o z hd)
    obtain ⟨oe, ws, T, oT, ts, g1, g2, g3, g4, g5, g6, g7, g8, g9⟩ := tr
    have nT : T ∉ frs (cxOf (CX1 P w) P w K mg base N qual scope f cd A outer s₀ H₀ E).stack := fun z => by
      obtain ⟨_, o, zo, hd⟩ := ff2.mem z
      rw [g7] at zo; cases zo
      exact hd ts g8
    have key : ∀ o, h'.get? T = some o → False := fun o z => by
      rw [PySem.W.hideAll_get _ z (by intro m; rcases List.mem_cons.mp m with r | r; exact g6 r; exact nT r)] at g5
      cases g5
    have hT0 : s₀.heap.get? T = none := by
      cases z : s₀.heap.get? T with
      | none => rfl
      | some o => obtain ⟨o', z'⟩ := I1.base.there T o z (by intro q; cases q); exact (key o' z').elim
    have hHT : H T = none := by
      cases z : H T with
      | none => rfl
      | some o => obtain ⟨o', z'⟩ := (I1.hok T o z).get; exact (key o' z').elim
    refine ⟨e, C, H, rfl, I.os, I.bare, lf.1, lf.2, ⟨⟨oe, ws, T, oT, ts, g1, g2, g3, g4, hT0, g6, g7, g8, g9⟩, hs0, hHe, fun oe' vs' T' z1 z2 z3 => ?_⟩, q⟩
    rw [g1] at z1; cases z1
    rw [g3] at z2; cases z2
    rw [g4] at z3; cases z3
    exact hHT
/-- a callee's exception leaves the body too -/
theorem pass1 : Passes (CX1 P w) (cxOf (CX1 P w) P w K mg base N qual scope f cd A outer s₀ H₀ E) E := by
  intro pins σ H s x s' I h
  obtain ⟨e, C, H', rfl, os, bare, un, hok, ex, q⟩ := h
  have J := I.call' (s' := s') (ch := []) os un hok bare (fun b hb => by cases hb)
  obtain ⟨⟨oe, ws, T, oT, ts, g1, g2, g3, g4, g5, g6, g7, g8, g9⟩, ne, hHe, hHT⟩ := ex
  have hHT := hHT oe ws T g1 g3 g4
  have s0 : ∀ {b : Addr}, s.heap.get? b = none → s₀.heap.get? b = none := fun {b} hb => by
    cases z : s₀.heap.get? b with
    | none => rfl
    | some o => obtain ⟨o', z'⟩ := I.base.there b o z (by intro q; cases q); rw [hb] at z'; cases z'
  have ff := J.stack
  have hl := PySem.W.funFrames_hide (as := e :: T :: frs (cxOf (CX1 P w) P w K mg base N qual scope f cd A outer s₀ H₀ E).stack) ff (stack_in fun b hb => List.mem_cons_of_mem _ (List.mem_cons_of_mem _ hb))
  refine wpAny_leaving_next (base := PySem.W.hideAll s'.heap (e :: T :: frs (cxOf (CX1 P w) P w K mg base N qual scope f cd A outer s₀ H₀ E).stack)) (L := s₀.heap.objs.size) (e := e) (s := s') J.ok.frames hl rfl
    ⟨oe, ws, T, oT, ts, g1, g2, g3, g4, PySem.W.hideAll_none _ (List.mem_cons_of_mem _ List.mem_cons_self), g6, g7, g8, g9⟩ (fun b o z => PySem.W.of_hideAll _ z) (PySem.W.hideAll_none _ List.mem_cons_self) fun h2 lf => ?_
  obtain ⟨st, ff2, tr, up⟩ := lf
  have lf := J.left (h' := h2) (es := [e, T]) rfl (fun b hb => by
      simp only [List.mem_cons, List.not_mem_nil, or_false] at hb
      rcases hb with rfl | rfl
      · exact ⟨hHe, s0 ne⟩
      · exact ⟨hHT, s0 g5⟩) (fun b o z nf ne => st b o (PySem.W.hideAll_get _ z (by
        intro m
        rcases List.mem_cons.mp m with r | m
        · exact ne (by simp [r])
        · rcases List.mem_cons.mp m with r | r
          · exact ne (by simp [r])
          · exact nf r)))
      (fun b o z hb => by
        obtain ⟨_, o', z', hd⟩ := ff.mem hb
        rw [z] at z'; cases z'
        exact up b o z hd)
  obtain ⟨oe2, ws2, T2, oT2, ts2, k1, k2, k3, k4, k5, k6, k7, k8, k9⟩ := tr
  have nT : T2 ∉ frs (cxOf (CX1 P w) P w K mg base N qual scope f cd A outer s₀ H₀ E).stack := fun z => by
    obtain ⟨_, o, zo, hd⟩ := ff2.mem z
    rw [k7] at zo; cases zo
    exact hd ts2 k8
  have hT0 : s₀.heap.get? T2 = none ∧ H' T2 = none := by
    by_cases r : T2 = T
    · subst r; exact ⟨s0 g5, hHT⟩
    · have key : ∀ o, s'.heap.get? T2 = some o → False := fun o z => by
        rw [PySem.W.hideAll_get _ z (by
          intro m
          rcases List.mem_cons.mp m with q | m
          · exact k6 q
          · rcases List.mem_cons.mp m with q | q
            · exact r q
            · exact nT q)] at k5
        cases k5
      constructor
      · cases z : s₀.heap.get? T2 with
        | none => rfl
        | some o => obtain ⟨o', z'⟩ := J.base.there T2 o z (by intro q; cases q); exact (key o' z').elim
      · cases z : H' T2 with
        | none => rfl
        | some o => obtain ⟨o', z'⟩ := (J.hok T2 o z).get; exact (key o' z').elim
  refine ⟨e, C, H', rfl, J.os, J.bare, lf.1, lf.2, ⟨⟨oe2, ws2, T2, oT2, ts2, k1, k2, k3, k4, hT0.1, k6, k7, k8, k9⟩, s0 ne, hHe, fun oe' vs' T' z1 z2 z3 => ?_⟩, q⟩
  rw [k1] at z1; cases z1
  rw [k3] at z2; cases z2
  rw [k4] at z3; cases z3
  exact hT0.2
end
end L2

set_option Elab.async false
set_option maxRecDepth 100000
namespace L2
open PySem PySem.Spec PyProof.Rows
def tRaise (C : Addr) (E : XK) (t : TA) : TS := fun _ σ H => t σ H fun vs H1 => vs.length ≤ sizeLine ∧ E (.ref C) none H1
/-- raise C(e, ..), C an own class without an __init__ -/
theorem ps_raise {X : Cx} {E : XK} {x : Str} {C : Addr} {B newId initId : String} {bm : List Value} {np cpos pos : Pos} {e : Expr} {es : List Expr} {t : TA} (O : OwnCls x C bm newId X.mg X.base) (FB : ExcBaseFacts B newId initId bm) (hc : X.calm = true) (hg : Gl X x)
    (hx : ∀ (pins : List (Addr × Obj)) (σ : St) (H : Hp) (s : Shared) (h' : Heap) (t' : Nat) (e : Addr) (vs : List Value), Inv X pins σ H s → Heap.MadeExcOf s.heap h' e (.ref C) vs → E (.ref C) none H → X.xe (.ref e) { s with heap := h', toks := t' })
    (ha : PA X (e :: es) t) (hd : (x == ("__debug__" : Str)) = false := by decide) (he : starEach (e :: es) X.env = (false, eval e X.env) :: starEach es X.env := by rfl) (hpl : (backTo cpos (starEach es X.env)).any (·.1) = false := by rfl) :
    PS X (.Raise (some (.Call (.Name x np) (e :: es) [] cpos)) none pos) (tRaise C E t) := by
  intro pins s σ H D I h
  obtain ⟨tl, N, nm, q, bs, hdct, sn, sub, ab, col, dd, k0, k1, k2, k3, k5, mN, hC, hN, hni, T⟩ := O.obj
  refine wpAny_Raise_call_subT (C := C) (nm := nm) (q := q) (N := N) (bs := bs) (bm := tl) (hdct := hdct) (sn := sn) (sub := sub) (ab := ab) (col := col) (dd := dd) (k0 := k0) (k1 := k1) (k2 := k2) (k3 := k3) (k5 := k5)
    FB (mN := mN) (T.hasType FB.hasBase) (I.ok.hd hc) (by rw [he]; show (false || (backTo cpos (starEach es X.env)).any (·.1)) = false; rw [hpl]; rfl) hni (ld_glob I hg O.bound ⟨rfl, ?_⟩ hd)
  have h1 := ha cpos pins s σ H _ I h
  rw [he] at h1 ⊢
  refine Calls.evalArgs_plain (wpAny_mono h1 (fun us s2 ⟨vs, H2, I2, r2, hl, hE⟩ => ⟨rfl, by show us.length ≤ sizeLine; rw [← r2.length]; exact hl, I2.bk _ _ hC, hN.keeps I2.bk, T.keeps I2.bk, fun h' a mk => ?_⟩) fun _ _ y => y)
  exact hx pins σ H2 s2 h' s2.toks a us I2 mk hE
section
variable {P : Program} {w : World} {K : PySem.W.Frag} {mg : Str → Option Value} {base : Heap}
/-- THE RULE for a def that may raise -/
theorem Fun.ok1 {x qual : Str} {st : Stmt} {f : Addr} {fd : FuncData} {N ps : List Str} {k : Nat} {sp : Sp} (F : Fun K x qual st f fd) (S : FnScope N ps (defScope st)) (len : ∀ vs H Q E, sp vs H Q E → vs.length = ps.length)
    (hbody : ∀ (cdv : Value) (A : Around) (outer : List Env) (s : Shared) (H : Hp) (vs : List V) (Q : VK) (E : XK), Room k (A.deeper (envOfC qual (defScope st) s.heap.objs.size f cdv)) → sp vs H Q E →
      ∃ t, PSs (cxOf (CX1 P w) P w K mg base N qual (defScope st) f cdv A outer s H E) (defBody st) t ∧ t { nx := fun _ H' => Q .non H', rt := Q } (start N vs) H) : FnOk P w K mg base (CX1 P w) (k + 1) f fd ps sp := by
  obtain ⟨oc, od, kV, doc, pm, an, cdv, ct, osl, rfl, lk, hcd⟩ := F.ex
  exact fn_of lk hcd S len fun A outer s H vs Q E hr hsp => hbody cdv A outer s H vs Q E hr hsp
/-- a def that does not raise, called where it may be raised -/
theorem FnOk.up {k : Nat} {f : Addr} {fd : FuncData} {ps : List Str} {sp : Sp} (F : FnOk P w K mg base CX0 k f fd ps sp) : FnOk P w K mg base (CX1 P w) k f fd ps sp :=
  ⟨F.len, fun A outer s H args us vs Q E hr e0 hb hv hs => codeAny_mono (F.run A outer s H args us vs Q E hr e0 hb hv hs) fun r s' h => by
    cases r with
    | error e => exact False.elim h
    | ok fl => cases fl <;> exact h⟩
end
end L2

set_option Elab.async false
set_option maxRecDepth 100000
namespace L2
open PySem PySem.Spec PyProof.Rows PySem.W Builtin Builtin.ObjectAttr Builtin.Getset_descriptor
section
variable {prog : Program} {w : World} {A : Around} {E : Value → Shared → Prop} {s : Shared} {K : PySem.W.Frag} {x C : Addr} {R : Result → Shared → Prop}
end
end L2

set_option Elab.async false
set_option maxRecDepth 100000
namespace L2
open PySem PySem.Spec PyProof.Rows
/-! ### an exception that is held: what is told of its class -/
/-- the facts of an own class of exceptions -/
structure ExcIn (K : PySem.W.Frag) (C : Addr) : Prop where
  ga : PySem.W.findIn K (.ref C) "__getattribute__" = some (some (.builtin "BaseException.__getattribute__"))
  gt : PySem.W.findIn K (.ref C) "__getattr__" = some none
  cl : PySem.W.findIn K (.ref C) "__class__" = some (some (.builtin "object.__class__"))
  gs : PySem.W.specialIn K (.builtin "object.__class__") "__get__" = some (some (.builtin "getset_descriptor.__get__"))
  tk : PySem.W.takesIn K (.builtin "object.__class__") = some true
  mo : PySem.W.mroIn K C (.type "object") = some true
  mb : PySem.W.mroIn K C (.type "BaseException") = some true
def ExcAt (e C : Addr) (h : Heap) : Prop := ∃ o, h.get? e = some o ∧ o.cls = .ref C
def ExcO (e C : Addr) : HO := .ext (ExcAt e C)
/-- isinstance(e, C) of a held exception -/
def rIsiX (K : PySem.W.Frag) : List V → Hp → VK → Prop := fun xs H Q => ∃ e C y c b, xs = [.ref e, y] ∧ H e = some (ExcO e C) ∧ ExcIn K C ∧ RelV y c ∧ PySem.W.kitOne K (.ref C) c = some b ∧ Q (.bl b) H
/-! ### the state while an exception is held -/
section
variable {X : Cx} {pins : List (Addr × Obj)} {σ : St} {H : Hp} {s : Shared}
end
end L2

set_option Elab.async false
set_option maxRecDepth 100000
namespace L2
open PySem PySem.Spec PyProof.Rows
/-! ### try: the body's own wish about exceptions -/
abbrev Cx.tryIn (X : Cx) (pins : List (Addr × Obj)) (E : Value → Shared → Prop) : Cx := { X with pn := X.pn ++ pins, xe := E }
section
variable {X : Cx} {pins pins' : List (Addr × Obj)} {σ : St} {H : Hp} {s : Shared} {E : Value → Shared → Prop}
end
/-- how an exception lies at the end of a try's body -/
def XT (X : Cx) (pins : List (Addr × Obj)) (ET : St → XK) : Value → Shared → Prop := fun x s' => ∃ (σ : St) (e C : Addr) (H' : Hp), x = .ref e ∧ Inv X pins σ H' s' ∧ Exc X.s₀.heap s'.heap H' e C ∧
  (∀ p ∈ X.pn ++ pins, p.1 ≠ e ∧ ∀ oe vs T, s'.heap.get? e = some oe → oe.data = .fields vs → vs[1]? = some (.ref T) → p.1 ≠ T) ∧ ET σ (.ref C) none H'
def PassesS (CX : CXT) (X : Cx) (ET : St → XK) : Prop := ∀ (pins : List (Addr × Obj)) (σ : St) (H : Hp) (s : Shared) (e : Value) (s' : Shared), Inv X pins σ H s → CX X.stack H s (ET σ) e s' → X.xe e s'

/-! ### calls in a try's body: the exception's wish may speak of the names -/
def tCallS (sp : Sp) (dvs : List V) (ET : St → XK) (t : TA) : TE := fun σ H Q => t σ H fun vs H1 => sp (vs ++ dvs) H1 Q (ET σ)
def tMethS (C : Addr) (m : Str) (sp : Sp) (dvs : List V) (ET : St → XK) (ta : TE) (t : TA) : TE := fun σ H Q => ta σ H fun x H1 => rMeth C m x H1 (t σ H1 fun vs H2 => sp (x :: (vs ++ dvs)) H2 Q (ET σ))
def tMakeS (C : Addr) (sp : Sp) (dvs : List V) (ET : St → XK) (t : TA) : TE := fun σ H Q => t σ H fun vs H1 => ∀ x dx, H1 x = none → H1 dx = none → dx ≠ x →
  sp (.ref x :: (vs ++ dvs)) (upd (upd H1 dx (.own x)) x (.ins C dx [])) (fun v H2 => v = .non ∧ Q (.ref x) H2) (ET σ)
section
variable {X : Cx} {CX : CXT} {k : Nat} {f C : Addr} {fd : FuncData} {ps : List Str} {sp : Sp} {dvs : List V} {ds : List Value} {ET : St → XK} {x m : Str} {p pos apos : Pos} {e o : Expr} {es : List Expr} {ta : TE} {t : TA}
end
section
variable {σ : St} {H : Hp} {Q : VK}
end
/-! ### the except suite -/
abbrev Cx.suite (X : Cx) (e : Addr) : Cx := { X with A := X.A.mark (some (.ref e)), calm := false, xe := fun _ _ => False }
section
variable {X : Cx} {pins : List (Addr × Obj)} {σ : St} {H : Hp} {s : Shared} {e : Addr}
end
end L2

set_option Elab.async false
set_option maxRecDepth 100000
namespace L2
open PySem PySem.Spec PyProof.Rows
/-- behind the suite the name is gone -/
def Dh (i : Nat) (D : Ends) : Ends := { nx := fun σ H => D.nx (σ.set i none) H, rt := D.rt, bk := fun σ H => D.bk (σ.set i none) H, ct := fun σ H => D.ct (σ.set i none) H }
def ETof (K : PySem.W.Frag) (S : Addr) (i : Nat) (ts : TS) (D : Ends) : St → XK := fun σ cls _ H1 => ∃ C, cls = .ref C ∧ PySem.W.exmOne K (.ref C) (.ref S) = some true ∧ ∀ e, H1 e = none → ts (Dh i D) (σ.set i (some (.ref e))) (upd H1 e (ExcO e C))
def tTry (K : PySem.W.Frag) (S : Addr) (i : Nat) (tb : (St → XK) → TS) (ts : TS) : TS := fun D σ H => tb (ETof K S i ts D) D σ H
end L2

set_option Elab.async false
set_option maxRecDepth 100000
namespace L2
open PySem PySem.Spec PyProof.Rows
/-! ### a def that is called within an except suite: it needs no word of what is handled -/
structure RoomQ (k : Nat) (A : Around) : Prop where
  dp : A.depth + 3 * k + 5 < recursionLimit
  un : A.units + 16 * k + 200 < cLine
structure FnOkQ (P : Program) (w : World) (K : PySem.W.Frag) (mg : Str → Option Value) (base : Heap) (k : Nat) (f : Addr) (fd : FuncData) (ps : List Str) (sp : Sp) : Prop where
  len : ∀ vs H Q E, sp vs H Q E → vs.length = ps.length
  run : ∀ (A : Around) (outer : List Env) (s : Shared) (H : Hp) (args : Args) (us : List Value) (vs : List V) (Q : VK) (E : XK), RoomQ k A → Env0 P w K mg base A outer s H → BindsTo s fd args (ps.zip us) → Vals vs us → sp vs H Q E →
    codeAny (model P w) A (.call (.ref f) args) (CR CX0 outer P w H s Q E) s
abbrev Cx.quiet (X : Cx) : Cx := { X with calm := false }
section
variable {P : Program} {w : World} {K : PySem.W.Frag} {mg : Str → Option Value} {base : Heap}
end
section
variable {X : Cx} {k : Nat} {f C : Addr} {fd : FuncData} {ps : List Str} {sp : Sp} {dvs : List V} {ds : List Value} {x m : Str} {p pos apos : Pos} {e o : Expr} {es : List Expr} {ta : TE} {t : TA}
end
end L2

set_option Elab.async false
set_option maxRecDepth 100000
namespace L2
open PySem PySem.Spec PyProof.Rows
theorem own_of {K : PySem.W.Frag} {h : Heap} {mg : Str → Option Value} {x : Str} {C : Addr} {bmB : List Value} {newId : String} (X : K.In h) (hm : mg x = some (.ref C)) (q : PySem.W.excIn K C bmB newId = true) : OwnCls x C bmB newId mg h := by
  refine ⟨hm, ?_⟩
  simp only [PySem.W.excIn] at q
  split at q
  case h_2 => cases q
  case h_1 dd cd sl ho =>
    split at q
    case h_2 => cases q
    case h_1 C' bm k0 k1 k2 k3 n k5 hmr hsl =>
      simp only [Bool.and_eq_true, beq_iff_eq, Bool.not_eq_true'] at q
      obtain ⟨⟨⟨⟨⟨e1, e2⟩, hdel⟩, ht⟩, hok⟩, hni⟩ := q
      subst e1 e2
      have hh := X _ _ ho
      obtain ⟨nm, bs, mro, ns, qn, hd, sn, sub, ab, col, del⟩ := cd
      simp only at hmr hdel hok hni
      subst hmr hdel
      obtain ⟨l⟩ := sl
      simp only at hsl
      subst hsl
      exact ⟨bm, ns, nm, qn, bs, hd, sn, sub, ab, col, dd, k0, k1, k2, k3, k5, _, hh, .of_isNs (PySem.W.isNs_of_in X hok), PySem.W.nsMap_none_of_in X hok hni, PySem.W.tail_of_in X ht⟩
theorem ps_raiseK {X : Cx} {E : XK} {x : Str} {C : Addr} {B newId initId : String} {bm : List Value} {np cpos pos : Pos} {e : Expr} {es : List Expr} {t : TA} (hm : X.mg x = some (.ref C)) (q : PySem.W.excIn X.K C bm newId = true) (FB : ExcBaseFacts B newId initId bm) (hc : X.calm = true) (hg : Gl X x)
    (hx : ∀ (pins : List (Addr × Obj)) (σ : St) (H : Hp) (s : Shared) (h' : Heap) (t' : Nat) (e : Addr) (vs : List Value), Inv X pins σ H s → Heap.MadeExcOf s.heap h' e (.ref C) vs → E (.ref C) none H → X.xe (.ref e) { s with heap := h', toks := t' })
    (ha : PA X (e :: es) t) (hd : (x == ("__debug__" : Str)) = false := by decide) (he : starEach (e :: es) X.env = (false, eval e X.env) :: starEach es X.env := by rfl) (hpl : (backTo cpos (starEach es X.env)).any (·.1) = false := by rfl) :
    PS X (.Raise (some (.Call (.Name x np) (e :: es) [] cpos)) none pos) (tRaise C E t) := fun pins s σ H D I h =>
  ps_raise (own_of I.ok.mod.kin hm q) FB hc hg hx ha hd he hpl pins s σ H D I h
theorem rd_raise {C : Addr} {E : XK} {t : TA} {D : Ends} {σ : St} {H : Hp} (h : t σ H fun vs H1 => vs.length ≤ sizeLine ∧ E (.ref C) none H1) : tRaise C E t D σ H := h
section
variable {P : Program} {w : World} {K : PySem.W.Frag} {mg : Str → Option Value} {base : Heap}
/-- a def that may raise, called where it does not -/
theorem FnOk.down {k : Nat} {f : Addr} {fd : FuncData} {ps : List Str} {sp sp' : Sp} (F : FnOk P w K mg base (CX1 P w) k f fd ps sp) (h : ∀ vs H Q E, sp' vs H Q E → sp vs H Q (fun _ _ _ => False)) : FnOk P w K mg base CX0 k f fd ps sp' :=
  ⟨fun vs H Q E q => F.len vs H Q _ (h _ _ _ _ q), fun A outer s H args us vs Q E hr e0 hb hv hs => codeAny_mono (F.run A outer s H args us vs Q _ hr e0 hb hv (h _ _ _ _ hs)) fun r s' hq => by
    cases r with
    | error e => obtain ⟨_, _, _, _, _, _, _, _, _, z⟩ := hq; exact z.elim
    | ok fl => cases fl <;> exact hq⟩
end
end L2

set_option Elab.async false
set_option maxRecDepth 100000
namespace L2
open PySem PySem.Spec PyProof.Rows
theorem rd_cat {H : Hp} {Q : VK} {a b : Addr} {xs zs : List V} (ha : H a = some (.lst xs)) (hb : H b = some (.lst zs)) (z : xs.length + zs.length ≤ sizeLine) (q : ∀ p, H p = none → Q (.ref p) (upd H p (.lst (xs ++ zs)))) : rCat (.ref a) (.ref b) H Q :=
  ⟨a, b, xs, zs, rfl, rfl, ha, hb, z, q⟩
/-! lists of truths -/
/-! comprehensions whose items are made as they go -/
/-- all but what stands at l stays -/
def SameBut (l : Addr) (H H' : Hp) : Prop := ∀ b o, H b = some o → b ≠ l → H' b = some o
section
variable {K : PySem.W.Frag} {σ : St} {H : Hp} {Q : VK} {te : TE} {cap : List (Option Nat)} {l : Addr}
end
/-! ### a statement with one word behind it -/
def tJoin (t : TS) : TS := fun D σ H => ∃ J : St → Hp → Prop, t { D with nx := J } σ H ∧ ∀ σ' H', J σ' H' → D.nx σ' H'
theorem ps_join {X : Cx} {st : Stmt} {t : TS} (h : PS X st t) : PS X st (tJoin t) := by
  intro pins s σ H D I ⟨J, h1, h2⟩
  refine wpAny_mono (h pins s σ H _ I h1) (fun f s' q => ?_) fun _ _ z => z
  cases f with
  | next => obtain ⟨σ', H', J', q⟩ := q; exact ⟨σ', H', J', h2 σ' H' q⟩
  | brk => exact q
  | cont => exact q
  | ret u => exact q
theorem rd_join {t : TS} {D : Ends} {σ : St} {H : Hp} (J : St → Hp → Prop) (h1 : t { D with nx := J } σ H) (h2 : ∀ σ' H', J σ' H' → D.nx σ' H') : tJoin t D σ H := ⟨J, h1, h2⟩
/-! ### tables: lists of lists of ints -/
structure TblAt (H : Hp) (l : Addr) (rows : List (List Int)) : Prop where
  ob : ∃ as : List Addr, H l = some (.lst (as.map V.ref)) ∧ as.length = rows.length ∧ ∀ (i : Nat) a r, as[i]? = some a → rows[i]? = some r → a ≠ l ∧ H a = some (.lst (r.map V.int))
/-! ### pairs of ints -/
def PairsAt (H : Hp) (xs : List V) (ps : List (Int × Int)) : Prop := ∀ (i : Nat) x, xs[i]? = some x → ∃ a p, x = .ref a ∧ ps[i]? = some p ∧ H a = some (.tup [.int p.1, .int p.2])
end L2

set_option Elab.async false
set_option maxRecDepth 100000
namespace L2
open PySem PySem.Spec PyProof.Rows
section
variable {prog : Program} {w : World} {A : Around} {E : Value → Shared → Prop} {s : Shared}
/-- the next item of a tuple's iterator -/
theorem tupNext {I u : Addr} {k : Nat} {its : Array Value} {x : Value} {Q : Value → Shared → Prop} (hI : s.heap.IsTupleIter I u k) (hu : s.heap.IsTuple u its) (hx : its[k]? = some x)
    (hQ : ∀ g, g.IsTupleIter I u (k + 1) → Heap.SameBut I s.heap g → Q x { s with heap := g }) : wpAny (model prog w) A (Builtin.SmallTypes.nextOf (.ref I)) Q E s := by
  obtain ⟨oI, eI, cI, dI⟩ := id hI
  obtain ⟨ou, eu, _, nu, du⟩ := hu
  unfold Builtin.SmallTypes.nextOf
  refine wpAny_bind (wpAny_callSpecial?_slot (name := Str.ofString "__next__") hI.typeIs F.slot_tuple_iterator_next (wpAny_call_entry F.slot_tuple_iterator_next hI.typeIs F.entry_tuple_iterator_next ?_ (F.args_tuple_iterator_next_1 _)))
  show wpAny _ _ (field (.ref I) 0 >>= _) _ _ s
  refine wpAny_bind (wpAny_field eI dI (x := .ref u) rfl ?_)
  show wpAny _ _ (if (Value.ref u == Value.none) = true then _ else _) _ _ s
  rw [if_neg (show ¬ ((Value.ref u == Value.none) = true) from Bool.false_ne_true)]
  show wpAny _ _ (field (.ref I) 1 >>= _) _ _ s
  refine wpAny_bind (wpAny_field eI dI (x := .int k 0) rfl ?_)
  show wpAny _ _ (seqItems? (.ref u) >>= _) _ _ s
  refine wpAny_bind (wpAny_seqItems eu du ?_)
  rw [Int.toNat_natCast]; simp only [hx]
  refine wpAny_bind (wpAny_setField eI dI (by simp) (wpAny_pure ⟨x, rfl, wpAny_pure (hQ _ ?_ (Heap.SameBut.update ..))⟩))
  exact ⟨_, Heap.get?_update_self _ eI (Obj.isFreed_of_fields (Obj.data_mapFields dI _)), (Obj.cls_mapFields ..).trans cI, by rw [Obj.data_mapFields dI]; simp [rawInt]⟩
theorem tupStop {I u : Addr} {k : Nat} {its : Array Value} {Q : Value → Shared → Prop} (hd0 : A.handled = none) (hI : s.heap.IsTupleIter I u k) (hu : s.heap.IsTuple u its) (hx : its[k]? = none)
    (hE : ∀ g e, Heap.ExtBut I s.heap g → (∃ o, g.get? e = some o ∧ o.cls = .type "StopIteration") → E (.ref e) { s with heap := g }) : wpAny (model prog w) A (Builtin.SmallTypes.nextOf (.ref I)) Q E s := by
  obtain ⟨oI, eI, cI, dI⟩ := id hI
  obtain ⟨ou, eu, _, nu, du⟩ := hu
  unfold Builtin.SmallTypes.nextOf
  refine wpAny_bind (wpAny_callSpecial?_slot (name := Str.ofString "__next__") hI.typeIs F.slot_tuple_iterator_next (wpAny_call_entry F.slot_tuple_iterator_next hI.typeIs F.entry_tuple_iterator_next ?_ (F.args_tuple_iterator_next_1 _)))
  show wpAny _ _ (field (.ref I) 0 >>= _) _ _ s
  refine wpAny_bind (wpAny_field eI dI (x := .ref u) rfl ?_)
  show wpAny _ _ (if (Value.ref u == Value.none) = true then _ else _) _ _ s
  rw [if_neg (show ¬ ((Value.ref u == Value.none) = true) from Bool.false_ne_true)]
  show wpAny _ _ (field (.ref I) 1 >>= _) _ _ s
  refine wpAny_bind (wpAny_field eI dI (x := .int k 0) rfl ?_)
  show wpAny _ _ (seqItems? (.ref u) >>= _) _ _ s
  refine wpAny_bind (wpAny_seqItems eu du ?_)
  rw [Int.toNat_natCast]; simp only [hx]
  refine wpAny_bind (wpAny_rule (wpAny_bind (wpAny_setField eI dI (by simp) ?_)))
  show wpAny _ _ (newExc (.type "StopIteration") [] >>= _) _ _ _; refine wpAny_bind ?_
  simp only [newExc, newTuple]; refine wpAny_bind (wpAny_newObj_type ?_ (by size_fits))
  refine wpAny_bind (m := firstArgMember _ _) (wpAny_of_eq (a := Value.none) (by first | rfl | (simp only [firstArgMember]; rfl)) ?_); refine wpAny_newObj_type ?_ (by size_fits)
  simp only [raiseNew]; refine wpAny_bind (wpAny_handled ?_); rw [show A.in1.handled = none from hd0]
  refine wpAny_bind (wpAny_pure (wpAny_throw ?_)); exact hE _ _ (((Heap.SameBut.update ..).extBut.push _).push _) ⟨_, Heap.get?_push_size _ rfl, rfl⟩
/-- zip of two tuples: an item -/
theorem zipT_item {Z TI TO i j u v : Addr} {k l : Nat} {xs ys : Array Value} {x y a b : Value} {Q : Option Value → Shared → Prop} (D : ZipApart Z TI TO i j u v)
    (eZ : IsZip s.heap Z TI TO .none) (eI : IsPair s.heap TI (.ref i) (.ref j)) (eO : IsPair s.heap TO a b) (ei : s.heap.IsTupleIter i u k) (ej : s.heap.IsTupleIter j v l) (eu : s.heap.IsTuple u xs) (ev : s.heap.IsTuple v ys) (hx : xs[k]? = some x) (hy : ys[l]? = some y)
    (hQ : ∀ g, IsZip g Z TI TO (rawInt s.heap.objs.size) → IsPair g TO x y → g.IsTupleIter i u (k + 1) → g.IsTupleIter j v (l + 1) → IsPair g s.heap.objs.size x y → g.objs.size = s.heap.objs.size + 1 →
      (∀ c o, c ≠ Z → c ≠ TO → c ≠ i → c ≠ j → s.heap.get? c = some o → g.get? c = some o) → Q (some (.ref s.heap.objs.size)) { s with heap := g }) : wpAny (model prog w) A (pyNext (.ref Z)) Q E s := by
  have hT : s.TypeIs (.ref Z) "zip" := ⟨_, eZ, rfl⟩
  unfold pyNext
  refine wpAny_bind (wpAny_attempt (wpAny_callSpecial?_slot (name := Str.ofString "__next__") hT F.slot_zip_next (wpAny_call_entry F.slot_zip_next hT F.entry_zip_next ?_ (F.args_zip_next_1 _))))
  show wpAny _ _ (field (.ref Z) 2 >>= _) _ _ _
  refine wpAny_bind (wpAny_field eZ rfl (x := .bool false) rfl ?_)
  show wpAny _ _ (field (.ref Z) 3 >>= _) _ _ _
  refine wpAny_bind (wpAny_field eZ rfl (x := .ref TI) rfl ?_); refine wpAny_bind (wpAny_seqItems eI rfl ?_)
  show wpAny _ _ (Builtin.SmallTypes.ownedTupleIsFree (.ref Z) >>= _) _ _ _
  refine wpAny_bind ?_; unfold Builtin.SmallTypes.ownedTupleIsFree
  refine wpAny_bind (wpAny_field eZ rfl (x := .none) rfl (wpAny_pure ?_)); simp only [if_true]
  refine wpAny_bind (wpAny_rule ?_); refine wpAny_bind (wpAny_field eZ rfl (x := .ref TO) rfl ?_)
  refine wpAny_bind (wpAny_setField_rec eZ (by simp) fun g1 z1 t1 => ?_)
  replace z1 : IsZip g1 Z TI TO .ellipsis := z1
  refine wpAny_bind ?_; simp only [List.zipIdx_cons, List.zipIdx_nil, List.forIn_cons, List.forIn_nil]; refine wpAny_bind (wpAny_bind (wpAny_onRaise ?_))
  show wpAny _ _ (Builtin.SmallTypes.nextOf (.ref i) >>= _) _ _ _
  refine wpAny_bind (tupNext (ei.extBut t1.extBut D.i1z) (eu.extBut t1.extBut D.l1z) hx fun g2 i2 t2 => wpAny_pure ?_)
  have o2 : IsPair g2 TO a b := t2.extBut _ _ D.TOi1 (t1.extBut _ _ D.TOz eO)
  refine wpAny_bind (wpAny_seqItems o2 rfl ?_); refine wpAny_bind (wpAny_updateSeq_pair o2 fun g3 o3 t3 => ?_)
  replace o3 : IsPair g3 TO x b := o3
  refine wpAny_bind (wpAny_letGo (wpAny_pure ?_)); refine wpAny_bind (wpAny_bind (wpAny_onRaise ?_))
  show wpAny _ _ (Builtin.SmallTypes.nextOf (.ref j) >>= _) _ _ _
  refine wpAny_bind (tupNext (((ej.extBut t1.extBut D.i2z).extBut t2.extBut D.i12.symm).extBut t3.extBut D.TOi2.symm) (((ev.extBut t1.extBut D.l2z).extBut t2.extBut D.l2i1).extBut t3.extBut D.l2TO) hy fun g4 j4 t4 => wpAny_pure ?_)
  have o4 : IsPair g4 TO x b := t4.extBut _ _ D.TOi2 o3
  refine wpAny_bind (wpAny_seqItems o4 rfl ?_); refine wpAny_bind (wpAny_updateSeq_pair o4 fun g5 o5 t5 => ?_)
  replace o5 : IsPair g5 TO x y := o5
  refine wpAny_bind (wpAny_letGo (wpAny_pure (wpAny_pure ?_))); refine wpAny_bind (wpAny_seqItems o5 rfl ?_); refine wpAny_bind (wpAny_newTuple ?_)
  have sz : g5.objs.size = s.heap.objs.size := by rw [t5.1, t4.1, t3.1, t2.1, t1.1]
  have z5 : IsZip g5 Z TI TO .ellipsis := t5.extBut _ _ D.TOz.symm (t4.extBut _ _ D.i2z.symm (t3.extBut _ _ D.TOz.symm (t2.extBut _ _ D.i1z.symm z1)))
  have k5 : ∀ c o, c ≠ Z → c ≠ TO → c ≠ i → c ≠ j → s.heap.get? c = some o → g5.get? c = some o := fun c o c1 c2 c3 c4 q => t5.extBut _ _ c2 (t4.extBut _ _ c4 (t3.extBut _ _ c2 (t2.extBut _ _ c3 (t1.extBut _ _ c1 q))))
  have i5 : g5.IsTupleIter i u (k + 1) := ((i2.extBut t3.extBut D.TOi1.symm).extBut t4.extBut D.i12).extBut t5.extBut D.TOi1.symm
  have j5 : g5.IsTupleIter j v (l + 1) := j4.extBut t5.extBut D.TOi2.symm
  have lz : Z < g5.objs.size := Heap.lt_size z5
  show wpAny _ _ (Builtin.SmallTypes.ownedTupleHandOut (.ref Z) (.ref g5.objs.size) >>= _) _ _ _
  refine wpAny_bind ?_; unfold Builtin.SmallTypes.ownedTupleHandOut
  have z6 : IsZip (g5.push { cls := .type "tuple", data := .seq #[x, y] }) Z TI TO .ellipsis := Heap.get?_push_of_some _ z5
  refine wpAny_bind (wpAny_setField_rec z6 (by simp) fun g7 z7 t7 => ?_)
  replace z7 : IsZip g7 Z TI TO (rawInt g5.objs.size) := z7
  refine wpAny_setField_rec z7 (by simp) fun g8 z8 t8 => ?_
  replace z8 : IsZip g8 Z TI TO (rawInt g5.objs.size) := z8
  have up : ∀ c o, c ≠ Z → g5.get? c = some o → g8.get? c = some o := fun c o c1 q => t8.extBut _ _ c1 (t7.extBut _ _ c1 (Heap.get?_push_of_some _ q))
  have n8 : IsPair g8 g5.objs.size x y := t8.extBut _ _ (Nat.ne_of_gt lz) (t7.extBut _ _ (Nat.ne_of_gt lz) (Heap.get?_push_size _ rfl))
  have s8 : g8.objs.size = g5.objs.size + 1 := by rw [t8.1, t7.1, Heap.size_push]
  rw [sz] at z8 n8 s8
  refine wpAny_pure ⟨_, rfl, wpAny_pure ?_⟩
  rw [sz]
  obtain ⟨oi, qi⟩ := i5
  obtain ⟨oj, qj⟩ := j5
  exact hQ g8 z8 (up _ _ D.TOz o5) ⟨oi, up _ _ D.i1z qi.1, qi.2⟩ ⟨oj, up _ _ D.i2z qj.1, qj.2⟩ n8 s8 fun c o c1 c2 c3 c4 q => up c o c1 (k5 c o c1 c2 c3 c4 q)
/-- zip of two tuples: the end of tuples of one length -/
theorem zipT_end {Z TI TO i j u v : Addr} {k : Nat} {xs : Array Value} {Q : Option Value → Shared → Prop} (hd0 : A.handled = none) (D : ZipApart Z TI TO i j u v)
    (eZ : IsZip s.heap Z TI TO .none) (eI : IsPair s.heap TI (.ref i) (.ref j)) (ei : s.heap.IsTupleIter i u k) (eu : s.heap.IsTuple u xs) (hx : xs[k]? = none)
    (hQ : ∀ g, (∀ c o, c ≠ Z → c ≠ TO → c ≠ i → c ≠ j → s.heap.get? c = some o → g.get? c = some o) → Q none { s with heap := g }) : wpAny (model prog w) A (pyNext (.ref Z)) Q E s := by
  have hT : s.TypeIs (.ref Z) "zip" := ⟨_, eZ, rfl⟩
  have body : ∀ (E' : Value → Shared → Prop) (Q' : Fin → Shared → Prop), (∀ g e, (∀ c o, c ≠ Z → c ≠ TO → c ≠ i → c ≠ j → s.heap.get? c = some o → g.get? c = some o) → (∃ o, g.get? e = some o ∧ o.cls = .type "StopIteration") → E' (.ref e) { s with heap := g }) →
      wpAny (model prog w) A.in1 (Builtin.«zip.__next__» ⟨[.ref Z], []⟩) Q' E' s := fun E' Q' hE => by
    show wpAny _ _ (field (.ref Z) 2 >>= _) _ _ _
    refine wpAny_bind (wpAny_field eZ rfl (x := .bool false) rfl ?_)
    show wpAny _ _ (field (.ref Z) 3 >>= _) _ _ _
    refine wpAny_bind (wpAny_field eZ rfl (x := .ref TI) rfl ?_); refine wpAny_bind (wpAny_seqItems eI rfl ?_)
    show wpAny _ _ (Builtin.SmallTypes.ownedTupleIsFree (.ref Z) >>= _) _ _ _
    refine wpAny_bind ?_; unfold Builtin.SmallTypes.ownedTupleIsFree
    refine wpAny_bind (wpAny_field eZ rfl (x := .none) rfl (wpAny_pure ?_)); simp only [if_true]
    refine wpAny_bind (wpAny_rule ?_); refine wpAny_bind (wpAny_field eZ rfl (x := .ref TO) rfl ?_)
    refine wpAny_bind (wpAny_setField_rec eZ (by simp) fun g1 z1 t1 => ?_)
    replace z1 : IsZip g1 Z TI TO .ellipsis := z1
    refine wpAny_bind ?_; simp only [List.zipIdx_cons, List.zipIdx_nil, List.forIn_cons, List.forIn_nil]; refine wpAny_bind (wpAny_bind (wpAny_onRaise ?_))
    show wpAny _ _ (Builtin.SmallTypes.nextOf (.ref i) >>= _) _ _ _
    refine wpAny_bind (tupStop hd0 (ei.extBut t1.extBut D.i1z) (eu.extBut t1.extBut D.l1z) hx fun g2 e t2 he => ?_)
    obtain ⟨oe, q1, q2⟩ := he
    have z2 : IsZip g2 Z TI TO .ellipsis := t2 _ _ D.i1z.symm z1
    have ne : e ≠ Z := fun q => by subst q; rw [z2] at q1; cases q1; simp at q2
    refine wpAny_setField_rec z2 (by simp) fun g3 _ t3 => hE g3 e (fun c o c1 _ c3 _ q => t3.extBut _ _ c1 (t2 _ _ c3 (t1.extBut _ _ c1 q))) ⟨oe, t3.extBut _ _ ne q1, q2⟩
  unfold pyNext
  refine wpAny_bind (wpAny_attempt (wpAny_callSpecial?_slot (name := Str.ofString "__next__") hT F.slot_zip_next (wpAny_call_entry F.slot_zip_next hT F.entry_zip_next (body _ _ fun g e hk he => ?_) (F.args_zip_next_1 _))))
  obtain ⟨o, q1, q2⟩ := he
  exact wpAny_bind (wpAny_isInstance (T := "StopIteration") (b := true) ⟨o, q1, q2⟩ isSubtype_stop (wpAny_pure (hQ _ hk)))
end
end L2

set_option Elab.async false
set_option maxRecDepth 100000
namespace L2
open PySem PySem.Spec PyProof.Rows
theorem istup {h : Heap} {a : Addr} {its : Array Value} (p : IsTup h a its) : h.IsTuple a its := p
/-! ### zip of two tuples of one length, unpacked into names -/
def Itzt (K : PySem.W.Frag) (a b : Addr) : It :=
  ⟨fun i H => ∃ xs ys x y, SqT K H a xs ∧ SqT K H b ys ∧ xs[i]? = some x ∧ ys[i]? = some y,
   fun i H v H' => ∃ T, v = .ref T ∧ H T = none ∧ ∀ xs ys, SqT K H a xs → SqT K H b ys → ∃ x y, xs[i]? = some x ∧ ys[i]? = some y ∧ H' = upd H T (.tup [x, y]),
   fun i H => ∃ xs ys, SqT K H a xs ∧ SqT K H b ys ∧ xs.length ≤ i⟩
theorem turn_zipT {P : Program} {w : World} {K : PySem.W.Frag} {elts : List Expr} {kt : Nat} {pt : Pos} {a b n : Addr} (ha : a < n) (hb : b < n) :
    Turn P w K (.Tuple elts kt pt) (Itzt K a b) [n + 4, n + 2, n + 3, n, n + 1] (n + 4) (fun i h => IsZip h (n + 4) (n + 2) (n + 3) .none ∧ IsPair h (n + 2) (.ref n) (.ref (n + 1)) ∧ (∃ x y, IsPair h (n + 3) x y) ∧ h.IsTupleIter n a i ∧ h.IsTupleIter (n + 1) b i) where
  mem := by simp
  obj := fun i h st c hc => by
    obtain ⟨z1, z2, ⟨x, y, z3⟩, ⟨o4, e4, c4, d4⟩, ⟨o5, e5, c5, d5⟩⟩ := st
    simp only [List.mem_cons, List.not_mem_nil, or_false] at hc
    rcases hc with rfl | rfl | rfl | rfl | rfl
    · exact ⟨_, z1, fun v z => by cases z⟩
    · exact ⟨_, z2, fun v z => by cases z⟩
    · exact ⟨_, z3, fun v z => by cases z⟩
    · exact ⟨_, e4, fun v z => by rw [d4] at z; cases z⟩
    · exact ⟨_, e5, fun v z => by rw [d5] at z; cases z⟩
  keep := fun i h h' st k => by
    obtain ⟨z1, z2, ⟨x, y, z3⟩, z4, z5⟩ := st
    exact ⟨k _ (by simp) _ z1, k _ (by simp) _ z2, ⟨x, y, k _ (by simp) _ z3⟩, z4.at fun o e => k _ (by simp) o e, z5.at fun o e => k _ (by simp) o e⟩
  item := by
    intro X hP hw hK hc i pins s σ H E I hf st hg
    subst hP hw hK
    obtain ⟨xs, ys, x, y, hqa, hqb, hx, hy⟩ := hg
    obtain ⟨its, rv, p, hz⟩ := I.tuple hqa
    obtain ⟨jts, rw', p', hz'⟩ := I.tuple hqb
    obtain ⟨u, hu, ru⟩ := rv.get hx
    obtain ⟨u', hu', ru'⟩ := rw'.get hy
    obtain ⟨z1, z2, ⟨x0, y0, z3⟩, z4, z5⟩ := st
    have D : ZipApart (n + 4) (n + 2) (n + 3) n (n + 1) a b := PyProof.Rows.zipApart_new ha hb
    have ltz : n + 4 < s.heap.objs.size := Heap.lt_size z1
    refine zipT_item D z1 z2 z3 z4 z5 (istup p) (istup p') (x := u) (y := u') (by simpa using hu) (by simpa using hu') fun h' a1 a2 a3 a4 a5 a6 hk => ?_
    refine ⟨_, rfl, wpAny_letOwnedTupleGo_zip (s := { s with heap := h' }) a1 fun h2 b1 hs => ?_⟩
    have neT : ∀ {c : Addr}, c ≤ n + 4 → c ≠ s.heap.objs.size := fun h => Nat.ne_of_lt (Nat.lt_of_le_of_lt h ltz)
    have kk : ∀ c o, c ∉ [n + 4, n + 3, n, n + 1] → s.heap.get? c = some o → h2.get? c = some o := fun c o hc e => by
      simp only [List.mem_cons, List.not_mem_nil, or_false, not_or] at hc
      exact (hs.2 c hc.1).trans (hk c o hc.1 hc.2.1 hc.2.2.1 hc.2.2.2 e)
    have q2 : h2.get? (n + 2) = _ := kk _ _ (by simp only [List.mem_cons, List.not_mem_nil, or_false, not_or]; exact ⟨D.TIz, D.TITO, D.TIi1, D.TIi2⟩) z2
    have q3 : h2.get? (n + 3) = _ := (hs.2 _ D.TOz).trans a2
    obtain ⟨o4, e4, c4⟩ := a3
    obtain ⟨o5, e5, c5⟩ := a4
    have q4 : h2.get? n = _ := (hs.2 _ D.i1z).trans e4
    have q5 : h2.get? (n + 1) = _ := (hs.2 _ D.i2z).trans e5
    have qT : h2.get? s.heap.objs.size = _ := (hs.2 _ (Ne.symm (neT (Nat.le_refl _)))).trans a5
    have sub : ∀ c ∈ [n + 4, n + 3, n, n + 1], c ∈ [n + 4, n + 2, n + 3, n, n + 1] := fun c hc => by
      simp only [List.mem_cons, List.not_mem_nil, or_false] at hc ⊢
      rcases hc with e | e | e | e
      · exact .inl e
      · exact .inr (.inr (.inl e))
      · exact .inr (.inr (.inr (.inl e)))
      · exact .inr (.inr (.inr (.inr e)))
    have I1 : Inv X pins σ (upd H s.heap.objs.size (.tup [x, y])) { s with heap := h2, toks := s.toks } := I.turnedL (ch := [n + 4, n + 3, n, n + 1]) kk (fun c hc => hf c (sub c hc)) (fun c hc => by
        simp only [List.mem_cons, List.not_mem_nil, or_false] at hc
        rcases hc with rfl | rfl | rfl | rfl
        · exact ⟨_, b1⟩
        · exact ⟨_, q3⟩
        · exact ⟨_, q4⟩
        · exact ⟨_, q5⟩) (Nat.le_refl _) ⟨by show 2 ≤ sizeLine; decide, [u, u'], .cons ru (.cons ru' .nil), _, qT, rfl, _, rfl⟩
    refine ⟨.ref s.heap.objs.size, _, I1, rfl, ⟨_, rfl, I.hok.fresh (Nat.le_refl _), fun vs ws hv hw => ?_⟩, ⟨b1, q2, ⟨_, _, q3⟩, ⟨_, q4, c4⟩, ⟨_, q5, c5⟩⟩, fun c hc => ?_⟩
    · rw [I.tuple_inj hv hqa, I.tuple_inj hw hqb]
      exact ⟨x, y, hx, hy, rfl⟩
    · have hle : c ≤ n + 4 := by
        simp only [List.mem_cons, List.not_mem_nil, or_false] at hc
        rcases hc with rfl | rfl | rfl | rfl | rfl
        · exact Nat.le_refl _
        · exact Nat.le_add_right (n + 2) 2
        · exact Nat.le_add_right (n + 3) 1
        · exact Nat.le_add_right _ 4
        · exact Nat.le_add_right (n + 1) 3
      rw [upd_ne (neT hle)]
      exact (hf c hc).1
  done := by
    intro X hP hw hK hc i pins s σ H E I hf st hg
    subst hP hw hK
    obtain ⟨xs, ys, hqa, hqb, hl⟩ := hg
    obtain ⟨its, rv, p, hz⟩ := I.tuple hqa
    obtain ⟨jts, rw', p', hz'⟩ := I.tuple hqb
    obtain ⟨z1, z2, ⟨x0, y0, z3⟩, z4, z5⟩ := st
    have D : ZipApart (n + 4) (n + 2) (n + 3) n (n + 1) a b := PyProof.Rows.zipApart_new ha hb
    have l1 := rv.length
    have l2 := rw'.length
    refine zipT_end (I.ok.hd hc) D z1 z2 z4 (istup p) ?_ fun h' hk => ⟨rfl, ?_⟩
    · simp; omega
    · have fp : ∀ c ∈ [n + 4, n + 3, n, n + 1], FpOk X pins H c := fun c hc => hf c (by
        simp only [List.mem_cons, List.not_mem_nil, or_false] at hc ⊢
        rcases hc with e | e | e | e
        · exact .inl e
        · exact .inr (.inr (.inl e))
        · exact .inr (.inr (.inr (.inl e)))
        · exact .inr (.inr (.inr (.inr e))))
      have kk : ∀ c o, c ∉ [n + 4, n + 3, n, n + 1] → s.heap.get? c = some o → h'.get? c = some o := fun c o hc e => by
        simp only [List.mem_cons, List.not_mem_nil, or_false, not_or] at hc
        exact hk c o hc.1 hc.2.1 hc.2.2.1 hc.2.2.2 e
      have nit : ∀ c u, H c = some u → c ∉ [n + 4, n + 3, n, n + 1] := fun c u e z => by rw [(fp c z).1] at e; cases e
      refine I.step (g' := s.gens) (d' := s.drawn) (t' := s.toks) (ch := [n + 4, n + 3, n, n + 1]) (fun c hc => ⟨(fp c hc).2.2.2.1, (fp c hc).2.1, (fp c hc).2.2.2.2.1, (fp c hc).2.2.2.2.2⟩) (fun c o _ _ hc e _ => kk c o hc e) (fun c o _ _ hc e _ => ⟨o.slots, kk c o hc e⟩) (fun _ _ _ _ n => n)
        (fun c o hc e => ⟨o, kk c o hc e⟩) (fun _ _ e => e) (fun _ _ _ e => e) (fun _ ps e => ⟨#[], by rw [e]; simp⟩) (fun m hm => ?_) (fun c u e => ?_) I.bare
      · obtain ⟨ob, es, ep, ho, r⟩ := hm
        exact ⟨ob, es, ep, kk _ ob (fun z => (fp _ z).2.1 rfl) ho, r⟩
      · refine (I.hok c u e).stay (fun d v hd q => kk d v ?_ q) (fun _ e' => e') fun _ _ e' => e'
        rcases hd with z | z
        · rw [z]; exact nit c u e
        · exact nit d _ z
  self := fun _ _ _ _ _ st h => wpAny_pyIter_zip st.1 h
section
variable {prog : Program} {w : World} {A : Around} {E : Value → Shared → Prop} {s : Shared}
abbrev zT1 (h : Heap) (u : Addr) : Heap := h.push { cls := .type "tuple_iterator", data := .fields #[.ref u, .int 0 0] }
abbrev zT2 (h : Heap) (u v : Addr) : Heap := (zT1 h u).push { cls := .type "tuple_iterator", data := .fields #[.ref v, .int 0 0] }
abbrev zT3 (h : Heap) (u v : Addr) : Heap := (zT2 h u v).push { cls := .type "tuple", data := .seq #[.ref h.objs.size, .ref (zT1 h u).objs.size] }
abbrev zT4 (h : Heap) (u v : Addr) : Heap := (zT3 h u v).push { cls := .type "tuple", data := .seq #[.none, .none] }
abbrev zT5 (h : Heap) (u v : Addr) : Heap := (zT4 h u v).push { cls := .type "zip", data := .fields #[.none, .bool false, .bool false, .ref (zT2 h u v).objs.size, .ref (zT3 h u v).objs.size] }
theorem zipT_new (u v : Addr) (xs ys : Array Value) : Meets (Builtin.«zip.__new__» ⟨[.type "zip", .ref u, .ref v], []⟩) (fun _ R s => s.heap.IsTuple u xs ∧ s.heap.IsTuple v ys ∧ R (.ok (.ret (.ref (zT4 s.heap u v).objs.size))) { s with heap := zT5 s.heap u v }) :=
  .of_wp fun prog w A R s h => by
    obtain ⟨hp, g, d, tk, os⟩ := s; obtain ⟨t1, t2, q⟩ := h
    have sz := sub_zip
    have L1 : Heap.IsTuple (Shared.heap ⟨hp, g, d, tk, os⟩) u xs := t1
    have L2 : Heap.IsTuple (Shared.heap ⟨hp.push { cls := .type "tuple_iterator", data := .fields #[.ref u, .int 0 0] }, g, d, tk, os⟩) v ys := Heap.IsTuple.push t2 _
    wp_walk using wpAny_pyIter_tuple L1, wpAny_pyIter_tuple L2
    exact ⟨_, rfl, q⟩
theorem zipT_call {u v : Addr} {xs ys : Array Value} {Q : Value → Shared → Prop} (t1 : s.heap.IsTuple u xs) (t2 : s.heap.IsTuple v ys)
    (q : ∀ g, IsZip g (s.heap.objs.size + 4) (s.heap.objs.size + 2) (s.heap.objs.size + 3) .none → IsPair g (s.heap.objs.size + 2) (.ref s.heap.objs.size) (.ref (s.heap.objs.size + 1)) → IsPair g (s.heap.objs.size + 3) .none .none →
      g.IsTupleIter s.heap.objs.size u 0 → g.IsTupleIter (s.heap.objs.size + 1) v 0 → (∀ c o, s.heap.get? c = some o → g.get? c = some o) → Q (.ref (s.heap.objs.size + 4)) { s with heap := g }) :
    wpAny (model prog w) A (call (.type "zip") [.ref u, .ref v]) Q E s := by
  refine callType_new F.called_zip (by decide) (F.typeCall_zip_2 _ _) (F.newCall_zip_2 _ _) (fun obj => F.args_object_init_3 obj _ _) F.entry_zip_new (zipT_new u v xs ys) ⟨t1, t2, ?_⟩
  have y1 : (zT1 s.heap u).objs.size = s.heap.objs.size + 1 := Heap.size_push ..
  have y2 : (zT2 s.heap u v).objs.size = s.heap.objs.size + 2 := by rw [Heap.size_push, y1]
  have y3 : (zT3 s.heap u v).objs.size = s.heap.objs.size + 3 := by rw [Heap.size_push, y2]
  have y4 : (zT4 s.heap u v).objs.size = s.heap.objs.size + 4 := by rw [Heap.size_push, y3]
  have k5 : (zT5 s.heap u v).get? (zT4 s.heap u v).objs.size = some _ := Heap.get?_push_size _ rfl
  have k4 : (zT5 s.heap u v).get? (zT3 s.heap u v).objs.size = some _ := Heap.get?_push_of_some _ (Heap.get?_push_size _ rfl)
  have k3 : (zT5 s.heap u v).get? (zT2 s.heap u v).objs.size = some _ := Heap.get?_push_of_some _ (Heap.get?_push_of_some _ (Heap.get?_push_size _ rfl))
  have k2 : (zT5 s.heap u v).get? (zT1 s.heap u).objs.size = some _ := Heap.get?_push_of_some _ (Heap.get?_push_of_some _ (Heap.get?_push_of_some _ (Heap.get?_push_size _ rfl)))
  have k1 : (zT5 s.heap u v).get? s.heap.objs.size = some _ := Heap.get?_push_of_some _ (Heap.get?_push_of_some _ (Heap.get?_push_of_some _ (Heap.get?_push_of_some _ (Heap.get?_push_size _ rfl))))
  show _ ∧ _
  rw [y2, y3, y4] at k5
  rw [y1, y2] at k3
  rw [y3] at k4
  rw [y1] at k2
  refine ⟨by rw [y4]; exact ⟨_, k5, rfl⟩, ?_⟩
  rw [y4]
  exact q _ k5 k3 k4 ⟨_, k1, rfl, rfl⟩ ⟨_, k2, rfl, rfl⟩ fun c o z => Heap.get?_push_of_some _ (Heap.get?_push_of_some _ (Heap.get?_push_of_some _ (Heap.get?_push_of_some _ (Heap.get?_push_of_some _ z))))
end
section
variable {X : Cx} {elts : List Expr} {kt : Nat} {pt : Pos}
/-- zip(a, b) of two lists, or of two tuples -/
def iZipS (K : PySem.W.Frag) (ta : TA) : TI := fun σ H R => ta σ H fun vs H1 => ∃ a b, vs = [.ref a, .ref b] ∧ (((∃ xs, SqL K H1 a xs) ∧ (∃ ys, SqL K H1 b ys) ∧ R (Itz K a b) H1) ∨ ((∃ xs, SqT K H1 a xs) ∧ (∃ ys, SqT K H1 b ys) ∧ R (Itzt K a b) H1))
theorem pi_zipS {a b : Expr} {ta : TA} {p pos : Pos} (hg : Gl X "zip") (hm : X.mg "zip" = none) (ha : PA X [a, b] ta) (hs : starEach [a, b] X.env = [(false, eval a X.env), (false, eval b X.env)] := by rfl) (hs2 : starEach [b] X.env = [(false, eval b X.env)] := by rfl) :
    PI X (.Tuple elts kt pt) (.Call (.Name "zip" p) [a, b] [] pos) (iZipS X.K ta) := by
  intro pins s σ H R I h
  refine Call_ (ld_blt I hg hm (by rfl : bootBuiltins "zip" = some (.type "zip")) (PyProof.Rows.callWith_type1 (thn (ha pos pins s σ H _ I h) fun us s1 ⟨vs, H1, I1, r1, q1⟩ => ?_) (by rw [hs, hs2]) (by rw [hs2]; rfl)))
  obtain ⟨a, b, e, q⟩ := q1
  subst e
  obtain ⟨u, v, rfl, ru, rv⟩ := r1.two
  cases (show u = Value.ref a from ru)
  cases (show v = Value.ref b from rv)
  rcases q with ⟨⟨xs, ha⟩, ⟨ys, hb⟩, q⟩ | ⟨⟨xs, ha⟩, ⟨ys, hb⟩, q⟩
  · obtain ⟨its, _, p1, _⟩ := I1.list ha
    obtain ⟨jts, _, p2, _⟩ := I1.list hb
    have l1 : a < s1.heap.objs.size := let ⟨o, ho, _⟩ := p1.isList; Heap.lt_size ho
    have l2 : b < s1.heap.objs.size := let ⟨o, ho, _⟩ := p2.isList; Heap.lt_size ho
    refine call_zip_2 p1.isList p2.isList fun h' hz hTI hTO h1 h2 hsz hk => wpAny_pyIter_zip (s := { s1 with heap := h' }) hz ?_
    refine ⟨s1.heap.objs.size + 4, _, _, _, H1, rfl, I1.kept (t' := s1.toks) hk, turn_zip l1 l2, ⟨hz, hTI, ⟨_, _, hTO⟩, h1, h2⟩, fun c hc => ?_, q⟩
    have hle : s1.heap.objs.size ≤ c := by
      simp only [List.mem_cons, List.not_mem_nil, or_false] at hc
      rcases hc with rfl | rfl | rfl | rfl | rfl
      · exact Nat.le_add_right _ _
      · exact Nat.le_add_right _ _
      · exact Nat.le_add_right _ _
      · exact Nat.le_refl _
      · exact Nat.le_add_right _ _
    exact I1.fpOk hle (I1.hok.fresh hle)
  · obtain ⟨its, _, p1, _⟩ := I1.tuple ha
    obtain ⟨jts, _, p2, _⟩ := I1.tuple hb
    have l1 : a < s1.heap.objs.size := let ⟨o, ho, _⟩ := istup p1; Heap.lt_size ho
    have l2 : b < s1.heap.objs.size := let ⟨o, ho, _⟩ := istup p2; Heap.lt_size ho
    refine zipT_call (istup p1) (istup p2) fun h' hz hTI hTO h1 h2 hk => wpAny_pyIter_zip (s := { s1 with heap := h' }) hz ?_
    refine ⟨s1.heap.objs.size + 4, _, _, _, H1, rfl, I1.kept (t' := s1.toks) hk, turn_zipT l1 l2, ⟨hz, hTI, ⟨_, _, hTO⟩, h1, h2⟩, fun c hc => ?_, q⟩
    have hle : s1.heap.objs.size ≤ c := by
      simp only [List.mem_cons, List.not_mem_nil, or_false] at hc
      rcases hc with rfl | rfl | rfl | rfl | rfl
      · exact Nat.le_add_right _ _
      · exact Nat.le_add_right _ _
      · exact Nat.le_add_right _ _
      · exact Nat.le_refl _
      · exact Nat.le_add_right _ _
    exact I1.fpOk hle (I1.hok.fresh hle)
end
theorem rd_izipS {K : PySem.W.Frag} {σ : St} {H : Hp} {ta : TA} {R : It → Hp → Prop} (h : ta σ H fun vs H1 => ∃ a b, vs = [.ref a, .ref b] ∧ (((∃ xs, SqL K H1 a xs) ∧ (∃ ys, SqL K H1 b ys) ∧ R (Itz K a b) H1) ∨ ((∃ xs, SqT K H1 a xs) ∧ (∃ ys, SqT K H1 b ys) ∧ R (Itzt K a b) H1))) : iZipS K ta σ H R := h
theorem compW_zipT {K : PySem.W.Frag} {σ : St} {H : Hp} {Q : VK} {te : TE} {l a b : Addr} {xs ys : List V} (F : Nat → V) (hx : H a = some (.tup xs)) (hy : H b = some (.tup ys)) (he : xs.length = ys.length) (hz : xs.length ≤ 1000) (hl : H l = none)
    (step : ∀ (i : Nat) x y H' (Q' : VK), xs[i]? = some x → ys[i]? = some y → Same H H' → (∀ H5, Same H' H5 → Q' (F i) H5) → te [some x, some y] H' Q')
    (fin : ∀ H', Same H H' → H' l = some (.lst ((List.range xs.length).map F)) → Q (.ref l) H') : CompW (Itzt K a b) (gTup K 2 (gCons (gName 0) (gCons (gName 1) gNil))) tTrue te [none, none] l σ H Q := by
  refine ⟨xs.length, fun i zs σ' H' => zs = (List.range i).map F ∧ (∃ o o', σ' = [o, o']) ∧ Same H H' ∧ H' l = some (.lst zs), ⟨rfl, ⟨none, none, rfl⟩, Same.new hl, upd_same⟩, ?_, ?_⟩
  · rintro i zs σ' H' hi ⟨rfl, ⟨o, o', rfl⟩, s, e⟩
    refine ⟨⟨xs, ys, xs[i], ys[i]'(by omega), SqT.of (s _ _ hx), SqT.of (s _ _ hy), by simp [hi], by simp⟩, fun v H2 z => ?_⟩
    obtain ⟨T, rfl, hT, z⟩ := z
    obtain ⟨x, y, ex, ey, rfl⟩ := z xs ys (SqT.of (s _ _ hx)) (SqT.of (s _ _ hy))
    have sT := Same.new (o := HO.tup [x, y]) hT
    refine rd_gtup upd_same rfl (rd_gcons (rd_name (rd_gcons (rd_name (rd_gnil (rd_true (iteT ?_)))))))
    refine step i x y _ _ ex ey (s.trans sT) fun H5 s5 => ⟨s5 _ _ (sT _ _ e), ?_, ?_⟩
    · rw [List.length_map, List.length_range]
      exact small1000 (by omega)
    · refine ⟨?_, ⟨_, _, rfl⟩, ((s.trans sT).trans s5).later hl, upd_same⟩
      rw [List.range_succ, List.map_append]
      rfl
  · rintro zs σ' H' ⟨rfl, _, s, e⟩
    exact ⟨⟨xs, ys, SqT.of (s _ _ hx), SqT.of (s _ _ hy), Nat.le_refl _⟩, fin H' s e⟩
end L2

set_option Elab.async false
set_option maxRecDepth 100000
namespace L2
open PySem PySem.Spec PyProof.Rows
def rInsert : V → List V → Hp → VK → Prop := fun x vs H Q => ∃ l xs y, ∃ k : Nat, x = .ref l ∧ vs = [.int (k : Int), y] ∧ H l = some (.lst xs) ∧ k ≤ xs.length ∧ xs.length ≤ 1000 ∧ Q .non (upd H l (.lst (xs.take k ++ y :: xs.drop k)))
def rMax2 : List V → Hp → VK → Prop := fun xs H Q => ∃ i j, xs = [.int i, .int j] ∧ Q (.int (if j > i then j else i)) H
end L2

set_option Elab.async false
set_option linter.all false
set_option maxRecDepth 100000
namespace L2
open PySem PySem.Spec PyProof.Rows
section
variable {K : PySem.W.Frag} {σ : St} {H : Hp} {Q : VK} {te : TE} {cap : List (Option Nat)} {l : Addr}
end
end L2

set_option Elab.async false
set_option linter.all false
set_option maxRecDepth 100000
namespace L2
open PySem PySem.Spec PyProof.Rows
/-! ### enumerate of a list, unpacked into names -/
def Ite (K : PySem.W.Frag) (a : Addr) : It :=
  ⟨fun i H => ∃ xs x, SqL K H a xs ∧ xs[i]? = some x,
   fun i H v H' => ∃ T, v = .ref T ∧ H T = none ∧ ∀ xs, SqL K H a xs → ∃ x, xs[i]? = some x ∧ H' = upd H T (.tup [.int (i : Nat), x]),
   fun i H => ∃ xs, SqL K H a xs ∧ xs.length ≤ i⟩
section
variable {X : Cx} {elts : List Expr} {kt : Nat} {pt : Pos}
def iEnum (K : PySem.W.Frag) (ta : TA) : TI := fun σ H R => ta σ H fun vs H1 => ∃ a, vs = [.ref a] ∧ (∃ xs, SqL K H1 a xs) ∧ R (Ite K a) H1
end
end L2

set_option Elab.async false
set_option maxHeartbeats 4000000
set_option linter.all false
open PySem PySem.Spec PyProof.Rows
namespace L2
/-- C.m as a def of the class itself -/
structure ClsFn (K : PySem.W.Frag) (C : Addr) (m : Str) (f : Addr) : Prop where
  ga : PySem.W.specialIn K (.ref C) "__getattribute__" = some (some (.builtin "type.__getattribute__"))
  rd : PySem.W.readsIn K C (.type "type") = true
  at_ : PySem.W.findCls K (.ref C) (.type "type") m = some (.val (.ref f))
  kp : PySem.W.keepIn K (.ref f) = true
section
variable {X : Cx} {CX : CXT} {k : Nat} {f C : Addr} {fd : FuncData} {ps : List Str} {sp : Sp} {dvs : List V} {ds : List Value} {E : XK} {x m : Str} {p pos apos : Pos} {e o : Expr} {es : List Expr} {ta : TE} {t : TA}
/-- C.m(e, ..): the class's own def, called by the class -/
theorem pe_callC {pl : Sem Bool} (hg : Gl X x) (hm : X.mg x = some (.ref C)) (c : ClsFn X.K C m f) (F : FnOk X.prog X.w X.K X.mg X.base CX k f fd ps sp) (hr : Room k X.A) (hb : Binds X.K fd ps ds) (hd : Vals dvs ds) (hx : Passes CX X E) (ha : PA X (e :: es) t)
    (hdb : (x == ("__debug__" : Str)) = false := by decide)
    (hst : starEach (e :: es) X.env = (false, eval e X.env) :: starEach es X.env := by rfl) (hpl : (backTo pos (starEach es X.env)).any (·.1) = false := by rfl)
    (ht : eval (.Call (.Attribute (.Name x p) m apos) (e :: es) [] pos) X.env = (do
      let ov ← eval (.Name x p) X.env
      standAt apos.atName
      let (f, first) ← holding [ov] (getMethod ov m pl)
      callWith pos f first (backTo pos (starEach (e :: es) X.env)) (backToKw pos (keywordEach [] X.env))) := by rfl) :
    PE X (.Call (.Attribute (.Name x p) m apos) (e :: es) [] pos) (tCall sp dvs E t) := by
  intro pins s σ H Q I h
  refine PySem.W.methodCall_KW (pl := pl) (thn ((pe_glob (v := .ref C) hg hm rfl hdb) pins s σ H (fun x H1 => x = .ref C ∧ H1 = H) I ⟨rfl, rfl⟩) fun u s1 ⟨x, H1, I1, rx, ex, eh⟩ => ?_) ht
  subst ex; subst eh
  obtain rfl : u = Value.ref C := rx
  refine PySem.W.method_cls I1.kIn c.ga (PySem.W.cls_value I1.kIn c.rd c.at_ rfl ?_)
  have I2 := I1.tok (s1.toks + 1)
  refine PySem.W.callWith_K (first := []) (h₀ := X.base) I.ok.mod.kin c.kp (thn (ha pos pins _ σ H1 _ I2 h) fun us s2 ⟨vs, H2, I3, r, q2⟩ => ⟨I3.kIn, ?_⟩) hst hpl
  exact run_fn (us := us) (vs := vs) F hr hb hd hx I3 r q2
end
end L2

set_option Elab.async false
set_option linter.all false
namespace L2
open PySem PySem.Spec PyProof.Rows
/-! ### readings under a name: the rest of a text is not written out at every step -/
theorem cutC {X : Cx} {s : Stmt} {ss : List Stmt} {r : TS} {C : TS → Prop} (d : PS X s r) (k : ∀ r', r' = r → ∃ ts, PSs X ss ts ∧ C (tSeq r' ts)) : ∃ ts, PSs X (s :: ss) ts ∧ C ts :=
  let ⟨_, h1, h2⟩ := k r rfl
  ⟨_, pss_cons d h1, h2⟩
theorem cutE {X : Cx} {s : Stmt} {r : TS} {C : TS → Prop} (d : PS X s r) (k : ∀ r', r' = r → C r') : ∃ ts, PSs X [s] ts ∧ C ts := ⟨_, pss_one d, k r rfl⟩
theorem rd_cut {r r' : TS} {D : Ends} {σ : St} {H : Hp} (e : r' = r) (h : r D σ H) : r' D σ H := e ▸ h
theorem rd_seqA {t u : TS} {D : Ends} {σ : St} {H : Hp} (k : ∀ u', u' = u → t { D with nx := u' D } σ H) : tSeq t u D σ H := k u rfl
theorem len1 {us : List Value} (h : us.length = 1) : ∃ a0, us = [a0] := match us, h with | [a0], _ => ⟨a0, rfl⟩
theorem len2 {us : List Value} (h : us.length = 2) : ∃ a0 a1, us = [a0, a1] := match us, h with | [a0, a1], _ => ⟨a0, a1, rfl⟩
theorem len3 {us : List Value} (h : us.length = 3) : ∃ a0 a1 a2, us = [a0, a1, a2] := match us, h with | [a0, a1, a2], _ => ⟨a0, a1, a2, rfl⟩
theorem len4 {us : List Value} (h : us.length = 4) : ∃ a0 a1 a2 a3, us = [a0, a1, a2, a3] := match us, h with | [a0, a1, a2, a3], _ => ⟨a0, a1, a2, a3, rfl⟩
theorem len5 {us : List Value} (h : us.length = 5) : ∃ a0 a1 a2 a3 a4, us = [a0, a1, a2, a3, a4] := match us, h with | [a0, a1, a2, a3, a4], _ => ⟨a0, a1, a2, a3, a4, rfl⟩
end L2

set_option Elab.async false
set_option linter.all false
set_option maxRecDepth 100000
set_option maxHeartbeats 4000000
namespace L2
open PySem PySem.Spec PyProof.Rows
/-! ### lists of pairs as tables -/
section
variable {κ : Type} [DecidableEq κ]
def valV (kvs : List (κ × V)) (k : κ) : Option V := (kvs.find? fun kv => decide (kv.1 = k)).map (·.2)
/-- in its place, or at the end -/
def putK (kvs : List (κ × V)) (k : κ) (v : V) : List (κ × V) :=
  if (kvs.any fun kv => decide (kv.1 = k)) = true then kvs.map (fun kv => if kv.1 = k then (kv.1, v) else kv) else kvs ++ [(k, v)]
def dropK (kvs : List (κ × V)) (k : κ) : List (κ × V) := kvs.filter fun kv => decide (kv.1 ≠ k)

theorem valV_pos {p : κ × V} {r : List (κ × V)} {k : κ} (e : p.1 = k) : valV (p :: r) k = some p.2 := by simp [valV, List.find?_cons, e]
theorem valV_neg {p : κ × V} {r : List (κ × V)} {k : κ} (e : ¬ p.1 = k) : valV (p :: r) k = valV r k := by simp [valV, List.find?_cons, e]
theorem valV_any (k : κ) : ∀ kvs : List (κ × V), (kvs.any fun kv => decide (kv.1 = k)) = (valV kvs k).isSome
  | [] => rfl
  | p :: r => by
    rw [List.any_cons]
    by_cases e : p.1 = k
    · simp only [valV_pos e, decide_eq_true e, Bool.true_or, Option.isSome_some]
    · rw [valV_neg e, decide_eq_false e, Bool.false_or]; exact valV_any k r
theorem valV_map (k j : κ) (y : V) : ∀ kvs : List (κ × V), valV (kvs.map fun kv => if kv.1 = k then (kv.1, y) else kv) j = (valV kvs j).map fun x => if j = k then y else x
  | [] => rfl
  | p :: r => by
    have ih := valV_map k j y r
    rw [List.map_cons]
    by_cases h : p.1 = k
    · rw [if_pos h]
      by_cases e : p.1 = j
      · rw [valV_pos (p := (p.1, y)) e, valV_pos e, Option.map_some, if_pos (e.symm.trans h)]
      · rw [valV_neg (p := (p.1, y)) e, valV_neg e, ih]
    · rw [if_neg h]
      by_cases e : p.1 = j
      · rw [valV_pos (p := p) e, valV_pos e, Option.map_some, if_neg (fun z => h (e.trans z))]
      · rw [valV_neg (p := p) e, valV_neg e, ih]
theorem valV_snoc (k j : κ) (y : V) : ∀ kvs : List (κ × V), valV kvs k = none → valV (kvs ++ [(k, y)]) j = if j = k then some y else valV kvs j
  | [], _ => by
    by_cases e : k = j
    · rw [if_pos e.symm]; exact valV_pos (p := (k, y)) e
    · rw [if_neg (fun z => e z.symm)]; exact valV_neg (p := (k, y)) e
  | p :: r, hn => by
    rw [List.cons_append]
    have hk : ¬ p.1 = k := fun z => by rw [valV_pos z] at hn; cases hn
    rw [valV_neg hk] at hn
    have ih := valV_snoc k j y r hn
    by_cases e : p.1 = j
    · rw [valV_pos e, valV_pos e, if_neg (fun z => hk (e.trans z))]
    · rw [valV_neg e, valV_neg e, ih]
theorem valV_put (kvs : List (κ × V)) (k j : κ) (y : V) : valV (putK kvs k y) j = if j = k then some y else valV kvs j := by
  unfold putK
  by_cases a : (kvs.any fun kv => decide (kv.1 = k)) = true
  · rw [if_pos a, valV_map]
    rw [valV_any] at a
    by_cases e : j = k
    · obtain ⟨x, hx⟩ := Option.isSome_iff_exists.mp a
      rw [if_pos e, e, hx, Option.map_some, if_pos rfl]
    · rw [if_neg e]
      cases valV kvs j with
      | none => rfl
      | some x => rw [Option.map_some, if_neg e]
  · rw [if_neg a]
    refine valV_snoc k j y kvs ?_
    rw [valV_any] at a
    cases q : valV kvs k with
    | none => rfl
    | some x => rw [q] at a; exact (a rfl).elim
theorem length_putK (kvs : List (κ × V)) (k : κ) (v : V) : (putK kvs k v).length ≤ kvs.length + 1 := by
  unfold putK
  split
  · rw [List.length_map]; omega
  · rw [List.length_append, List.length_cons, List.length_nil]; omega
theorem putK_new {kvs : List (κ × V)} {k : κ} (v : V) (h : valV kvs k = none) : putK kvs k v = kvs ++ [(k, v)] := by
  unfold putK
  rw [valV_any, h]
  exact if_neg (by decide)

theorem RelO.isSome_eq {o : Option V} {u : Option Value} (r : RelO o u) : o.isSome = u.isSome := by
  cases o with
  | none => cases u with
    | none => rfl
    | some _ => exact (show False from r).elim
  | some _ => cases u with
    | none => exact (show False from r).elim
    | some _ => rfl

/-- raw tables of the same keys -/
theorem KV.val {kvs : List (κ × V)} {vs : List (κ × Value)} (r : KV kvs vs) (k : κ) : RelO (valV kvs k) (valueAt vs k) := by
  unfold KV at r
  induction r with
  | nil => exact True.intro
  | @cons p q ps qs h t ih =>
    obtain ⟨h1, h2⟩ := h
    by_cases e : p.1 = k
    · have e' : q.1 = k := h1.symm.trans e
      have b : valueAt (q :: qs) k = some q.2 := by simp [valueAt, List.find?_cons, e']
      rw [valV_pos e, b]; exact h2
    · have e' : ¬ q.1 = k := fun z => e (h1.trans z)
      have b : valueAt (q :: qs) k = valueAt qs k := by simp [valueAt, List.find?_cons, e']
      rw [valV_neg e, b]; exact ih
theorem KV.any {kvs : List (κ × V)} {vs : List (κ × Value)} (r : KV kvs vs) (k : κ) : (kvs.any fun kv => decide (kv.1 = k)) = vs.any fun kv => decide (kv.1 = k) := by
  unfold KV at r
  induction r with
  | nil => rfl
  | cons h t ih => rw [List.any_cons, List.any_cons, ih, h.1]
theorem KV.repl {kvs : List (κ × V)} {vs : List (κ × Value)} (r : KV kvs vs) (k : κ) {y : V} {u : Value} (ry : RelV y u) :
    KV (kvs.map fun kv => if kv.1 = k then (kv.1, y) else kv) (vs.map fun kv => if kv.1 = k then (kv.1, u) else kv) := by
  unfold KV at r ⊢
  induction r with
  | nil => exact .nil
  | @cons p q ps qs h t ih =>
    rw [List.map_cons, List.map_cons]
    refine .cons ?_ ih
    obtain ⟨h1, h2⟩ := h
    by_cases e : p.1 = k
    · rw [if_pos e, if_pos (h1.symm.trans e)]; exact ⟨h1, ry⟩
    · rw [if_neg e, if_neg (fun z => e (h1.trans z))]; exact ⟨h1, h2⟩
theorem KV.put {kvs : List (κ × V)} {vs : List (κ × Value)} (r : KV kvs vs) (k : κ) {y : V} {u : Value} (ry : RelV y u) : KV (putK kvs k y) (stored vs k u) := by
  unfold putK stored
  rw [r.any k]
  by_cases e : (vs.any fun kv => decide (kv.1 = k)) = true
  · rw [if_pos e, if_pos e]; exact r.repl k ry
  · rw [if_neg e, if_neg e]; exact Paired.snoc r ⟨rfl, ry⟩
theorem KV.drop {kvs : List (κ × V)} {vs : List (κ × Value)} (r : KV kvs vs) (k : κ) : KV (dropK kvs k) (without vs k) := by
  unfold KV at r ⊢
  unfold dropK without
  induction r with
  | nil => exact .nil
  | @cons p q ps qs h t ih =>
    obtain ⟨h1, h2⟩ := h
    rw [List.filter_cons, List.filter_cons]
    by_cases e : p.1 = k
    · have a : ¬ decide (p.1 ≠ k) = true := by simp [e]
      have b : ¬ decide (q.1 ≠ k) = true := by simp [h1.symm.trans e]
      rw [if_neg a, if_neg b]; exact ih
    · have e' : ¬ q.1 = k := fun z => e (h1.trans z)
      have a : decide (p.1 ≠ k) = true := by simp [e]
      have b : decide (q.1 ≠ k) = true := by simp [e']
      rw [if_pos a, if_pos b]; exact .cons ⟨h1, h2⟩ ih
theorem KV.length {kvs : List (κ × V)} {vs : List (κ × Value)} (r : KV kvs vs) : kvs.length = vs.length := Paired.length r
theorem dropK_le (kvs : List (κ × V)) (k : κ) : (dropK kvs k).length ≤ kvs.length := List.length_filter_le _ _
end


/-! ### a tracked dict, its keys ints and texts or tuples of these -/
theorem kV_is {P : Program} {w : World} {k : Key} {u : Value} (r : RelV (kV k) u) : (mixKind P w).is k u = true := by
  cases k with
  | inl i => obtain ⟨t, e⟩ := (show ∃ t, u = Value.int i t from r); subst e; exact mixKind_int P w i t
  | inr x => obtain ⟨t, e⟩ := (show ∃ t, u = Value.str x t from r); subst e; exact mixKind_str P w x t
theorem items_are {P : Program} {w : World} : ∀ {ks : List Key} {us : List Value}, Vals (ks.map kV) us → ItemsAre (mixKind P w) ks us
  | [], _, r => by rw [List.map_nil] at r; cases r; exact .nil
  | k :: ks, _, r => by
    rw [List.map_cons] at r
    cases r with
    | cons h t => exact .cons (kV_is h) (items_are t)

/-- raw entries of a dict with tuple keys -/
abbrev KT (H : Hp) : List (List Key × V) → List (List Key × Addr × Value) → Prop := Paired fun p q => p.1 = q.1 ∧ H q.2.1 = some (.tup (p.1.map kV)) ∧ RelV p.2 q.2.2
theorem KT.val {H : Hp} {kvs : List (List Key × V)} {xs : List (List Key × Addr × Value)} (r : KT H kvs xs) (k : List Key) : RelO (valV kvs k) ((atKey xs k).map (·.2)) := by
  induction r with
  | nil => exact True.intro
  | @cons p q ps qs h t ih =>
    obtain ⟨h1, _, h2⟩ := h
    by_cases e : p.1 = k
    · have e' : q.1 = k := h1.symm.trans e
      have b : atKey (q :: qs) k = some q.2 := by simp [atKey, List.find?_cons, e']
      rw [valV_pos e, b]; exact h2
    · have e' : ¬ q.1 = k := fun z => e (h1.trans z)
      have b : atKey (q :: qs) k = atKey qs k := by simp [atKey, List.find?_cons, e']
      rw [valV_neg e, b]; exact ih
theorem KT.repl {H : Hp} {kvs : List (List Key × V)} {xs : List (List Key × Addr × Value)} (r : KT H kvs xs) (k : List Key) {y : V} {u : Value} (ry : RelV y u) :
    KT H (kvs.map fun kv => if kv.1 = k then (kv.1, y) else kv) (xs.map (putAt k u)) := by
  induction r with
  | nil => exact .nil
  | @cons p q ps qs h t ih =>
    rw [List.map_cons, List.map_cons]
    refine .cons ?_ ih
    obtain ⟨h1, h2, h3⟩ := h
    unfold putAt
    by_cases e : p.1 = k
    · rw [if_pos e, if_pos (h1.symm.trans e)]; exact ⟨h1, h2, ry⟩
    · rw [if_neg e, if_neg (fun z => e (h1.trans z))]; exact ⟨h1, h2, h3⟩
theorem KT.put {H : Hp} {kvs : List (List Key × V)} {xs : List (List Key × Addr × Value)} (r : KT H kvs xs) (k : List Key) {b : Addr} {y : V} {u : Value} (hb : H b = some (.tup (k.map kV))) (ry : RelV y u) :
    KT H (putK kvs k y) (storedH xs k b u) := by
  have e : (kvs.any fun kv => decide (kv.1 = k)) = (atKey xs k).isSome := by
    rw [valV_any, (r.val k).isSome_eq, Option.isSome_map]
  unfold putK storedH
  rw [e]
  by_cases q : (atKey xs k).isSome = true
  · rw [if_pos q, if_pos q]; exact r.repl k ry
  · rw [if_neg q, if_neg q]; exact Paired.snoc r ⟨rfl, hb, ry⟩
theorem KT.keeps {H H' : Hp} {kvs : List (List Key × V)} {xs : List (List Key × Addr × Value)} (r : KT H kvs xs) (ht : ∀ b ys, H b = some (.tup ys) → H' b = some (.tup ys)) : KT H' kvs xs :=
  Paired.mapP r fun _ _ z => ⟨z.1, ht _ _ z.2.1, z.2.2⟩

section
variable {P : Program} {w : World} {H : Hp} {h : Heap} {a : Addr}
theorem rd_of {u : HO} (ok : HOk P w H h) (e : Rd H a u) : ObjOk P w H h a u := e.ok ok
theorem dk_rd {kvs : List (Key × V)} (ok : HOk P w H h) (e : Rd H a (.dK kvs)) : kvs.length ≤ sizeLine ∧ (a == sysModules) = false ∧ ∃ vs, KV kvs vs ∧ h.DictOf (mixKind P w) a vs :=
  show ObjOk P w H h a (.dK kvs) from rd_of ok e
theorem dk_of {kvs : List (Key × V)} (ok : HOk P w H h) (e : H a = some (.dK kvs)) : kvs.length ≤ sizeLine ∧ (a == sysModules) = false ∧ ∃ vs, KV kvs vs ∧ h.DictOf (mixKind P w) a vs := dk_rd ok (.inl e)
/-- a tracked tuple of ints and texts is a key -/
theorem key_of {ks : List Key} (ok : HOk P w H h) (e : H a = some (.tup (ks.map kV))) : (tupleKind (mixKind P w)).is h ks a := by
  obtain ⟨_, its, r, o, h1, h2, n, h3⟩ := (show ObjOk P w H h a (.tup (ks.map kV)) from ok a _ e)
  exact ⟨o, its.toArray, n, h1, h2, h3, by simpa using items_are r⟩
theorem dt_rd {kvs : List (List Key × V)} (ok : HOk P w H h) (e : Rd H a (.dT kvs)) : kvs.length ≤ sizeLine ∧ (a == sysModules) = false ∧
    ∃ xs, KT H kvs xs ∧ h.DictOfH (tupleKind (mixKind P w)) a xs := by
  obtain ⟨z, y, xs, r, o, es, ep, h1, h2, h3, h4, h5⟩ := (show ObjOk P w H h a (.dT kvs) from rd_of ok e)
  refine ⟨z, y, xs, r, o, es, ep, h1, h2, h3, h4, fun x hx => ?_, h5⟩
  have all : ∀ {l : List (List Key × V)} {m : List (List Key × Addr × Value)}, KT H l m → ∀ x ∈ m, (tupleKind (mixKind P w)).is h x.1 x.2.1 := by
    intro l m q
    induction q with
    | nil => intro x hx; exact nomatch hx
    | @cons p q ps qs hq t ih =>
      intro x hx
      rcases List.mem_cons.mp hx with e | hx
      · subst e
        exact key_of ok (by rw [← hq.1]; exact hq.2.1)
      · exact ih x hx
  exact all r x hx
theorem dt_of {kvs : List (List Key × V)} (ok : HOk P w H h) (e : H a = some (.dT kvs)) : kvs.length ≤ sizeLine ∧ (a == sysModules) = false ∧
    ∃ xs, KT H kvs xs ∧ h.DictOfH (tupleKind (mixKind P w)) a xs := dt_rd ok (.inl e)
end

/-- what the dict at a holds at the key y -/
def DGet (H : Hp) (a : Addr) (y : V) (r : Option V) : Prop :=
  (∃ kvs k, Rd H a (.dK kvs) ∧ y = kV k ∧ r = valV kvs k) ∨ ∃ kvs k b, Rd H a (.dT kvs) ∧ y = .ref b ∧ H b = some (.tup (k.map kV)) ∧ r = valV kvs k
/-- the heap behind a[y] = v -/
def DPut (H : Hp) (a : Addr) (y v : V) (H' : Hp) : Prop :=
  (∃ kvs k, H a = some (.dK kvs) ∧ y = kV k ∧ kvs.length < sizeLine ∧ H' = upd H a (.dK (putK kvs k v))) ∨
  ∃ kvs k b, H a = some (.dT kvs) ∧ y = .ref b ∧ H b = some (.tup (k.map kV)) ∧ kvs.length < sizeLine ∧ H' = upd H a (.dT (putK kvs k v))
theorem DGet.k {H : Hp} {a : Addr} {kvs : List (Key × V)} {k : Key} (e : H a = some (.dK kvs)) : DGet H a (kV k) (valV kvs k) := .inl ⟨kvs, k, .inl e, rfl, rfl⟩
theorem DGet.t {H : Hp} {a b : Addr} {kvs : List (List Key × V)} {k : List Key} (e : H a = some (.dT kvs)) (eb : H b = some (.tup (k.map kV))) : DGet H a (.ref b) (valV kvs k) := .inr ⟨kvs, k, b, .inl e, rfl, eb, rfl⟩
theorem DPut.k {H : Hp} {a : Addr} {kvs : List (Key × V)} {k : Key} {v : V} (e : H a = some (.dK kvs)) (hl : kvs.length < sizeLine) : DPut H a (kV k) v (upd H a (.dK (putK kvs k v))) := .inl ⟨kvs, k, e, rfl, hl, rfl⟩
theorem DPut.t {H : Hp} {a b : Addr} {kvs : List (List Key × V)} {k : List Key} {v : V} (e : H a = some (.dT kvs)) (eb : H b = some (.tup (k.map kV))) (hl : kvs.length < sizeLine) :
    DPut H a (.ref b) v (upd H a (.dT (putK kvs k v))) := .inr ⟨kvs, k, b, e, rfl, eb, hl, rfl⟩


section
variable {X : Cx} {pins : List (Addr × Obj)} {σ : St} {H : Hp} {s : Shared} {a : Addr} {y v : V} {u r : Value} {o : Option V} {A : Around} {E : Value → Shared → Prop}

theorem Inv.big (I : Inv X pins σ H s) : sysModules < s.heap.objs.size := by
  have h : mainGlobals < s.heap.objs.size := (I.mod.glob.keeps I.bk).lt
  exact Nat.lt_trans (by decide) h

/-- d[y], there -/
theorem d_getItem {Q : Value → Shared → Prop} (hu : A.units + 1 < cLine) (I : Inv X pins σ H s) (g : DGet H a y (some v)) (ry : RelV y u) (h : ∀ w' s', Inv X pins σ H s' → RelV v w' → Q w' s') :
    wpAny (model X.prog X.w) A (getItem (.ref a) u) Q E s := by
  rcases g with ⟨kvs, k, e, ey, l⟩ | ⟨kvs, k, b, e, ey, eb, l⟩
  · subst ey
    obtain ⟨z, hd, vs, rel, dd⟩ := dk_rd I.hok e
    obtain ⟨w', hw, rw'⟩ := RelO.some_of (v := v) (o := valueAt vs k) (by rw [l]; exact rel.val k)
    exact wpAny_getItem_of (kV_is ry) dd.mapOf hw (h w' _ (I.tok _) rw')
  · subst ey
    cases (show u = Value.ref b from ry)
    obtain ⟨z, hd, xs, rel, dd⟩ := dt_rd I.hok e
    obtain ⟨w', hw, rw'⟩ := RelO.some_of (v := v) (o := (atKey xs k).map (·.2)) (by rw [l]; exact rel.val k)
    obtain ⟨p, hp, hp2⟩ := Option.map_eq_some_iff.mp hw
    refine wpAny_getItem_heap (tupleKind_room_in1 hu) (key_of I.hok eb) dd hp ?_
    rw [hp2]
    exact h w' _ (I.tok _) rw'
theorem d_notIn {Q : Value → Shared → Prop} (hu : A.units + 1 < cLine) (I : Inv X pins σ H s) (g : DGet H a y o) (ry : RelV y u) (h : ∀ s', Inv X pins σ H s' → Q (.bool (!o.isSome)) s') :
    wpAny (model X.prog X.w) A (compareOp .NotIn u (.ref a)) Q E s := by
  rcases g with ⟨kvs, k, e, ey, l⟩ | ⟨kvs, k, b, e, ey, eb, l⟩
  · subst ey
    obtain ⟨z, hd, vs, rel, dd⟩ := dk_rd I.hok e
    refine wpAny_notIn_of (kV_is ry) hd dd.mapOf ?_
    rw [← (rel.val k).isSome_eq, ← l]
    exact h _ (I.tok _)
  · subst ey
    cases (show u = Value.ref b from ry)
    obtain ⟨z, hd, xs, rel, dd⟩ := dt_rd I.hok e
    refine wpAny_notIn_heap (tupleKind_room_in1 hu) (key_of I.hok eb) hd dd ?_
    have q := (rel.val k).isSome_eq
    rw [Option.isSome_map] at q
    rw [← q, ← l]
    exact h _ (I.tok _)
/-- a dict's object is replaced -/
theorem d_write {h' : Heap} {t' : Nat} {ob : HO} (I : Inv X pins σ H s) (mu : Mut (H a)) (hs : Heap.SameBut a s.heap h') (he : ∃ q, h'.get? a = some q) (new : ObjOk X.prog X.w (upd H a ob) h' a ob) :
    Inv X pins σ (upd H a ob) { s with heap := h', toks := t' } :=
  I.write (x := a) (e := a) mu (.inl rfl) (fun b q hb z => (hs.2 b hb).trans z) he new
theorem dk_new {P : Program} {w : World} {H' : Hp} {h' : Heap} {kvs : List (Key × V)} {vs : List (Key × Value)} (z : kvs.length ≤ sizeLine) (hd : (a == sysModules) = false) (rel : KV kvs vs) (dd : h'.DictOf (mixKind P w) a vs) :
    ObjOk P w H' h' a (.dK kvs) := ⟨z, hd, vs, rel, dd⟩
/-- d[y] = v -/
theorem d_setItem {H' : Hp} {Q : Unit → Shared → Prop} (hu : A.units + 1 < cLine) (I : Inv X pins σ H s) (g : DPut H a y v H') (ry : RelV y u) (rv : RelV v r) (h : ∀ s', Inv X pins σ H' s' → Q () s') :
    wpAny (model X.prog X.w) A (setItem (.ref a) u r) Q E s := by
  rcases g with ⟨kvs, k, e, ey, l, eH⟩ | ⟨kvs, k, b, e, ey, eb, l, eH⟩
  · subst ey eH
    obtain ⟨z, hd, vs, rel, dd⟩ := dk_of I.hok e
    have hz : vs.length ≤ sizeLine := by rw [← rel.length]; exact z
    have hl : (putK kvs k v).length ≤ sizeLine := by have := length_putK kvs k v; omega
    refine wpAny_setItem_pairs (hsz := hz) (kV_is ry) dd fun h' dd' hs => h _ ?_
    have he : ∃ q, h'.get? a = some q := let ⟨q, _, _, hq, _⟩ := dd'; ⟨q, hq⟩
    exact d_write I (by rw [e]; exact True.intro) hs he (dk_new hl hd (rel.put k rv) dd')
  · subst ey eH
    cases (show u = Value.ref b from ry)
    obtain ⟨z, hd, xs, rel, dd⟩ := dt_of I.hok e
    have hz : xs.length ≤ sizeLine := by rw [← Paired.length rel]; exact z
    have hl : (putK kvs k v).length ≤ sizeLine := by have := length_putK kvs k v; omega
    refine wpAny_setItem_heap (hsz := hz) (tupleKind_room_in1 hu) (key_of I.hok eb) dd fun h' dd' hs => h _ ?_
    obtain ⟨q, es, ep, hq, h2, h3, h4, _, h5⟩ := dd'
    refine d_write I (by rw [e]; exact True.intro) hs ⟨q, hq⟩ ⟨hl, hd, _, (rel.put k eb rv).keeps fun c ys ec => ?_, q, es, ep, hq, h2, h3, h4, h5⟩
    rw [upd_ne (ne_of ec e (fun z => nomatch z))]
    exact ec
end

section
variable {X : Cx} {pins : List (Addr × Obj)} {σ : St} {H : Hp} {s : Shared} {a : Addr} {kvs : List (Key × V)} {k : Key} {u : Value} {A : Around} {E : Value → Shared → Prop}
/-- d.pop(k[, x]), there -/
theorem d_pop {v : V} {more : List Value} {Q : Value → Shared → Prop} (I : Inv X pins σ H s) (e : H a = some (.dK kvs)) (ry : RelV (kV k) u) (l : valV kvs k = some v) (hm : more = [] ∨ ∃ x, more = [x])
    (h : ∀ w' s', Inv X pins σ (upd H a (.dK (dropK kvs k))) s' → RelV v w' → Q w' s') : wpAny (model X.prog X.w) A (call (.builtin "dict.pop") (.ref a :: u :: more)) Q E s := by
  obtain ⟨z, hd, vs, rel, dd⟩ := dk_of I.hok e
  obtain ⟨w', hw, rw'⟩ := RelO.some_of (v := v) (o := valueAt vs k) (by rw [← l]; exact rel.val k)
  have hp : (keyPart u).isSome = true := by
    cases k with
    | inl i => obtain ⟨t, q⟩ := (show ∃ t, u = Value.int i t from ry); subst q; rfl
    | inr x => obtain ⟨t, q⟩ := (show ∃ t, u = Value.str x t from ry); subst q; rfl
  have ha : argsOk "dict.pop" ⟨.ref a :: u :: more, []⟩ := by
    rcases hm with q | ⟨x, q⟩
    · subst q; exact PySem.F.args_dict_pop_2 _ _
    · subst q; exact PySem.F.args_dict_pop_3 _ _ _
  refine call_meetsIn PySem.F.slot_dict_pop dd.typeIs PySem.F.entry_dict_pop ha (meets_dict_pop_there (mixKind X.prog X.w) a (kV_is ry) more hm hp)
    ⟨vs, w', dd, by rw [← rel.length]; exact z, hw, fun h' dd' hs => h w' _ ?_ rw'⟩
  have he : ∃ q, h'.get? a = some q := let ⟨q, _, _, hq, _⟩ := dd'; ⟨q, hq⟩
  exact d_write I (by rw [e]; exact True.intro) hs he (dk_new (Nat.le_trans (dropK_le kvs k) z) hd (rel.drop k) dd')
end


/-! ### readings and rules -/
/-- the element of a subscription, not a slice -/
def NoSl (i : Expr) : Prop := ∀ ov iv, subscripted i false ov iv = operate [ov, iv] (getItem ov iv)
theorem subD_of {prog : Program} {w : World} {A : Around} {E : Value → Shared → Prop} {s : Shared} {env : Env} {value slice : Expr} {pos : Pos} {T id : String} {Q : Value → Shared → Prop}
    (hl : typeLookup (.type T) "__getitem__" = pure (some (.builtin id))) (hs : NoSl slice)
    (h : wpAny (model prog w) A (eval value env) (fun o s₁ => wpAny (model prog w) A (eval slice env) (fun i s₂ => s₂.TypeIs o T ∧ wpAny (model prog w) A (getItem o i) Q E s₂) E s₁) E s) :
    wpAny (model prog w) A (eval (.Subscript value slice pos) env) Q E s := by
  refine Subscript_ (wpAny_mono h (fun o s₁ h₁ => wpAny_mono h₁ (fun i s₂ h₂ => ?_) fun _ _ x => x) fun _ _ x => x)
  obtain ⟨hT, h₂⟩ := h₂
  unfold subscriptTail
  refine wpAny_bind ?_
  rw [getitemInPython_of_ne hT.not_modules]
  refine wpAny_bind (wpAny_specialOf hT hl ?_)
  have fin : wpAny (model prog w) A (subscripted slice false o i) (fun r s₃ => wpAny (model prog w) A (letTemporaryGo value o r >>= fun _ => pure r) Q E s₃) E s₂ := by
    rw [hs o i]
    exact wpAny_operating (wpAny_mono h₂ (fun r s₃ h₃ => wpAny_bind (wpAny_letTemporaryGo (wpAny_pure h₃))) fun _ _ x => x)
  first
    | exact wpAny_pure (wpAny_bind fin)
    | exact wpAny_bind (wpAny_pure (wpAny_bind fin))
    | exact wpAny_bind fin

theorem dict_typeIs {X : Cx} {pins : List (Addr × Obj)} {σ : St} {H : Hp} {s : Shared} {a : Addr} {y : V} {o : Option V} (I : Inv X pins σ H s) (g : DGet H a y o) : s.TypeIs (.ref a) "dict" := by
  rcases g with ⟨kvs, k, e, _, _⟩ | ⟨kvs, k, b, e, _, _, _⟩
  · obtain ⟨_, _, vs, _, dd⟩ := dk_rd I.hok e
    exact dd.typeIs
  · obtain ⟨_, _, xs, _, dd⟩ := dt_rd I.hok e
    exact dd.typeIs

/-- d[y] -/
def tDGet (td ty : TE) : TE := fun σ H Q => td σ H fun x H1 => ty σ H1 fun y H2 => ∃ a v, x = .ref a ∧ DGet H2 a y (some v) ∧ Q v H2
/-- y in d, y not in d -/
def tDIn (ty td : TE) : TE := fun σ H Q => ty σ H fun y H1 => td σ H1 fun x H2 => ∃ a o, x = .ref a ∧ DGet H2 a y o ∧ Q (.bl o.isSome) H2
def tDNotIn (ty td : TE) : TE := fun σ H Q => ty σ H fun y H1 => td σ H1 fun x H2 => ∃ a o, x = .ref a ∧ DGet H2 a y o ∧ Q (.bl (!o.isSome)) H2
/-- d[y] = v -/
def sDPut (td ty tv : TE) : TS := fun D σ H => tv σ H fun v H1 => td σ H1 fun x H2 => ty σ H2 fun y H3 => ∃ a H4, x = .ref a ∧ DPut H3 a y v H4 ∧ D.nx σ H4
/-- d[y] op= v -/
def sDAug (td ty tv : TE) (rd : V → V → Hp → VK → Prop) : TS := fun D σ H => td σ H fun x H1 => ty σ H1 fun y H2 => ∃ a v, x = .ref a ∧ DGet H2 a y (some v) ∧
  tv σ H2 fun y2 H3 => rd v y2 H3 fun z H4 => ∃ H5, DPut H4 a y z H5 ∧ D.nx σ H5
/-- del d[y] -/
def sDDel (td ty : TE) : TS := fun D σ H => td σ H fun x H1 => ty σ H1 fun y H2 => ∃ a kvs k, x = .ref a ∧ H2 a = some (.dK kvs) ∧ y = kV k ∧ (valV kvs k).isSome = true ∧ D.nx σ (upd H2 a (.dK (dropK kvs k)))

section
variable {X : Cx} {o i e value : Expr} {pos pos' tpos : Pos} {td ty tv : TE}
theorem pe_dget (hu : X.A.units + 1 < cLine) (ho : PE X o td) (hi : PE X i ty) (hs : NoSl i) : PE X (.Subscript o i pos) (tDGet td ty) := by
  intro pins s σ H Q I h
  refine subD_of PySem.F.slot_dict_getitem.lookup hs (thn (ho pins s σ H _ I h) fun u s1 ⟨x, H1, I1, rx, q1⟩ => thn (hi pins s1 σ H1 _ I1 q1) fun iv s2 ⟨y, H2, I2, ry, a, v, ex, g, q2⟩ => ?_)
  subst ex
  obtain rfl : u = Value.ref a := rx
  exact ⟨dict_typeIs I2 g, d_getItem hu I2 g ry fun w' s3 I3 rw' => ⟨v, H2, I3, rw', q2⟩⟩
theorem pc_dnotin (hu : X.A.units + 1 < cLine) (hi : PE X i ty) (ho : PE X o td) : PC X .NotIn i o (tDNotIn ty td) := by
  intro pins s σ H Q I h
  refine thn (hi pins s σ H _ I h) fun iv s1 ⟨y, H1, I1, ry, q1⟩ => thn (ho pins s1 σ H1 _ I1 q1) fun u s2 ⟨x, H2, I2, rx, a, ov, ex, g, q2⟩ => ?_
  subst ex
  obtain rfl : u = Value.ref a := rx
  exact d_notIn hu I2 g ry fun s3 I3 => ⟨.bl (!ov.isSome), H2, I3, rfl, q2⟩
theorem ps_dput (hu : X.A.units + 1 < cLine) (ho : PE X o td) (hi : PE X i ty) (hv : PE X value tv) (hs : swapsWith value (some (.Subscript o i pos')) pos.line X.env = pure false) :
    PS X (.Assign [.Subscript o i pos'] value pos) (sDPut td ty tv) := by
  intro pins s σ H D I h
  refine wpAny_Assign_Subscript (thn (hv pins s σ H _ I h) fun r s1 ⟨v, H1, I1, rv, q1⟩ => thn (ho pins s1 σ H1 _ I1 q1) fun u s2 ⟨x, H2, I2, rx, q2⟩ => thn (hi pins s2 σ H2 _ I2 q2) fun iv s3 ⟨y, H3, I3, ry, a, H4, ex, g, q3⟩ => ?_) hs
  subst ex
  obtain rfl : u = Value.ref a := rx
  exact d_setItem hu I3 g ry rv fun s4 I4 => ⟨σ, H4, I4, q3⟩
end


/-! ### displays -/
theorem dk_empty {P : Program} {w : World} {H : Hp} (h : Heap) (hb : sysModules < h.objs.size) : ObjOk P w H (h.push { cls := .type "dict", data := .dict #[] }) h.objs.size (.dK []) :=
  ⟨Nat.zero_le _, beq_eq_false_iff_ne.mpr (Ne.symm (Nat.ne_of_lt hb)), [], .nil, Heap.DictOf.new h⟩
theorem dt_empty {P : Program} {w : World} {H : Hp} (h : Heap) (hb : sysModules < h.objs.size) : ObjOk P w H (h.push { cls := .type "dict", data := .dict #[] }) h.objs.size (.dT []) :=
  ⟨Nat.zero_le _, beq_eq_false_iff_ne.mpr (Ne.symm (Nat.ne_of_lt hb)), [], .nil, _, #[], 0, Heap.get?_push_size _ rfl, ⟨rfl, rfl, rfl⟩, rfl, rfl, List.nodup_nil⟩
/-- {}, to be a dict of the kind that is wanted -/
def tDNewK : TE := fun _ H Q => ∀ p, H p = none → Q (.ref p) (upd H p (.dK []))
def tDNewT : TE := fun _ H Q => ∀ p, H p = none → Q (.ref p) (upd H p (.dT []))
section
variable {X : Cx} {pos : Pos}
theorem pe_dnewK : PE X (.Dict [] [] pos) tDNewK := fun pins s σ H Q I h =>
  wpAny_Dict_empty ⟨.ref s.heap.objs.size, _, I.laid (a := s.heap.objs.size) (o := .dK []) (t' := s.toks) (fun _ _ q => Heap.get?_push_of_some _ q) (Nat.le_refl _) (dk_empty s.heap I.big), rfl, h _ (I.hok.fresh (Nat.le_refl _))⟩
theorem pe_dnewT : PE X (.Dict [] [] pos) tDNewT := fun pins s σ H Q I h =>
  wpAny_Dict_empty ⟨.ref s.heap.objs.size, _, I.laid (a := s.heap.objs.size) (o := .dT []) (t' := s.toks) (fun _ _ q => Heap.get?_push_of_some _ q) (Nat.le_refl _) (dt_empty s.heap I.big), rfl, h _ (I.hok.fresh (Nat.le_refl _))⟩
end

/-- the pairs of a display, from the left -/
def tPairs : List (TE × TE) → St → Hp → (List (V × V) → Hp → Prop) → Prop
  | [], _, H, Q => Q [] H
  | (tk, tv) :: r, σ, H, Q => tk σ H fun x H1 => tv σ H1 fun y H2 => tPairs r σ H2 fun ps H3 => Q ((x, y) :: ps) H3
abbrev VV : List (V × V) → List (Value × Value) → Prop := Paired fun p q => RelV p.1 q.1 ∧ RelV p.2 q.2
def PPs (X : Cx) (pos : Pos) (keys : List (Option Expr)) (values : List Expr) (trs : List (TE × TE)) : Prop :=
  ∀ (pins : List (Addr × Obj)) (s : Shared) (σ : St) (H : Hp) (Q : List (V × V) → Hp → Prop), Inv X pins σ H s → tPairs trs σ H Q →
    wpAny (model X.prog X.w) X.A (evalPairs (pairTrees keys values X.env pos)) (fun vs s' => ∃ ps H', Inv X pins σ H' s' ∧ VV ps vs ∧ Q ps H') X.xe s

def mergeK (kvs more : List (Key × V)) : List (Key × V) := more.foldl (fun acc kv => putK acc kv.1 kv.2) kvs
/-- {k: v, ..} with keys ints and texts; the new dict stands empty while the pairs are made -/
def tDisp (trs : List (TE × TE)) : TE := fun σ H Q => ∀ p, H p = none → tPairs trs σ (upd H p (.dK [])) fun ps H2 => H2 p = some (.dK []) ∧ ∃ kvs : List (Key × V), ps = kvs.map (fun kv => (kV kv.1, kv.2)) ∧ kvs.length ≤ 15 ∧ Q (.ref p) (upd H2 p (.dK (mergeK [] kvs)))


/-! ### methods -/
/-- a method call o.m(e) of a built-in, with one argument: what must be seen of the text -/
structure M1 (X : Cx) (o : Expr) (m : Str) (apos : Pos) (e : Expr) (cpos : Pos) : Prop where
  base : attributeBase o m X.env (eval o X.env) = eval o X.env
  few : ((backTo cpos (starEach [e] X.env)).all (fun x => !x.1) && (backToKw cpos (keywordEach [] X.env)).all (fun x => x.1.isSome)
    && decide (([e] : List Expr).length + ([] : List Keyword).length + (if ([] : List Keyword).isEmpty then 0 else 1) < 30)) = true
  line : (apos.endLine == cpos.line) = true
  trees : backTo cpos (starEach [e] X.env) = [(false, eval e X.env)]
structure M2 (X : Cx) (o : Expr) (m : Str) (apos : Pos) (e f : Expr) (cpos : Pos) : Prop where
  base : attributeBase o m X.env (eval o X.env) = eval o X.env
  few : ((backTo cpos (starEach [e, f] X.env)).all (fun x => !x.1) && (backToKw cpos (keywordEach [] X.env)).all (fun x => x.1.isSome)
    && decide (([e, f] : List Expr).length + ([] : List Keyword).length + (if ([] : List Keyword).isEmpty then 0 else 1) < 30)) = true
  line : (apos.endLine == cpos.line) = true
  trees : backTo cpos (starEach [e, f] X.env) = [(false, eval e X.env), (false, eval f X.env)]

/-- a is a dict, whatever its keys -/
def IsD (H : Hp) (a : Addr) : Prop := (∃ kvs, Rd H a (.dK kvs)) ∨ ∃ kvs, Rd H a (.dT kvs)
theorem isD_at {X : Cx} {pins : List (Addr × Obj)} {σ : St} {H : Hp} {s : Shared} {a : Addr} (I : Inv X pins σ H s) (d : IsD H a) :
    s.TypeIs (.ref a) "dict" ∧ (∀ b, Value.ref a = .ref b → ∃ ob, s.heap.get? b = some ob ∧ ob.dict = none) ∧ (a == sysModules) = false := by
  rcases d with ⟨kvs, e⟩ | ⟨kvs, e⟩
  · obtain ⟨_, hd, vs, _, dd⟩ := dk_rd I.hok e
    refine ⟨dd.typeIs, fun b q => ?_, hd⟩
    cases q
    obtain ⟨ob, _, _, h1, h2, _⟩ := dd
    exact ⟨ob, h1, h2.2.1⟩
  · obtain ⟨_, hd, xs, _, dd⟩ := dt_rd I.hok e
    refine ⟨dd.typeIs, fun b q => ?_, hd⟩
    cases q
    obtain ⟨ob, _, _, h1, h2, _⟩ := dd
    exact ⟨ob, h1, h2.2.1⟩

section
variable {X : Cx} {pins : List (Addr × Obj)} {σ : St} {H : Hp} {s : Shared} {a : Addr} {y d : V} {u r : Value} {o : Option V} {A : Around} {E : Value → Shared → Prop}
end

def tDGet1 (td ty : TE) : TE := fun σ H Q => td σ H fun x H1 => ∃ a, x = .ref a ∧ IsD H1 a ∧ ty σ H1 fun y H2 => ∃ o, DGet H2 a y o ∧ Q (o.getD .non) H2
def tDGet2 (td ty tx : TE) : TE := fun σ H Q => td σ H fun x H1 => ∃ a, x = .ref a ∧ IsD H1 a ∧ ty σ H1 fun y H2 => tx σ H2 fun z H3 => ∃ o, DGet H3 a y o ∧ Q (o.getD z) H3
/-- d.pop(k): there; d.pop(k, x): there or not -/
def tDPop1 (td ty : TE) : TE := fun σ H Q => td σ H fun x H1 => ∃ a, x = .ref a ∧ IsD H1 a ∧ ty σ H1 fun y H2 => ∃ kvs k v, H2 a = some (.dK kvs) ∧ y = kV k ∧ valV kvs k = some v ∧ Q v (upd H2 a (.dK (dropK kvs k)))
def tDPop2 (td ty tx : TE) : TE := fun σ H Q => td σ H fun x H1 => ∃ a, x = .ref a ∧ IsD H1 a ∧ ty σ H1 fun y H2 => tx σ H2 fun z H3 => ∃ kvs k, H3 a = some (.dK kvs) ∧ y = kV k ∧
  (∀ v, valV kvs k = some v → Q v (upd H3 a (.dK (dropK kvs k)))) ∧ (valV kvs k = none → Q z H3)
section
variable {X : Cx} {o e f : Expr} {apos cpos : Pos} {td ty tx : TE}
theorem pe_dpop1 (ho : PE X o td) (he : PE X e ty) (m : M1 X o "pop" apos e cpos) : PE X (.Call (.Attribute o "pop" apos) [e] [] cpos) (tDPop1 td ty) := by
  intro pins s σ H Q I h
  refine wpAny_Call_method m.base m.few m.line PySem.F.plainAttrs_dict PySem.F.slot_dict_pop PySem.F.type_dict_pop (thn (ho pins s σ H _ I h) fun u s1 ⟨x, H1, I1, rx, a, ex, d, q1⟩ => ?_)
  subst ex
  obtain rfl : u = Value.ref a := rx
  obtain ⟨t1, t2, _⟩ := isD_at I1 d
  refine ⟨t1, t2, ?_⟩
  rw [m.trees]
  refine Calls.callWith_builtin rfl (Calls.evalArgs_plain (Calls.spliced_cons (thn (he pins s1 σ H1 _ I1 q1) fun iv s2 ⟨y, H2, I2, ry, kvs, k, v, ea, ey, l, q2⟩ => Calls.spliced_nil ?_)))
  subst ey
  exact d_pop I2 ea ry l (.inl rfl) fun w' s3 I3 rw' => ⟨v, _, I3, rw', q2⟩
end

/-! ### dict(d): a copy -/
section
variable {X : Cx} {pins : List (Addr × Obj)} {σ : St} {H : Hp} {s : Shared} {a : Addr} {kvs : List (Key × V)} {A : Around} {E : Value → Shared → Prop}
end


section
variable {X : Cx} {pins : List (Addr × Obj)} {σ : St} {H : Hp} {s : Shared} {a : Addr} {y : V} {u : Value} {A : Around} {E : Value → Shared → Prop}
end
end L2

set_option Elab.async false
set_option linter.all false
set_option maxRecDepth 100000
set_option maxHeartbeats 4000000
namespace L2
open PySem PySem.Spec PyProof.Rows
/-! ### range with a step of two -/
def It2 (lo : Int) (n : Nat) : It := ⟨fun i _ => i < n, fun i H x H' => H' = H ∧ x = .int (lo + i * 2), fun i _ => n ≤ i⟩
/-- how many turns -/
def cnt2 (i j : Int) : Nat := ((j - i + 1) / 2).toNat
def iRng3 (ta : TA) : TI := fun σ H R => ta σ H fun vs H1 => ∃ i j : Int, vs = [.int i, .int j, .int 2] ∧ 0 ≤ i ∧ i ≤ j ∧ j < 2 ^ 40 ∧ R (It2 i (cnt2 i j)) H1
section
variable {X : Cx} {tg : Expr}
end
/-! ### an item of a list, by its number from nought -/
def rGetN (K : PySem.W.Frag) : V → V → Hp → VK → Prop := fun o i H Q => ∃ p xs j v, o = .ref p ∧ i = .int ((j : Nat) : Int) ∧ SqL K H p xs ∧ xs[j]? = some v ∧ Q v H
theorem rd_dnewT {σ : St} {H : Hp} {Q : VK} (h : ∀ p, H p = none → Q (.ref p) (upd H p (.dT []))) : tDNewT σ H Q := h
theorem rd_dput {td ty tv : TE} {D : Ends} {σ : St} {H : Hp} (h : tv σ H fun v H1 => td σ H1 fun x H2 => ty σ H2 fun y H3 => ∃ a H4, x = .ref a ∧ DPut H3 a y v H4 ∧ D.nx σ H4) : sDPut td ty tv D σ H := h
theorem rd_dnotin {ty td : TE} {σ : St} {H : Hp} {Q : VK} (h : ty σ H fun y H1 => td σ H1 fun x H2 => ∃ a o, x = .ref a ∧ DGet H2 a y o ∧ Q (.bl (!o.isSome)) H2) : tDNotIn ty td σ H Q := h
/-! ### dicts by pairs -/
/-- len(d) of a dict whose keys are tuples -/
def rLenT : List V → Hp → VK → Prop := fun xs H Q => ∃ p kvs, xs = [.ref p] ∧ H p = some (.dT kvs) ∧ Q (.int (kvs.length : Nat)) H
/-! ### a comprehension over enumerate of a list -/
end L2

set_option Elab.async false
set_option linter.all false
set_option maxRecDepth 100000
namespace L2
open PySem PySem.Spec PyProof.Rows
/-! ### comprehensions whose own names are cells (caught by a comprehension within) -/
/-- the context of such a block -/
def Cx.block2 (X : Cx) (scope : Scope) (N : List Str) (s : Shared) (H : Hp) (fp : List Addr) : Cx :=
  { X.block scope N s H fp with
    env := compEnvC scope (cellsFrom (s.heap.objs.size + 1) scope.names (closOf X.env.cells scope.names [])) s.heap.objs.size X.env
    fn := fun x => scope.names.any fun y => y.1 == x && y.2 == .cell }
structure CompOk2 (X : Cx) (scope : Scope) (N : List Str) (cap : List (Option Nat)) : Prop where
  kind : scope.kind = .function
  loc : (scope.names.all fun y => !(y.2 == .local) || (scope.names.lookup y.1 == some .local)) = true
  fre : (scope.names.all fun y => !(y.2 == .free) || isCl (X.env.kindOf y.1)) = true
  len : cap.length = N.length
  cap : ((cap.zip N).all fun p => match p.1 with | none => true | some j => (X.N[j]? == some p.2) && isCl (X.env.kindOf p.2) && isCl ((relabel scope X.env).names.lookup p.2) && !(scope.names.contains (p.2, NameKind.cell))) = true
section
variable {X : Cx} {pins : List (Addr × Obj)} {σ : St} {H : Hp} {s : Shared} {fp : List Addr} {scope : Scope} {N : List Str} {cap : List (Option Nat)}
end
section
variable {X : Cx} {elt tg iter : Expr} {ifs : List Expr} {scope : Scope} {pos : Pos} {N : List Str} {cap : List (Option Nat)} {wi : TI} {g : TG} {tt : TT} {te : TE}
end
end L2

set_option Elab.async false
set_option linter.all false
set_option maxRecDepth 100000
set_option maxHeartbeats 4000000
namespace L2
open PySem PySem.Spec PyProof.Rows PySem.W
/-! ### many new objects at once -/
section
variable {X : Cx} {pins : List (Addr × Obj)} {σ : St} {H H' : Hp} {s : Shared} {h' : Heap}
end
/-! ### d.values(), d.items() -/
def ViewAt (T : String) (v d : Addr) (h : Heap) : Prop := ∃ o, h.get? v = some o ∧ o.cls = .type T ∧ o.data = .fields #[.ref d]
def ViewO (T : String) (v d : Addr) : HO := .ext (ViewAt T v d)
theorem view_ok {P : Program} {w : World} {H : Hp} {h : Heap} {T : String} {d : Addr} : ObjOk P w H (h.push { cls := .type T, data := .fields #[.ref d] }) h.objs.size (ViewO T h.objs.size d) :=
  ⟨⟨_, Heap.get?_push_size _ rfl, rfl, rfl⟩, ⟨_, Heap.get?_push_size _ rfl⟩, fun h1 h2 ⟨o, e, r⟩ k => ⟨o, k o e, r⟩⟩
def rView (T : String) : V → List V → Hp → VK → Prop := fun x xs H Q => ∃ d kvs, x = .ref d ∧ xs = [] ∧ H d = some (.dK kvs) ∧ ∀ v, H v = none → Q (.ref v) (upd H v (ViewO T v d))
section
variable {X : Cx}
theorem mt_values : MtR X "dict.values" (rView "dict_values") := by
  intro pins s σ H x xs v us Q I rx rs h
  obtain ⟨d, kvs, rfl, rfl, hd, q⟩ := h
  cases (show v = Value.ref d from rx)
  cases rs
  obtain ⟨_, lo, vs, _, dd⟩ := dk_of I.hok hd
  exact call_meetsIn PySem.F.slot_dict_values dd.typeIs PySem.F.entry_dict_values (PySem.F.args_dict_values_1 _) (meets_dict_values (mixKind X.prog X.w) d lo)
    ⟨⟨vs, dd⟩, .ref s.heap.objs.size, _, I.laid (a := s.heap.objs.size) (o := ViewO "dict_values" s.heap.objs.size d) (t' := s.toks) (fun b u e => Heap.get?_push_of_some _ e) (Nat.le_refl _) view_ok, rfl, q _ (I.hok.fresh (Nat.le_refl _))⟩
end
theorem kv_vals {κ : Type} : ∀ {kvs : List (κ × V)} {vs : List (κ × Value)}, KV kvs vs → Vals (kvs.map (·.2)) (vs.map (·.2))
  | _, _, .nil => .nil
  | _, _, .cons r t => .cons r.2 (kv_vals t)
theorem kv_get {κ : Type} : ∀ {kvs : List (κ × V)} {vs : List (κ × Value)} {i : Nat} {k : κ} {u : Value}, KV kvs vs → vs[i]? = some (k, u) → ∃ x, kvs[i]? = some (k, x) ∧ RelV x u
  | _, _, _, _, _, .nil, e => by simp at e
  | _, _, 0, k, u, .cons (a := p) r t, e => by
    (simp only [List.getElem?_cons_zero, Option.some.injEq] at e; subst e)
    exact ⟨p.2, congrArg some (Prod.ext r.1 rfl), r.2⟩
  | _, _, i + 1, k, u, .cons r t, e => by
    obtain ⟨x, h1, h2⟩ := kv_get (i := i) t (by simpa using e)
    exact ⟨x, by simpa using h1, h2⟩
/-- list(d.values()) -/
def rListV : List V → Hp → VK → Prop := fun xs H Q => ∃ v d kvs, xs = [.ref v] ∧ H v = some (ViewO "dict_values" v d) ∧ H d = some (.dK kvs) ∧ ∀ l, H l = none → Q (.ref l) (upd H l (.lst (kvs.map (·.2))))
theorem cI_listV {X : Cx} (hc : X.calm = true) : CallR X (.type "list") rListV := by
  intro pins s σ H xs us Q I r h
  obtain ⟨v, d, kvs, rfl, hv, hd, q⟩ := h
  obtain ⟨u, rfl, rx⟩ := vals1 r
  cases rx
  obtain ⟨z, lo, vs, rel, dd⟩ := dk_of I.hok hd
  obtain ⟨ep, at'⟩ := dd.dictAt
  have vw : s.heap.IsValuesView v d := (show ObjOk X.prog X.w H s.heap v (.ext (ViewAt "dict_values" v d)) from I.hok v _ hv).1
  refine kdl_call (kdl_values (knd := mixKind X.prog X.w) (kvs := vs) (ep := ep)) (I.ok.hd hc) ⟨vw, at'⟩ (by rw [← rel.length]; exact z) fun h' tk acc c kp e it => ?_
  have ea : acc.toList = vs.map (·.2) := kdl_vals_eq acc.toList (by rw [Array.length_toList]; exact it.1) fun j w' hw => it.2 j w' (by rw [← Array.getElem?_toList]; exact hw)
  refine ⟨.ref s.heap.objs.size, _, I.laid (a := s.heap.objs.size) (o := .lst (kvs.map (·.2))) (t' := tk) kp (Nat.le_refl _) ⟨by rw [List.length_map]; exact z, vs.map (·.2), c, kv_vals rel, ?_⟩, rfl, q _ (I.hok.fresh (Nat.le_refl _))⟩
  rw [e, ← ea, Array.toArray_toList]
theorem rd_listV {H : Hp} {Q : VK} {v d : Addr} {kvs : List (Key × V)} (hv : H v = some (ViewO "dict_values" v d)) (hd : H d = some (.dK kvs)) (q : ∀ l, H l = none → Q (.ref l) (upd H l (.lst (kvs.map (·.2))))) : rListV [.ref v] H Q := ⟨v, d, kvs, rfl, hv, hd, q⟩
/-- pairs of a key and a value -/
def PwKV (H : Hp) (ys : List V) (kvs : List (Key × V)) : Prop := ys.length = kvs.length ∧ ∀ (i : Nat) y k x, ys[i]? = some y → kvs[i]? = some (k, x) → ∃ b, y = .ref b ∧ H b = some (.tup [kV k, x])
/-- list(d.items()) -/
def rListI : List V → Hp → VK → Prop := fun xs H Q => ∃ v d kvs, xs = [.ref v] ∧ H v = some (ViewO "dict_items" v d) ∧ H d = some (.dK kvs) ∧ ∀ l ys H', Same H H' → H l = none → H' l = some (.lst ys) → PwKV H' ys kvs → Q (.ref l) H'
theorem rd_viewv {H : Hp} {Q : VK} {T : String} {d : Addr} {kvs : List (Key × V)} (hd : H d = some (.dK kvs)) (q : ∀ v, H v = none → Q (.ref v) (upd H v (ViewO T v d))) : rView T (.ref d) [] H Q := ⟨d, kvs, rfl, rfl, hd, q⟩
theorem rd_bmD {K : PySem.W.Frag} {H : Hp} {d : Addr} {kvs : List (Key × V)} {q : Prop} (hd : H d = some (.dK kvs)) (hq : q) : rBM K "dict" (.ref d) H q := ⟨.inr (.inr (.inl ⟨rfl, .inl ⟨kvs, hd⟩⟩)), hq⟩
/-! ### x in a list of data -/
def rInD : R2 := fun x y H Q => ∃ (ds : List PyData) (d : PyData), Rep H (.list ds) y ∧ Rep H d x ∧ PyData.canLayAll0 ds = true ∧ d.canLay0 = true ∧ d.depth ≤ 60 ∧ Q (.bl (ds.any fun y => PyData.eqv y d)) H
theorem op_inD {X : Cx} (hu : X.A.units + 64 < cLine) : OpR X (compareOp .In) rInD := by
  intro pins s σ H x y v u Q I rx ry h
  obtain ⟨ds, d, h1, h2, s1, s2, s3, q⟩ := h
  obtain ⟨as, r1⟩ := h1.reads I ry
  obtain ⟨bs, r2⟩ := h2.reads I rx
  exact SeqAt.in_list_reads r1 r2 s1 s2 (by have := Nat.min_le_right (PyData.depthAll ds) d.depth; omega) ⟨.bl _, H, I, rfl, q⟩
def rNinD : R2 := fun x y H Q => ∃ (ds : List PyData) (d : PyData), Rep H (.list ds) y ∧ Rep H d x ∧ PyData.canLayAll0 ds = true ∧ d.canLay0 = true ∧ d.depth ≤ 60 ∧ Q (.bl (!ds.any fun y => PyData.eqv y d)) H
theorem op_ninD {X : Cx} (hu : X.A.units + 64 < cLine) : OpR X (compareOp .NotIn) rNinD := by
  intro pins s σ H x y v u Q I rx ry h
  obtain ⟨ds, d, h1, h2, s1, s2, s3, q⟩ := h
  obtain ⟨as, r1⟩ := h1.reads I ry
  obtain ⟨bs, r2⟩ := h2.reads I rx
  exact SeqAt.notIn_list_reads r1 r2 s1 s2 (by have := Nat.min_le_right (PyData.depthAll ds) d.depth; omega) ⟨.bl _, H, I, rfl, q⟩
end L2

set_option Elab.async false
set_option linter.all false
set_option maxRecDepth 100000
set_option maxHeartbeats 4000000
namespace L2
open PySem PySem.Spec PyProof.Rows PySem.W
/-! ### the keys of a dict, whatever they are -/
def RawAt (d : Addr) (es : Array DictEntry) (ep : Nat) (h : Heap) : Prop := ∃ o, h.get? d = some o ∧ o.ExactDict ∧ o.data = .dict es ep
section
variable {prog : Program} {w : World} {A : Around} {E : Value → Shared → Prop} {s : Shared} {d it : Addr} {es : Array DictEntry} {ep i n : Nat}
theorem RawAt.ty (r : RawAt d es ep s.heap) : s.TypeIs (.ref d) "dict" := let ⟨o, e, x, _⟩ := r; ⟨o, e, x.1⟩
theorem RawAt.lt {h : Heap} (r : RawAt d es ep h) : d < h.objs.size := let ⟨_, e, _⟩ := r; Heap.lt_size e
theorem RawAt.mv {h h' : Heap} (r : RawAt d es ep h) (k : ∀ o, h.get? d = some o → h'.get? d = some o) : RawAt d es ep h' := let ⟨o, e, x⟩ := r; ⟨o, k o e, x⟩
theorem raw_iter {Q : Value → Shared → Prop} (lo : (d == sysModules) = false) (r : RawAt d es ep s.heap)
    (q : Q (.ref s.heap.objs.size) { s with heap := s.heap.push { cls := .type "dict_keyiterator", data := .fields #[.ref d, .int 0 0, .int es.size 0, .int ep 0] } }) : wpAny (model prog w) A (pyIter (.ref d)) Q E s := by
  obtain ⟨ob, eo, xo, dto⟩ := id r
  refine wpAny_pyIter_slot r.ty F.slot_dict_iter (wpAny_call_entry F.slot_dict_iter r.ty F.entry_dict_iter ?g1 (F.args_dict_iter_1 _))
  case g1 =>
    unfold Builtin.«dict.__iter__» Builtin.Dict.dictSlotNone
    have sh : Builtin.Dict.showsAll d = pure () := by unfold Builtin.Dict.showsAll; rw [lo]; rfl
    refine wpAny_bind (wpAny_bind (wpAny_notOrdered_dict r.ty (show wpAny _ _ (pure (Value.ref d)) _ _ s from wpAny_pure (show wpAny _ _ (Builtin.Dict.showsAll d >>= _) _ _ s from ?g2))))
    case g2 =>
      rw [sh]
      refine wpAny_bind (wpAny_pure (wpAny_bind (wpAny_dictEntries eo dto (wpAny_bind (wpAny_dictEpoch eo dto (wpAny_bind (wpAny_newObj_type (wpAny_pure ⟨_, rfl, "dict_keyiterator", _, ⟨_, Heap.get?_push_size _ rfl, rfl⟩, F.slot_dict_keyiterator_next.lookup, ?g3⟩))))))))
      case g3 => simpa [rawInt] using q
theorem own_no : Builtin.Dict_items.ownsTuple "dict_keyiterator" = false := by decide
theorem raw_item {e : DictEntry} {Q : Option Value → Shared → Prop} (hit : s.heap.IsKeyIter it d i es.size ep) (r : RawAt d es ep s.heap) (hx : es[i]? = some e)
    (q : ∀ h', h'.IsKeyIter it d (i + 1) es.size ep → Heap.SameBut it s.heap h' → Q (some e.key) { s with heap := h' }) : wpAny (model prog w) A (pyNext (.ref it)) Q E s := by
  obtain ⟨oi, ei, ci, di⟩ := id hit
  obtain ⟨ob, eo, xo, dto⟩ := id r
  obtain ⟨hlt, hxe⟩ := Array.getElem?_eq_some_iff.mp hx
  have nn : ¬ ((i : Int) < 0) := Int.not_lt.mpr (Int.natCast_nonneg i)
  have hn : (s.heap.update it (Obj.mapFields (·.setIfInBounds 1 (rawInt ((i : Int) + 1))))).IsKeyIter it d (i + 1) es.size ep :=
    ⟨_, Heap.get?_update_self _ ei (Obj.isFreed_of_fields (Obj.data_mapFields di _)), (Obj.cls_mapFields ..).trans ci, (Obj.data_mapFields di _).trans (by simp [rawInt])⟩
  unfold pyNext
  refine wpAny_bind (wpAny_attempt (wpAny_callSpecial?_slot (name := Str.ofString "__next__") hit.typeIs F.slot_dict_keyiterator_next (wpAny_call_entry F.slot_dict_keyiterator_next hit.typeIs F.entry_dict_keyiterator_next ?g1 (F.args_dict_keyiterator_next_1 _))))
  case g1 =>
    refine wpAny_bind (wpAny_pure (wpAny_bind (wpAny_bind (wpAny_bind (wpAny_typeNameOfWhole_keyiter hit.typeIs (wpAny_pure (wpAny_bind (wpAny_fieldsOf ei di ?g2))))))))
    case g2 =>
      simp only [own_no, Bool.false_eq_true, if_false]
      (show wpAny _ _ (if (Value.ref d == Value.none) = true then _ else _) _ _ s; rw [show (Value.ref d == Value.none) = false from rfl, if_neg Bool.false_ne_true])
      refine wpAny_bind (wpAny_pure (wpAny_bind (wpAny_dictEntries eo dto ?g3)))
      case g3 =>
        rw [if_neg (by simp)]
        refine wpAny_bind (wpAny_pure (wpAny_bind (wpAny_dictEpoch eo dto ?g4)))
        case g4 =>
          rw [if_neg (by simp)]
          refine wpAny_pure ?g5
          case g5 =>
            simp only [nn, if_false, Int.toNat_natCast, hx]
            refine wpAny_bind (wpAny_bind (wpAny_typeNameOfWhole_keyiter hit.typeIs (wpAny_pure (wpAny_bind (wpAny_isOneOf_keyiter hit.typeIs (show wpAny _ _ (setField (.ref it) 1 (rawInt ((i : Int) + 1)) >>= _) _ _ s from wpAny_bind (wpAny_setField ei di (by simp) (wpAny_bind (wpAny_holding (wpAny_bind (wpAny_isOneOf_keyiter hn.typeIs ?g6)))))))))))
            case g6 =>
              show wpAny _ _ (pure e.key) _ _ _
              exact wpAny_pure (wpAny_pure ⟨_, rfl, wpAny_pure (q _ hn (Heap.SameBut.update ..))⟩)
theorem raw_end {Q : Option Value → Shared → Prop} (hh : A.handled = none) (hit : s.heap.IsKeyIter it d es.size es.size ep) (r : RawAt d es ep s.heap)
    (q : ∀ h', Heap.ExtBut it s.heap h' → Q none { s with heap := h' }) : wpAny (model prog w) A (pyNext (.ref it)) Q E s := by
  obtain ⟨oi, ei, ci, di⟩ := id hit
  obtain ⟨ob, eo, xo, dto⟩ := id r
  have nn : ¬ ((es.size : Int) < 0) := Int.not_lt.mpr (Int.natCast_nonneg _)
  have hx : es[es.size]? = none := Array.getElem?_eq_none (Nat.le_refl _)
  unfold pyNext
  refine wpAny_bind (wpAny_attempt (wpAny_callSpecial?_slot (name := Str.ofString "__next__") hit.typeIs F.slot_dict_keyiterator_next (wpAny_call_entry F.slot_dict_keyiterator_next hit.typeIs F.entry_dict_keyiterator_next ?g1 (F.args_dict_keyiterator_next_1 _))))
  case g1 =>
    refine wpAny_bind (wpAny_pure (wpAny_bind (wpAny_bind (wpAny_bind (wpAny_typeNameOfWhole_keyiter hit.typeIs (wpAny_pure (wpAny_bind (wpAny_fieldsOf ei di ?g2))))))))
    case g2 =>
      simp only [own_no, Bool.false_eq_true, if_false]
      (show wpAny _ _ (if (Value.ref d == Value.none) = true then _ else _) _ _ s; rw [show (Value.ref d == Value.none) = false from rfl, if_neg Bool.false_ne_true])
      refine wpAny_bind (wpAny_pure (wpAny_bind (wpAny_dictEntries eo dto ?g3)))
      case g3 =>
        rw [if_neg (by simp)]
        refine wpAny_bind (wpAny_pure (wpAny_bind (wpAny_dictEpoch eo dto ?g4)))
        case g4 =>
          rw [if_neg (by simp)]
          refine wpAny_pure ?g5
          case g5 =>
            simp only [nn, if_false, Int.toNat_natCast, hx]
            refine wpAny_bind (wpAny_bind (wpAny_typeNameOfWhole_keyiter hit.typeIs (wpAny_pure (show wpAny _ _ (setField (.ref it) 0 .none >>= _) _ _ s from wpAny_bind (wpAny_setField ei di (by simp) (show wpAny _ _ (newExc (.type "StopIteration") [] >>= _) _ _ _ from wpAny_bind ?g6))))))
            case g6 =>
              simp only [newExc, newTuple]
              refine wpAny_bind (wpAny_newObj_type (wpAny_bind (m := firstArgMember _ _) (wpAny_of_eq (a := Value.none) (by first | rfl | (simp only [firstArgMember]; rfl)) (wpAny_newObj_type ?g7 (by size_fits)))) (by size_fits))
              case g7 =>
                simp only [raiseNew]
                refine wpAny_bind (wpAny_handled ?g8)
                case g8 =>
                  (rw [show A.in1.handled = none from hh]; refine wpAny_bind (wpAny_pure (wpAny_throw ?g9)))
                  case g9 => exact wpAny_bind (wpAny_isInstance (T := "StopIteration") (b := true) ⟨_, Heap.get?_push_size _ rfl, rfl⟩ isSubtype_stop (wpAny_pure (q _ (((Heap.SameBut.update ..).extBut.push _).push _))))
theorem raw_src (lo : (d == sysModules) = false) : KdlSrc prog w "dict" d d es.size (fun i v => ∃ e, es[i]? = some e ∧ v = e.key) (RawAt d es ep) where
  type := fun _ r => r.ty
  there := fun _ r => ⟨r.lt, r.lt⟩
  keep := fun _ _ r k => r.mv fun o e => k d (.inl rfl) o e
  notList := by decide
  notTuple := by decide
  hint := fun _ _ _ _ r q => kdl_hint_dict r.ty q
  iter := fun A s hh r => by
    have ne : d ≠ s.heap.objs.size := Nat.ne_of_lt r.lt
    refine ⟨_, fun i h => h.IsKeyIter s.heap.objs.size d i es.size ep ∧ RawAt d es ep h, fun E Q q => raw_iter lo r q, ⟨fun b hb => by simp at hb; simp [hb], fun i h h' st k => ⟨st.1.at fun o e => k _ (by simp) o e, st.2.mv fun o e => k d (by simp) o e⟩, fun i s1 Q E hi st q => ?_, fun s1 Q E st q => ?_, fun i s1 Q E st q => wpAny_pyIter_keyiter st.1 q⟩, ⟨_, Heap.get?_push_size _ rfl, rfl, rfl⟩, r.mv fun o e => Heap.get?_push_of_some _ e⟩
    · have hx : es[i]? = some es[i] := Array.getElem?_eq_getElem hi
      exact raw_item st.1 st.2 hx fun h' hit' sb => q _ h' s1.toks ⟨_, hx, rfl⟩ ⟨hit', st.2.mv fun o e => sb.extBut d o ne e⟩ fun b o hb e => sb.extBut b o (fun z => hb (by simp [z])) e
    · exact raw_end hh st.1 st.2 fun h' eb => q h' s1.toks fun b o hb e => eb b o (fun z => hb (by simp [z])) e
end
/-- list(d): the keys, tuples -/
def PwK (H : Hp) (ys : List V) (ks : List (List Key)) : Prop := ys.length = ks.length ∧ ∀ (i : Nat) y k, ys[i]? = some y → ks[i]? = some k → ∃ b, y = .ref b ∧ H b = some (.tup (k.map kV))
def rListD : List V → Hp → VK → Prop := fun xs H Q => ∃ d kvs, xs = [.ref d] ∧ H d = some (.dT kvs) ∧ ∀ l ys, H l = none → PwK H ys (kvs.map (·.1)) → Q (.ref l) (upd H l (.lst ys))
theorem cI_listD {X : Cx} (hc : X.calm = true) : CallR X (.type "list") rListD := by
  intro pins s σ H xs us Q I r h
  obtain ⟨d, kvs, rfl, hd, q⟩ := h
  obtain ⟨u, rfl, rx⟩ := vals1 r
  cases rx
  obtain ⟨z, lo, zs, rel, o, es, ep, eo, xo, dto, he, nd⟩ := I.hok d _ hd
  have sz : es.size = kvs.length := by rw [← Array.length_toList, he, List.length_map, ← Paired.length rel]
  refine kdl_call (raw_src (es := es) (ep := ep) lo) (I.ok.hd hc) ⟨o, eo, xo, dto⟩ (by rw [sz]; exact z) fun h' tk acc c kp e it => ?_
  have key : ∀ (i : Nat) (v : Value), acc.toList[i]? = some v → ∃ x, zs[i]? = some x ∧ v = .ref x.2.1 := fun i v hv => by
    obtain ⟨en, h1, h2⟩ := it.2 i v (by rw [← Array.getElem?_toList]; exact hv)
    rw [← Array.getElem?_toList, he, List.getElem?_map] at h1
    obtain ⟨x, h3, rfl⟩ := Option.map_eq_some_iff.mp h1
    exact ⟨x, h3, h2⟩
  have la : acc.toList.length = zs.length := by rw [Array.length_toList, it.1, ← Array.length_toList, he, List.length_map]
  have ea : acc.toList = (zs.map fun x => Value.ref x.2.1) := List.ext_getElem? fun i => by
    cases hv : acc.toList[i]? with
    | none =>
      rw [List.getElem?_eq_none_iff] at hv
      rw [List.getElem?_eq_none (by rw [List.length_map]; omega)]
    | some v =>
      obtain ⟨x, h1, h2⟩ := key i v hv
      rw [List.getElem?_map, h1, h2]; rfl
  have rr : ∀ l : List (List Key × Addr × Value), Vals (l.map fun x => V.ref x.2.1) (l.map fun x => Value.ref x.2.1) := fun l => by
    induction l with
    | nil => exact .nil
    | cons a l ih => exact .cons rfl ih
  have pw : PwK H (zs.map fun x => V.ref x.2.1) (kvs.map (·.1)) := by
    refine ⟨by rw [List.length_map, List.length_map, Paired.length rel], fun i y k hy hk => ?_⟩
    rw [List.getElem?_map] at hy hk
    obtain ⟨x, h1, rfl⟩ := Option.map_eq_some_iff.mp hy
    obtain ⟨p, h2, rfl⟩ := Option.map_eq_some_iff.mp hk
    have g : ∀ {kvs : List (List Key × V)} {zs : List (List Key × Addr × Value)} {i : Nat} {p : List Key × V} {x : List Key × Addr × Value}, Paired (fun (p : List Key × V) (q : List Key × Addr × Value) => p.1 = q.1 ∧ H q.2.1 = some (.tup (p.1.map kV)) ∧ RelV p.2 q.2.2) kvs zs → kvs[i]? = some p → zs[i]? = some x → H x.2.1 = some (.tup (p.1.map kV)) := by
      intro kvs zs i p x rel
      induction rel generalizing i with
      | nil => intro h; simp at h
      | cons r t ih =>
        intro h1 h2
        cases i with
        | zero =>
          simp only [List.getElem?_cons_zero, Option.some.injEq] at h1 h2
          subst h1 h2
          exact r.2.1
        | succ i => exact ih (by simpa using h1) (by simpa using h2)
    exact ⟨x.2.1, rfl, g rel h2 h1⟩
  refine ⟨.ref s.heap.objs.size, _, I.laid (a := s.heap.objs.size) (o := .lst (zs.map fun x => V.ref x.2.1)) (t' := tk) kp (Nat.le_refl _) ⟨by rw [List.length_map, ← Paired.length rel]; exact z, _, c, rr zs, ?_⟩, rfl, q _ _ (I.hok.fresh (Nat.le_refl _)) pw⟩
  rw [e, ← ea, Array.toArray_toList]
theorem rd_listD {H : Hp} {Q : VK} {d : Addr} {kvs : List (List Key × V)} (hd : H d = some (.dT kvs)) (q : ∀ l ys, H l = none → PwK H ys (kvs.map (·.1)) → Q (.ref l) (upd H l (.lst ys))) : rListD [.ref d] H Q := ⟨d, kvs, rfl, hd, q⟩
end L2

set_option Elab.async false
set_option linter.all false
set_option maxRecDepth 100000
set_option maxHeartbeats 4000000
namespace L2
open PySem PySem.Spec PyProof.Rows PySem.W
/-- {k: v}, k a tuple -/
def tDisp1 (tk tv : TE) : TE := fun σ H Q => ∀ p, H p = none → tk σ (upd H p (.dT [])) fun x H1 => tv σ H1 fun y H2 => ∃ b ks z, [(x, y)] = [(V.ref b, z)] ∧ H2 b = some (.tup (ks.map kV)) ∧ H2 p = some (.dT []) ∧ Q (.ref p) (upd H2 p (.dT [(ks, z)]))
end L2

set_option linter.all false
set_option Elab.async false
set_option maxHeartbeats 4000000
namespace Fm
abbrev Strip := List L2.Key
/-- two strips and a weight -/
abbrev Tie := Strip × Strip × Int
inductive Con (F : List Tie) : Strip → Strip → Prop
  | refl (a : Strip) : Con F a a
  | fwd {a b c : Strip} {w : Int} : Con F a b → (b, c, w) ∈ F → Con F a c
  | bwd {a b c : Strip} {w : Int} : Con F a b → (c, b, w) ∈ F → Con F a c
section
variable {F : List Tie} {v : Strip → Int} {G : Strip → Strip × Int} {D : List Strip}
theorem Con.trans {a b c : Strip} (h : Con F a b) (k : Con F b c) : Con F a c := by
  induction k with
  | refl => exact h
  | fwd _ e ih => exact .fwd ih e
  | bwd _ e ih => exact .bwd ih e
theorem Con.one {a b : Strip} {w : Int} (e : (a, b, w) ∈ F) : Con F a b := .fwd (.refl a) e
theorem Con.symm {a b : Strip} (h : Con F a b) : Con F b a := by
  induction h with
  | refl => exact .refl _
  | fwd _ e ih => exact (Con.bwd (.refl _) e).trans ih
  | bwd _ e ih => exact (Con.one e).trans ih
theorem Con.mono {F' : List Tie} (s : ∀ e ∈ F, e ∈ F') {a b : Strip} (h : Con F a b) : Con F' a b := by
  induction h with
  | refl => exact .refl _
  | fwd _ e ih => exact .fwd ih (s _ e)
  | bwd _ e ih => exact .bwd ih (s _ e)
theorem con_nil {a b : Strip} : Con [] a b ↔ a = b := by
  constructor
  · intro h
    induction h with
    | refl => rfl
    | fwd _ e _ => cases e
    | bwd _ e _ => cases e
  · rintro rfl; exact .refl _
theorem con_snoc {e : Tie} {a b : Strip} : Con (F ++ [e]) a b ↔ Con F a b ∨ (Con F a e.1 ∧ Con F e.2.1 b) ∨ (Con F a e.2.1 ∧ Con F e.1 b) := by
  have up : ∀ {a b}, Con F a b → Con (F ++ [e]) a b := fun h => h.mono fun x hx => List.mem_append_left _ hx
  have me : (e.1, e.2.1, e.2.2) ∈ F ++ [e] := List.mem_append_right _ List.mem_cons_self
  constructor
  · intro h
    induction h with
    | refl => exact .inl (.refl _)
    | @fwd b c w _ hm ih =>
      rcases List.mem_append.mp hm with hm | hm
      · rcases ih with h | ⟨h1, h2⟩ | ⟨h1, h2⟩
        · exact .inl (.fwd h hm)
        · exact .inr (.inl ⟨h1, .fwd h2 hm⟩)
        · exact .inr (.inr ⟨h1, .fwd h2 hm⟩)
      · cases List.mem_singleton.mp hm
        rcases ih with h | ⟨h1, h2⟩ | ⟨h1, h2⟩
        · exact .inr (.inl ⟨h, .refl _⟩)
        · exact .inr (.inl ⟨h1, .refl _⟩)
        · exact .inl h1
    | @bwd b c w _ hm ih =>
      rcases List.mem_append.mp hm with hm | hm
      · rcases ih with h | ⟨h1, h2⟩ | ⟨h1, h2⟩
        · exact .inl (.bwd h hm)
        · exact .inr (.inl ⟨h1, .bwd h2 hm⟩)
        · exact .inr (.inr ⟨h1, .bwd h2 hm⟩)
      · cases List.mem_singleton.mp hm
        rcases ih with h | ⟨h1, h2⟩ | ⟨h1, h2⟩
        · exact .inr (.inr ⟨h, .refl _⟩)
        · exact .inl h1
        · exact .inr (.inr ⟨h1, .refl _⟩)
  · rintro (h | ⟨h1, h2⟩ | ⟨h1, h2⟩)
    · exact up h
    · exact ((up h1).trans (.one me)).trans (up h2)
    · exact ((up h1).trans (Con.one me).symm).trans (up h2)
/-- the weights are sums of values -/
def Sat (v : Strip → Int) (F : List Tie) : Prop := ∀ e ∈ F, e.2.2 = (v e.1 + v e.2.1) % 2
/-- the groups of the strips of D that the ties of F make -/
structure GrOk (D : List Strip) (F : List Tie) (v : Strip → Int) (G : Strip → Strip × Int) : Prop where
  lead : ∀ s ∈ D, ∀ t ∈ D, ((G s).1 = (G t).1 ↔ Con F s t)
  wt : ∀ s ∈ D, ∀ t ∈ D, Con F s t → ((G s).2 + (G t).2) % 2 = (v s + v t) % 2
def lone : Strip → Strip × Int := fun s => (s, 0)
theorem GrOk.lone : GrOk D [] v Fm.lone := ⟨fun s _ t _ => con_nil.symm, fun s _ t _ h => by rw [con_nil.mp h]; show (0 + 0 : Int) % 2 = _; omega⟩
def tieG (G : Strip → Strip × Int) (e : Tie) : Strip → Strip × Int := fun s =>
  if (G e.1).1 = (G e.2.1).1 then G s else if (G s).1 = (G e.2.1).1 then ((G e.1).1, ((G s).2 + ((G e.1).2 + (G e.2.1).2 + e.2.2) % 2) % 2) else G s
theorem GrOk.tie (h : GrOk D F v G) {e : Tie} (h1 : e.1 ∈ D) (h2 : e.2.1 ∈ D) (hw : e.2.2 = (v e.1 + v e.2.1) % 2) : GrOk D (F ++ [e]) v (tieG G e) := by
  by_cases c : (G e.1).1 = (G e.2.1).1
  · have cc := (h.lead _ h1 _ h2).mp c
    have eq : ∀ {a b}, Con (F ++ [e]) a b ↔ Con F a b := fun {a b} => by
      rw [con_snoc]
      constructor
      · rintro (h | ⟨h1, h2⟩ | ⟨h1, h2⟩)
        · exact h
        · exact (h1.trans cc).trans h2
        · exact (h1.trans cc.symm).trans h2
      · exact .inl
    have tg : tieG G e = G := funext fun s => if_pos c
    rw [tg]
    exact ⟨fun s hs t ht => (h.lead s hs t ht).trans eq.symm, fun s hs t ht hc => h.wt s hs t ht (eq.mp hc)⟩
  · have nc : ¬ Con F e.1 e.2.1 := fun z => c ((h.lead _ h1 _ h2).mpr z)
    have tg : ∀ s, tieG G e s = if (G s).1 = (G e.2.1).1 then ((G e.1).1, ((G s).2 + ((G e.1).2 + (G e.2.1).2 + e.2.2) % 2) % 2) else G s := fun s => if_neg c
    have cl : ∀ s ∈ D, ((G s).1 = (G e.2.1).1 ↔ Con F s e.2.1) := fun s hs => h.lead s hs _ h2
    refine ⟨fun s hs t ht => ?_, fun s hs t ht hc => ?_⟩
    · rw [tg, tg, con_snoc]
      by_cases a : (G s).1 = (G e.2.1).1
      · have a' := (cl s hs).mp a
        rw [if_pos a]
        by_cases b : (G t).1 = (G e.2.1).1
        · have b' := (cl t ht).mp b
          rw [if_pos b]
          exact ⟨fun _ => .inl (a'.trans b'.symm), fun _ => rfl⟩
        · rw [if_neg b]
          have b' : ¬ Con F t e.2.1 := fun z => b ((cl t ht).mpr z)
          have l1 := h.lead _ h1 t ht
          constructor
          · intro z; exact .inr (.inr ⟨a', l1.mp z⟩)
          · rintro (z | ⟨z1, z2⟩ | ⟨z1, z2⟩)
            · exact absurd (z.symm.trans a') b'
            · exact absurd (z2.symm) b'
            · exact l1.mpr z2
      · have a' : ¬ Con F s e.2.1 := fun z => a ((cl s hs).mpr z)
        rw [if_neg a]
        by_cases b : (G t).1 = (G e.2.1).1
        · have b' := (cl t ht).mp b
          rw [if_pos b]
          have l1 := h.lead s hs _ h1
          constructor
          · intro z; exact .inr (.inl ⟨l1.mp z, b'.symm⟩)
          · rintro (z | ⟨z1, z2⟩ | ⟨z1, z2⟩)
            · exact absurd (z.trans b') a'
            · exact l1.mpr z1
            · exact absurd z1 a'
        · rw [if_neg b]
          have b' : ¬ Con F t e.2.1 := fun z => b ((cl t ht).mpr z)
          have l1 := h.lead s hs t ht
          constructor
          · intro z; exact .inl (l1.mp z)
          · rintro (z | ⟨z1, z2⟩ | ⟨z1, z2⟩)
            · exact l1.mpr z
            · exact absurd z2.symm b'
            · exact absurd z1 a'
    · rw [tg, tg]
      have w1 := fun s hs (z : Con F s e.1) => h.wt s hs _ h1 z
      have w2 := fun s hs (z : Con F s e.2.1) => h.wt s hs _ h2 z
      have key : ∀ s ∈ D, ∀ t ∈ D, Con F s e.2.1 → Con F t e.1 → (((G s).2 + ((G e.1).2 + (G e.2.1).2 + e.2.2) % 2) % 2 + (G t).2) % 2 = (v s + v t) % 2 := fun s hs t ht z1 z2 => by
        have := w2 s hs z1
        have := w1 t ht z2
        omega
      rcases con_snoc.mp hc with z | ⟨z1, z2⟩ | ⟨z1, z2⟩
      · have w0 := h.wt s hs t ht z
        by_cases a : (G s).1 = (G e.2.1).1
        · have b : (G t).1 = (G e.2.1).1 := (cl t ht).mpr (z.symm.trans ((cl s hs).mp a))
          rw [if_pos a, if_pos b]
          dsimp only
          omega
        · have b : ¬ (G t).1 = (G e.2.1).1 := fun b => a ((cl s hs).mpr (z.trans ((cl t ht).mp b)))
          rw [if_neg a, if_neg b]; exact w0
      · have a : ¬ (G s).1 = (G e.2.1).1 := fun a => nc (z1.symm.trans ((cl s hs).mp a))
        have b : (G t).1 = (G e.2.1).1 := (cl t ht).mpr z2.symm
        rw [if_neg a, if_pos b]
        have := key t ht s hs z2.symm z1
        dsimp only
        rw [Int.add_comm, Int.add_comm (v s)]; exact this
      · have a : (G s).1 = (G e.2.1).1 := (cl s hs).mpr z1
        have b : ¬ (G t).1 = (G e.2.1).1 := fun b => nc (z2.trans ((cl t ht).mp b))
        rw [if_pos a, if_neg b]
        exact key s hs t ht z1 z2.symm
/-- ties one behind the other -/
def tiesG (F : List Tie) (G : Strip → Strip × Int) : Strip → Strip × Int := F.foldl tieG G
theorem GrOk.ties : ∀ {F' F : List Tie} {G : Strip → Strip × Int}, GrOk D F v G → (∀ e ∈ F', e.1 ∈ D ∧ e.2.1 ∈ D) → Sat v F' → GrOk D (F ++ F') v (tiesG F' G)
  | [], F, G, h, _, _ => by rw [List.append_nil]; exact h
  | e :: F', F, G, h, hd, hs => by
    have := GrOk.ties (F' := F') (F := F ++ [e]) (h.tie (hd e List.mem_cons_self).1 (hd e List.mem_cons_self).2 (hs e List.mem_cons_self)) (fun x hx => hd x (List.mem_cons_of_mem _ hx)) fun x hx => hs x (List.mem_cons_of_mem _ hx)
    rw [List.append_assoc] at this
    exact this
theorem GrOk.of (hd : ∀ e ∈ F, e.1 ∈ D ∧ e.2.1 ∈ D) (hs : Sat v F) : GrOk D F v (tiesG F Fm.lone) := by
  have := (GrOk.lone (D := D) (v := v)).ties hd hs
  rwa [List.nil_append] at this
/-- what is met from a strip on, and the sums of the weights -/
structure Met (F : List Tie) (v : Strip → Int) (a : Strip) (kvs : List (Strip × Int)) : Prop where
  start : a ∈ kvs.map (·.1)
  con : ∀ k ∈ kvs, Con F a k.1 ∧ k.2 = (v a + v k.1) % 2
end
end Fm

set_option Elab.async false
set_option linter.all false
set_option maxRecDepth 100000
set_option maxHeartbeats 4000000
namespace L2
open PySem PySem.Spec PyProof.Rows PySem.W
/-! ### readings of dicts -/
def rDGet (x y : V) (H : Hp) (Q : VK) : Prop := ∃ a v, x = .ref a ∧ DGet H a y (some v) ∧ Q v H
theorem rd_dget {td ty : TE} {σ : St} {H : Hp} {Q : VK} (h : td σ H fun x H1 => ty σ H1 fun y H2 => rDGet x y H2 Q) : tDGet td ty σ H Q := h
theorem rd_dgetT {H : Hp} {Q : VK} {a b : Addr} {kvs : List (List Key × V)} {k : List Key} {v : V} (hd : H a = some (.dT kvs)) (hb : H b = some (.tup (k.map kV))) (e : valV kvs k = some v) (q : Q v H) : rDGet (.ref a) (.ref b) H Q :=
  ⟨a, v, rfl, e ▸ DGet.t hd hb, q⟩
theorem rd_dnewK {σ : St} {H : Hp} {Q : VK} (h : ∀ p, H p = none → Q (.ref p) (upd H p (.dK []))) : tDNewK σ H Q := h
def rIsD (x : V) (H : Hp) (q : Addr → Prop) : Prop := ∃ a, x = .ref a ∧ IsD H a ∧ q a
theorem rd_isDK {H : Hp} {a : Addr} {kvs : List (Key × V)} {q : Addr → Prop} (h : H a = some (.dK kvs)) (k : q a) : rIsD (.ref a) H q := ⟨a, rfl, .inl ⟨kvs, .inl h⟩, k⟩
theorem rd_dpop1 {td ty : TE} {σ : St} {H : Hp} {Q : VK} (h : td σ H fun x H1 => rIsD x H1 fun a => ty σ H1 fun y H2 => ∃ kvs k v, H2 a = some (.dK kvs) ∧ y = kV k ∧ valV kvs k = some v ∧ Q v (upd H2 a (.dK (dropK kvs k)))) : tDPop1 td ty σ H Q := h
theorem rd_par {i j : Nat} {ta : TA} {D : Ends} {σ : St} {H : Hp} (h : ta σ H fun vs H1 => ∃ v w, vs = [v, w] ∧ D.nx ((σ.set i (some v)).set j (some w)) H1) : tPar i j ta D σ H := h
/-! ### keys compared -/
def keyD : Key → PyData
  | .inl i => .int i
  | .inr x => .str x
theorem keyD_eqv (a b : Key) : PyData.eqv (keyD a) (keyD b) = decide (a = b) := by
  cases a <;> cases b <;> simp only [keyD, PyData.eqv]
  · rw [key_ll]
  · rw [key_lr]
  · rw [key_rl]
  · rw [key_rr]; exact (Bool.beq_eq_decide_eq _ _)
theorem keyDs_eqv : ∀ a b : List Key, PyData.eqvAll (a.map keyD) (b.map keyD) = decide (a = b)
  | [], [] => rfl
  | [], _ :: _ => rfl
  | _ :: _, [] => rfl
  | x :: a, y :: b => by
    rw [List.map_cons, List.map_cons, PyData.eqvAll, keyD_eqv, keyDs_eqv a b]
    by_cases h1 : x = y <;> by_cases h2 : a = b <;> simp [h1, h2]
def KOk (a : List Key) : Prop := PyData.canLayAll0 (a.map keyD) = true
theorem keyD_dep (a : Key) : (keyD a).depth = 0 := by cases a <;> rfl
theorem keyDs_dep : ∀ a : List Key, PyData.depthAll (a.map keyD) ≤ 1
  | [] => Nat.zero_le _
  | x :: a => by
    have h1 := keyD_dep x
    have h2 := keyDs_dep a
    rw [List.map_cons, PyData.depthAll]; omega
theorem keyDs_shp {a : List Key} (h : KOk a) : SeqAt.shaped (.tuple (a.map keyD)) = true := by
  have := keyDs_dep a
  unfold SeqAt.shaped
  rw [Bool.and_eq_true]
  refine ⟨h, decide_eq_true ?_⟩
  rw [PyData.depth]; omega
theorem keyDs_repL {H : Hp} : ∀ a : List Key, RepL H (a.map keyD) (a.map kV)
  | [] => by simp only [List.map_nil, RepL]
  | x :: a => by
    simp only [List.map_cons, RepL]
    refine ⟨_, _, rfl, ?_, keyDs_repL a⟩
    cases x <;> simp only [keyD, kV, Rep]
theorem keyDs_rep {H : Hp} {p : Addr} {a : List Key} (h : H p = some (.tup (a.map kV))) : Rep H (.tuple (a.map keyD)) (.ref p) := by
  simp only [Rep]
  exact ⟨p, _, rfl, h, keyDs_repL a⟩
theorem rd_eqK {H : Hp} {Q : VK} {p q : Addr} {a b : List Key} (ka : KOk a) (kb : KOk b) (hp : H p = some (.tup (a.map kV))) (hq : H q = some (.tup (b.map kV))) (k : Q (.bl (decide (a = b))) H) : rEqD false (.ref p) (.ref q) H Q :=
  ⟨_, _, keyDs_rep hp, keyDs_rep hq, keyDs_shp ka, keyDs_shp kb, by rw [if_neg (by decide), PyData.eqv, keyDs_eqv]; exact k⟩
/-- a strip -/
def sx (i : Int) : List Key := [.inr "x", .inl i]
def sy (i : Int) : List Key := [.inr "y", .inl i]
def IsStrip (a : List Key) : Prop := ∃ i, a = sx i ∨ a = sy i
theorem IsStrip.ok {a : List Key} (h : IsStrip a) : KOk a := by
  obtain ⟨i, rfl | rfl⟩ := h
  · show PyData.canLayAll0 [.str "x", .int i] = true
    simp only [PyData.canLayAll0, PyData.canLay0]; decide +kernel
  · show PyData.canLayAll0 [.str "y", .int i] = true
    simp only [PyData.canLayAll0, PyData.canLay0]; decide +kernel
theorem sx_inj {i j : Int} (h : sx i = sx j) : i = j := by unfold sx at h; injection h with _ h; injection h with h; injection h
theorem sy_inj {i j : Int} (h : sy i = sy j) : i = j := by unfold sy at h; injection h with _ h; injection h with h; injection h
theorem sxy_ne {i j : Int} : sx i ≠ sy j := by
  intro h
  unfold sx sy at h
  injection h with h; injection h with h
  exact absurd h (by decide +kernel)
/-! ### keys of a changed table -/
theorem putK_keys {κ : Type} [DecidableEq κ] {kvs : List (κ × V)} {k : κ} {v : V} (h : k ∈ kvs.map (·.1)) : (putK kvs k v).map (·.1) = kvs.map (·.1) := by
  unfold putK
  have : (kvs.any fun kv => decide (kv.1 = k)) = true := by
    obtain ⟨p, hp, e⟩ := List.mem_map.mp h
    exact List.any_eq_true.mpr ⟨p, hp, decide_eq_true e⟩
  rw [if_pos this, List.map_map]
  apply List.map_congr_left
  intro p _
  by_cases e : p.1 = k <;> simp [e]
theorem valV_mem {κ : Type} [DecidableEq κ] {kvs : List (κ × V)} {k : κ} : (valV kvs k).isSome = true ↔ k ∈ kvs.map (·.1) := by
  rw [← valV_any, List.any_eq_true]
  constructor
  · rintro ⟨p, hp, e⟩; exact List.mem_map.mpr ⟨p, hp, of_decide_eq_true e⟩
  · intro h
    obtain ⟨p, hp, e⟩ := List.mem_map.mp h
    exact ⟨p, hp, decide_eq_true e⟩
theorem valV_none {κ : Type} [DecidableEq κ] {kvs : List (κ × V)} {k : κ} (h : k ∉ kvs.map (·.1)) : valV kvs k = none := by
  cases e : valV kvs k with
  | none => rfl
  | some v => exact absurd (valV_mem.mp (by rw [e]; rfl)) h
/-- all but some addresses stay -/
def ButL (S : List Addr) (H H' : Hp) : Prop := ∀ b o, H b = some o → b ∉ S → H' b = some o
theorem ButL.refl (S : List Addr) (H : Hp) : ButL S H H := fun _ _ e _ => e
theorem Same.butL {H H' : Hp} (s : Same H H') (S : List Addr) : ButL S H H' := fun b o e _ => s b o e
theorem ButL.trans {S : List Addr} {H H1 H2 : Hp} (a : ButL S H H1) (b : ButL S H1 H2) : ButL S H H2 := fun c o e n => b c o (a c o e n) n
theorem ButL.upd {S : List Addr} {H H1 : Hp} {p : Addr} {o : HO} (a : ButL S H H1) (h : p ∈ S) : ButL S H (L2.upd H1 p o) := fun c o' e n => by
  rw [upd_ne (fun z => n (by rw [z]; exact h))]; exact a c o' e n
theorem ButL.new {S : List Addr} {H H1 : Hp} {p : Addr} {o : HO} (a : ButL S H H1) (h : H1 p = none) : ButL S H (L2.upd H1 p o) := fun c o' e n => Same.new h c o' (a c o' e n)
end L2

set_option Elab.async false
set_option linter.all false
set_option maxRecDepth 100000
set_option maxHeartbeats 4000000
namespace L2
open PySem PySem.Spec PyProof.Rows
/-! ### try with two clauses -/
def ETof2 (K : PySem.W.Frag) (S1 S2 : Addr) (i : Nat) (ts1 ts2 : TS) (D : Ends) : St → XK := fun σ cls _ H1 => ∃ C, cls = .ref C ∧ ((PySem.W.exmOne K (.ref C) (.ref S1) = some true ∧ ∀ e, H1 e = none → ts1 (Dh i D) (σ.set i (some (.ref e))) (upd H1 e (ExcO e C))) ∨
  (PySem.W.exmOne K (.ref C) (.ref S1) = some false ∧ PySem.W.exmOne K (.ref C) (.ref S2) = some true ∧ ∀ e, H1 e = none → ts2 (Dh i D) (σ.set i (some (.ref e))) (upd H1 e (ExcO e C))))
def tTry2 (K : PySem.W.Frag) (S1 S2 : Addr) (i : Nat) (tb : (St → XK) → TS) (ts1 ts2 : TS) : TS := fun D σ H => tb (ETof2 K S1 S2 i ts1 ts2 D) D σ H
end L2

set_option Elab.async false
set_option linter.all false
set_option maxRecDepth 100000
set_option maxHeartbeats 4000000
namespace L2
open PySem PySem.Spec PyProof.Rows PySem.W
/-! ### a dict by ints and texts while it is walked -/
def FzAt (P : Program) (w : World) (d : Addr) (kvs : List (Key × V)) (vs : List (Key × Value)) (ep : Nat) (h : Heap) : Prop := kvs.length ≤ sizeLine ∧ (d == sysModules) = false ∧ KV kvs vs ∧ h.DictAt (mixKind P w) d vs ep
def FzO (P : Program) (w : World) (d : Addr) (kvs : List (Key × V)) (vs : List (Key × Value)) (ep : Nat) : HO := .ext (FzAt P w d kvs vs ep)
def IsFz (P : Program) (w : World) (d : Addr) (kvs : List (Key × V)) (F : HO) : Prop := ∃ vs ep, F = FzO P w d kvs vs ep
theorem IsFz.ext {P : Program} {w : World} {d : Addr} {kvs : List (Key × V)} {F : HO} (h : IsFz P w d kvs F) : ∃ φ, F = .ext φ := let ⟨_, _, e⟩ := h; ⟨_, e⟩
section
variable {X : Cx} {pins : List (Addr × Obj)} {σ : St} {H : Hp} {s : Shared} {d : Addr} {kvs : List (Key × V)} {vs : List (Key × Value)} {ep : Nat}
theorem Inv.freeze (I : Inv X pins σ H s) (hd : H d = some (.dK kvs)) : ∃ vs ep, Inv X pins σ (upd H d (FzO X.prog X.w d kvs vs ep)) s ∧ s.heap.DictAt (mixKind X.prog X.w) d vs ep := by
  obtain ⟨z, lo, vs, rel, dd⟩ := dk_of I.hok hd
  obtain ⟨ep, at'⟩ := dd.dictAt
  obtain ⟨o, es, ho, r⟩ := id at'
  exact ⟨vs, ep, I.write (e := d) (t' := s.toks) (h' := s.heap) (by rw [hd]; trivial) (.inl rfl) (fun _ _ _ q => q) ⟨o, ho⟩ ⟨⟨z, lo, rel, at'⟩, ⟨o, ho⟩, fun h1 h2 ⟨a1, a2, a3, a4⟩ k => ⟨a1, a2, a3, a4.at' k⟩⟩, at'⟩
theorem Inv.thaw {F : HO} (I : Inv X pins σ H s) (hF : IsFz X.prog X.w d kvs F) (hd : H d = some F) : Inv X pins σ (upd H d (.dK kvs)) s := by
  obtain ⟨vs, ep, rfl⟩ := hF
  obtain ⟨⟨z, lo, rel, at'⟩, ⟨o, ho⟩, _⟩ := (show ObjOk X.prog X.w H s.heap d (.ext (FzAt X.prog X.w d kvs vs ep)) from I.hok d _ hd)
  exact I.write (e := d) (t' := s.toks) (h' := s.heap) (by rw [hd]; trivial) (.inl rfl) (fun _ _ _ q => q) ⟨o, ho⟩ ⟨z, lo, vs, rel, at'.dictOf⟩
end
def Thaw (P : Program) (w : World) (H1 H2 : Hp) : Prop := ∃ d kvs F, IsFz P w d kvs F ∧ H1 d = some F ∧ H2 = upd H1 d (.dK kvs)
def tThawE (P : Program) (w : World) (te : TE) : TE := fun σ H Q => te σ H fun v H1 => ∃ H2, Thaw P w H1 H2 ∧ Q v H2
theorem pe_thaw {X : Cx} {e : Expr} {te : TE} (h : PE X e te) : PE X e (tThawE X.prog X.w te) := by
  intro pins s σ H Q I q
  refine wpAny_mono (h pins s σ H _ I q) (fun v s1 ⟨x, H1, I1, r, q1⟩ => ?_) fun _ _ z => z
  obtain ⟨H2, ⟨d, kvs, F, hF, hd, rfl⟩, q2⟩ := q1
  exact ⟨x, _, I1.thaw hF hd, r, q2⟩
def tThawS (P : Program) (w : World) (ts : TS) : TS := fun D σ H => ts { D with nx := fun σ1 H1 => ∃ H2, Thaw P w H1 H2 ∧ D.nx σ1 H2 } σ H
/-! ### for v in d.values() -/
def Itv (d : Addr) (F : HO) (kvs : List (Key × V)) : It :=
  ⟨fun i H => H d = some F ∧ i < kvs.length, fun i H x H' => H' = H ∧ ∃ k, kvs[i]? = some (k, x), fun i H => H d = some F ∧ kvs.length ≤ i⟩
theorem turn_vals {P : Program} {w : World} {K : PySem.W.Frag} {tg : Expr} (d it : Addr) (kvs : List (Key × V)) (vs : List (Key × Value)) (ep : Nat) :
    Turn P w K tg (Itv d (FzO P w d kvs vs ep) kvs) [it] it (fun i h => h.IsValIter it d i vs.length ep) where
  mem := by simp
  obj := fun i h st b hb => by
    have e : b = it := by simpa using hb
    subst e
    obtain ⟨o, e, c, d⟩ := st
    exact ⟨o, e, fun v z => by rw [d] at z; cases z⟩
  keep := fun i h h' st k => st.at fun o e => k it (by simp) o e
  item := by
    intro X hP hw hK hc i pins s σ H E I hf st hg
    subst hP hw hK
    obtain ⟨hd, hi⟩ := hg
    obtain ⟨⟨z, lo, rel, at'⟩, _, _⟩ := (show ObjOk X.prog X.w H s.heap d (.ext (FzAt X.prog X.w d kvs vs ep)) from I.hok d _ hd)
    have hl : i < vs.length := by rw [← rel.length]; exact hi
    obtain ⟨⟨k, u⟩, hu⟩ : ∃ q, vs[i]? = some q := ⟨_, List.getElem?_eq_getElem hl⟩
    obtain ⟨x, hx, ru⟩ := kv_get rel hu
    obtain ⟨f0, f1, f2, f3, f4, f5⟩ := hf it (by simp)
    refine wpAny_pyNext_values_item st at' hu fun h' st' sb => ?_
    have I1 : Inv X pins σ H { s with heap := h' } := I.turned (t' := s.toks) (fun b o hb e => (sb.2 b hb).trans e) f0 f1 f3 f4 f5
    obtain ⟨o, e, c, dd⟩ := id st'
    exact ⟨u, rfl, go_of (s := { s with heap := h' }) e c dd (by decide) ⟨x, H, I1, ru, ⟨rfl, k, hx⟩, st', fun b hb => (hf b hb).1⟩⟩
  done := by
    intro X hP hw hK hc i pins s σ H E I hf st hg
    subst hP hw hK
    obtain ⟨hd, hi⟩ := hg
    obtain ⟨⟨z, lo, rel, at'⟩, _, _⟩ := (show ObjOk X.prog X.w H s.heap d (.ext (FzAt X.prog X.w d kvs vs ep)) from I.hok d _ hd)
    obtain ⟨f0, f1, f2, f3, f4, f5⟩ := hf it (by simp)
    exact wpAny_pyNext_values_end (I.ok.hd hc) st at' (List.getElem?_eq_none (by rw [← rel.length]; exact hi)) fun h' eb => ⟨rfl, I.turned (t' := s.toks) (fun b o hb e => eb b o hb e) f0 f1 f3 f4 f5⟩
  self := fun _ _ _ _ _ st h => wpAny_pyIter_valiter st h
def iVals (P : Program) (w : World) (tl : TE) : TI := fun σ H R => tl σ H fun x H1 => ∃ v d kvs, x = .ref v ∧ H1 v = some (ViewO "dict_values" v d) ∧ H1 d = some (.dK kvs) ∧ ∀ F, IsFz P w d kvs F → R (Itv d F kvs) (upd H1 d F)
theorem pi_vals {X : Cx} {tg l : Expr} {tl : TE} (hl : PE X l tl) : PI X tg l (iVals X.prog X.w tl) := by
  intro pins s σ H R I h
  refine thn (hl pins s σ H _ I h) fun v s1 ⟨x, H1, I1, r1, q1⟩ => ?_
  obtain ⟨vw, d, kvs, e, hv, hd, q⟩ := q1
  subst e
  cases r1
  obtain ⟨vs, ep, I2, at'⟩ := I1.freeze hd
  have vv : s1.heap.IsValuesView vw d := (show ObjOk X.prog X.w H1 s1.heap vw (.ext (ViewAt "dict_values" vw d)) from I1.hok vw _ hv).1
  refine wpAny_pyIter_values vv at' ?_
  refine ⟨s1.heap.objs.size, [s1.heap.objs.size], _, _, _, rfl, I2.kept (t' := s1.toks) fun b o e => Heap.get?_push_of_some _ e, turn_vals d _ kvs vs ep, ⟨_, Heap.get?_push_size _ rfl, rfl, rfl⟩, fun b hb => ?_, q _ ⟨vs, ep, rfl⟩⟩
  have e : b = s1.heap.objs.size := by simpa using hb
  subst e
  exact I2.fpOk (Nat.le_refl _) (I2.hok.fresh (Nat.le_refl _))
theorem rd_ivals {P : Program} {w : World} {tl : TE} {σ : St} {H : Hp} {R : It → Hp → Prop} (h : tl σ H fun x H1 => ∃ v d kvs, x = .ref v ∧ H1 v = some (ViewO "dict_values" v d) ∧ H1 d = some (.dK kvs) ∧ ∀ F, IsFz P w d kvs F → R (Itv d F kvs) (upd H1 d F)) : iVals P w tl σ H R := h
theorem rd_thawE {P : Program} {w : World} {te : TE} {σ : St} {H : Hp} {Q : VK} (h : te σ H fun v H1 => ∃ H2, Thaw P w H1 H2 ∧ Q v H2) : tThawE P w te σ H Q := h
/-- [.. for v in d.values()], the list known -/
theorem compW_valsL {σ : St} {H : Hp} {Q : VK} {te : TE} {cap : List (Option Nat)} {l d : Addr} {F : HO} {kvs : List (Key × V)} (ys : List V) (hy : ys.length = kvs.length) (hs : H d = some F) (hz : kvs.length ≤ 1000) (hl : H l = none)
    (step : ∀ (i : Nat) k x y o H' (Q' : VK), kvs[i]? = some (k, x) → ys[i]? = some y → Same H H' → (∀ H5, Same H' H5 → Q' y H5) → te (((capS (none :: cap) σ).set 0 o).set 0 (some x)) H' Q')
    (fin : ∀ H', Same H H' → H' l = some (.lst ys) → Q (.ref l) H') : CompW (Itv d F kvs) (gName 0) tTrue te (none :: cap) l σ H Q := by
  refine ⟨kvs.length, fun i zs σ' H' => zs = ys.take i ∧ (∃ o, σ' = (capS (none :: cap) σ).set 0 o) ∧ Same H H' ∧ H' l = some (.lst zs), ⟨rfl, ⟨none, rfl⟩, Same.new hl, upd_same⟩, ?_, ?_⟩
  · rintro i zs σ' H' hi ⟨rfl, ⟨o, rfl⟩, s, e⟩
    refine ⟨⟨s _ _ hs, hi⟩, fun x H2 y => ?_⟩
    obtain ⟨e2, k, hx⟩ := y
    subst e2
    have hyi : i < ys.length := by omega
    refine rd_name (rd_true (iteT ?_))
    refine step i k x ys[i] o H2 _ hx (List.getElem?_eq_getElem hyi) s fun H5 s5 => ⟨s5 _ _ e, ?_, ?_⟩
    · rw [List.length_take]
      exact small1000 (by omega)
    · exact ⟨List.take_append_getElem hyi, ⟨_, List.set_set ..⟩, (s.trans s5).later hl, upd_same⟩
  · rintro zs σ' H' ⟨rfl, _, s, e⟩
    rw [List.take_of_length_le (by omega)] at e
    exact ⟨⟨s _ _ hs, Nat.le_refl _⟩, fin H' s e⟩
/-- [.. for a, b in xs], the list known -/
theorem compW_pairsL {K : PySem.W.Frag} {σ : St} {H : Hp} {Q : VK} {te : TE} {cap : List (Option Nat)} {l a : Addr} {xs : List V} (ys : List V) (hy : ys.length = xs.length) (hs : SqL K H a xs) (hz : xs.length ≤ 1000) (hl : H l = none)
    (hp : ∀ (i : Nat) v, xs[i]? = some v → ∃ b u1 u2, v = .ref b ∧ H b = some (.tup [u1, u2]))
    (step : ∀ (i : Nat) b u1 u2 y o1 o2 H' (Q' : VK), xs[i]? = some (.ref b) → H b = some (.tup [u1, u2]) → ys[i]? = some y → Same H H' → (∀ H5, Same H' H5 → Q' y H5) → te (((((capS (none :: none :: cap) σ).set 0 o1).set 1 o2).set 0 (some u1)).set 1 (some u2)) H' Q')
    (fin : ∀ H', Same H H' → H' l = some (.lst ys) → Q (.ref l) H') : CompW (Itl K a) (gTup K 2 (gCons (gName 0) (gCons (gName 1) gNil))) tTrue te (none :: none :: cap) l σ H Q := by
  refine ⟨xs.length, fun i zs σ' H' => zs = ys.take i ∧ (∃ o1 o2, σ' = ((capS (none :: none :: cap) σ).set 0 o1).set 1 o2) ∧ Same H H' ∧ H' l = some (.lst zs), ⟨rfl, ⟨none, none, rfl⟩, Same.new hl, upd_same⟩, ?_, ?_⟩
  · rintro i zs σ' H' hi ⟨rfl, ⟨o1, o2, rfl⟩, s, e⟩
    refine ⟨⟨xs, xs[i], s.seq hs, by simp [hi]⟩, fun x H2 y => ?_⟩
    obtain ⟨e2, y⟩ := y
    subst e2
    have hx := y xs (s.seq hs)
    obtain ⟨b, u1, u2, rfl, hb⟩ := hp i x hx
    have hyi : i < ys.length := by omega
    refine rd_gtup (s _ _ hb) rfl ?_
    refine rd_gcons (rd_name (rd_gcons (rd_name (rd_gnil ?_))))
    refine rd_true (iteT ?_)
    refine step i b u1 u2 ys[i] o1 o2 H2 _ hx hb (List.getElem?_eq_getElem hyi) s fun H5 s5 => ⟨s5 _ _ e, ?_, ?_⟩
    · rw [List.length_take]
      exact small1000 (by omega)
    · exact ⟨List.take_append_getElem hyi, ⟨some u1, some u2, rfl⟩, (s.trans s5).later hl, upd_same⟩
  · rintro zs σ' H' ⟨rfl, _, s, e⟩
    rw [List.take_of_length_le (by omega)] at e
    exact ⟨⟨xs, s.seq hs, Nat.le_refl _⟩, fin H' s e⟩
/-! ### for k, v in d.items() -/
def Iti (d : Addr) (F : HO) (kvs : List (Key × V)) : It :=
  ⟨fun i H => H d = some F ∧ i < kvs.length, fun i H x H' => ∃ b k v, kvs[i]? = some (k, v) ∧ x = .ref b ∧ H b = none ∧ H' = upd H b (.tup [kV k, v]), fun i H => H d = some F ∧ kvs.length ≤ i⟩
def iItems (P : Program) (w : World) (tl : TE) : TI := fun σ H R => tl σ H fun x H1 => ∃ v d kvs, x = .ref v ∧ H1 v = some (ViewO "dict_items" v d) ∧ H1 d = some (.dK kvs) ∧ ∀ F, IsFz P w d kvs F → R (Iti d F kvs) (upd H1 d F)
end L2
namespace L2
open PySem PySem.Spec PyProof.Rows PySem.W
theorem op_catTK {X : Cx} (K : PySem.W.Frag) (h : X.K = K) : OpR X (binaryOp .Add) (rCatT K) := h ▸ op_catT
theorem rd_catT {K : PySem.W.Frag} {H : Hp} {Q : VK} {a b : Addr} {xs ys : List V} (ha : H a = some (.tup xs)) (hb : H b = some (.tup ys)) (nx : xs ≠ []) (ny : ys ≠ []) (hz : xs.length + ys.length ≤ sizeLine)
    (q : ∀ p, H p = none → Q (.ref p) (upd H p (.tup (xs ++ ys)))) : rCatT K (.ref a) (.ref b) H Q := ⟨a, b, xs, ys, rfl, rfl, SqT.of ha, SqT.of hb, nx, hz, fun z => absurd z ny, fun _ => q⟩
end L2
namespace L2
open PySem PySem.Spec PyProof.Rows PySem.W
section
variable {K : PySem.W.Frag} {H : Hp} {Q : VK}
theorem rd_slS {a : Addr} {xs : List V} {lo hi : Option Int} (h : H a = some (.lst xs)) (q : ∀ p H1, Same H H1 → H p = none → H1 p = some (.lst (cutV xs lo hi)) → Q (.ref p) H1) : rSlL K (.ref a) lo hi H Q := rd_slL h fun p n => q p _ (Same.new n) n upd_same
theorem rd_catS {a b : Addr} {xs zs : List V} (ha : H a = some (.lst xs)) (hb : H b = some (.lst zs)) (z : xs.length + zs.length ≤ sizeLine) (q : ∀ p H1, Same H H1 → H p = none → H1 p = some (.lst (xs ++ zs)) → Q (.ref p) H1) : rCat (.ref a) (.ref b) H Q := rd_cat ha hb z fun p n => q p _ (Same.new n) n upd_same
end
end L2

set_option Elab.async false
set_option maxHeartbeats 4000000
set_option linter.all false
set_option maxRecDepth 100000
namespace My
open PySem PySem.Spec PyProof.Rows L2
def top (i : Nat) : Stmt := PySem.Challenge.pw_sashiko_k48_cloths_that_show.main.body.getD i (.Pass ⟨0, 0, 0, 0⟩)
abbrev s_isnumber : Stmt := (top 14)
abbrev s_isbelow : Stmt := (top 15)
abbrev s_isbit : Stmt := (top 16)
abbrev s_allbits : Stmt := (top 17)
abbrev s_isside : Stmt := (top 18)
abbrev s_needcell : Stmt := (top 19)
abbrev s_BoardInit : Stmt := (inClass (top 21) 0)
abbrev s_ClothInit : Stmt := (inClass (top 22) 0)
abbrev s_Clothwide : Stmt := (inClass (top 21) 1)
abbrev s_Clothtall : Stmt := (inClass (top 21) 2)
abbrev s_Clothbitsalong : Stmt := (inClass (top 21) 5)
abbrev s_Clothbit : Stmt := (inClass (top 21) 6)
abbrev s_Clothstitched : Stmt := (inClass (top 21) 7)
abbrev s_Clothcolour : Stmt := (inClass (top 22) 2)
abbrev s_shows : Stmt := (top 24)
abbrev s_cellstrips : Stmt := (top 25)
abbrev s_linestrips : Stmt := (top 26)
abbrev s_factstrips : Stmt := (top 27)
abbrev s_factweight : Stmt := (top 28)
abbrev s_lonegroups : Stmt := (top 29)
abbrev s_weightbetween : Stmt := (top 30)
abbrev s_tie : Stmt := (top 31)
abbrev s_groupsof : Stmt := (top 32)
abbrev s_FindsInit : Stmt := (inClass (top 36) 0)
abbrev s_Findswide : Stmt := (inClass (top 36) 1)
abbrev s_Findstall : Stmt := (inClass (top 36) 2)
abbrev s_Findsneedline : Stmt := (inClass (top 36) 3)
abbrev s_Findsneedfact : Stmt := (inClass (top 36) 4)
abbrev s_Findsnote : Stmt := (inClass (top 36) 5)
abbrev s_Findswithdraw : Stmt := (inClass (top 36) 6)
abbrev s_Findsfits : Stmt := (inClass (top 36) 19)
abbrev s_Ldraws : Stmt := (top 40)
abbrev s_Lbits : Stmt := (top 41)
abbrev s_Lrow : Stmt := (top 42)
abbrev s_Lsmall : Stmt := (top 43)
abbrev s_Lmade : Stmt := (top 44)
abbrev s_Lvalue : Stmt := (top 38)
abbrev s_Lsewn : Stmt := (top 39)
abbrev s_Lfact : Stmt := (top 45)
abbrev s_Lfilled : Stmt := (top 46)
abbrev s_Lsame : Stmt := (top 47)
abbrev s_Lfalse : Stmt := (top 48)
abbrev s_Lholds : Stmt := (top 49)
abbrev s_Lothers : Stmt := (top 50)
abbrev s_law : Stmt := (top 51)
theorem sc_isnumber : FnScope ["value"] ["value"] (defScope s_isnumber) := ⟨rfl, rfl, rfl, by decide +kernel, rfl, by decide +kernel, by decide +kernel⟩
theorem sc_isbelow : FnScope ["value", "bound"] ["value", "bound"] (defScope s_isbelow) := ⟨rfl, rfl, rfl, by decide +kernel, rfl, by decide +kernel, by decide +kernel⟩
theorem sc_isbit : FnScope ["value"] ["value"] (defScope s_isbit) := ⟨rfl, rfl, rfl, by decide +kernel, rfl, by decide +kernel, by decide +kernel⟩
theorem sc_allbits : FnScope ["values"] ["values"] (defScope s_allbits) := ⟨rfl, rfl, rfl, by decide +kernel, rfl, by decide +kernel, by decide +kernel⟩
theorem sc_isside : FnScope ["count"] ["count"] (defScope s_isside) := ⟨rfl, rfl, rfl, by decide +kernel, rfl, by decide +kernel, by decide +kernel⟩
theorem sc_needcell : FnScope ["board", "x", "y"] ["board", "x", "y"] (defScope s_needcell) := ⟨rfl, rfl, rfl, by decide +kernel, rfl, by decide +kernel, by decide +kernel⟩
theorem sc_BoardInit : FnScope ["self", "wide", "tall", "cols", "rows"] ["self", "wide", "tall", "cols", "rows"] (defScope s_BoardInit) := ⟨rfl, rfl, rfl, by decide +kernel, rfl, by decide +kernel, by decide +kernel⟩
theorem sc_ClothInit : FnScope ["self", "shade", "cols", "rows"] ["self", "shade", "cols", "rows"] (defScope s_ClothInit) := ⟨rfl, rfl, rfl, by decide +kernel, rfl, by decide +kernel, by decide +kernel⟩
theorem sc_Clothwide : FnScope ["self"] ["self"] (defScope s_Clothwide) := ⟨rfl, rfl, rfl, by decide +kernel, rfl, by decide +kernel, by decide +kernel⟩
theorem sc_Clothtall : FnScope ["self"] ["self"] (defScope s_Clothtall) := ⟨rfl, rfl, rfl, by decide +kernel, rfl, by decide +kernel, by decide +kernel⟩
theorem sc_Clothbitsalong : FnScope ["self", "way"] ["self", "way"] (defScope s_Clothbitsalong) := ⟨rfl, rfl, rfl, by decide +kernel, rfl, by decide +kernel, by decide +kernel⟩
theorem sc_Clothbit : FnScope ["self", "way", "k", "bits"] ["self", "way", "k"] (defScope s_Clothbit) := ⟨rfl, rfl, rfl, by decide +kernel, rfl, by decide +kernel, by decide +kernel⟩
theorem sc_Clothstitched : FnScope ["self", "way", "k", "step", "line_bit", "steps"] ["self", "way", "k", "step"] (defScope s_Clothstitched) := ⟨rfl, rfl, rfl, by decide +kernel, rfl, by decide +kernel, by decide +kernel⟩
theorem sc_Clothcolour : FnScope ["self", "x", "y", "stitches"] ["self", "x", "y"] (defScope s_Clothcolour) := ⟨rfl, rfl, rfl, by decide +kernel, rfl, by decide +kernel, by decide +kernel⟩
theorem sc_shows : FnScope ["cloth", "fact"] ["cloth", "fact"] (defScope s_shows) := ⟨rfl, rfl, rfl, by decide +kernel, rfl, by decide +kernel, by decide +kernel⟩
theorem sc_cellstrips : FnScope ["x", "y"] ["x", "y"] (defScope s_cellstrips) := ⟨rfl, rfl, rfl, by decide +kernel, rfl, by decide +kernel, by decide +kernel⟩
theorem sc_linestrips : FnScope ["way", "k", "letter"] ["way", "k"] (defScope s_linestrips) := ⟨rfl, rfl, rfl, by decide +kernel, rfl, by decide +kernel, by decide +kernel⟩
theorem sc_factstrips : FnScope ["fact"] ["fact"] (defScope s_factstrips) := ⟨rfl, rfl, rfl, by decide +kernel, rfl, by decide +kernel, by decide +kernel⟩
theorem sc_factweight : FnScope ["fact"] ["fact"] (defScope s_factweight) := ⟨rfl, rfl, rfl, by decide +kernel, rfl, by decide +kernel, by decide +kernel⟩
theorem sc_lonegroups : FnScope ["wide", "tall", "groups", "x", "y"] ["wide", "tall"] (defScope s_lonegroups) := ⟨rfl, rfl, rfl, by decide +kernel, rfl, by decide +kernel, by decide +kernel⟩
theorem sc_weightbetween : FnScope ["groups", "strips", "one", "other"] ["groups", "strips"] (defScope s_weightbetween) := ⟨rfl, rfl, rfl, by decide +kernel, rfl, by decide +kernel, by decide +kernel⟩
theorem sc_tie : FnScope ["groups", "strips", "weight", "one", "other", "change", "strip", "place"] ["groups", "strips", "weight"] (defScope s_tie) := ⟨rfl, rfl, rfl, by decide +kernel, rfl, by decide +kernel, by decide +kernel⟩
theorem sc_groupsof : FnScope ["wide", "tall", "facts", "groups", "fact"] ["wide", "tall", "facts"] (defScope s_groupsof) := ⟨rfl, rfl, rfl, by decide +kernel, rfl, by decide +kernel, by decide +kernel⟩
theorem sc_FindsInit : FnScope ["self", "wide", "tall"] ["self", "wide", "tall"] (defScope s_FindsInit) := ⟨rfl, rfl, rfl, by decide +kernel, rfl, by decide +kernel, by decide +kernel⟩
theorem sc_Findswide : FnScope ["self"] ["self"] (defScope s_Findswide) := ⟨rfl, rfl, rfl, by decide +kernel, rfl, by decide +kernel, by decide +kernel⟩
theorem sc_Findstall : FnScope ["self"] ["self"] (defScope s_Findstall) := ⟨rfl, rfl, rfl, by decide +kernel, rfl, by decide +kernel, by decide +kernel⟩
theorem sc_Findsneedline : FnScope ["self", "way", "k"] ["self", "way", "k"] (defScope s_Findsneedline) := ⟨rfl, rfl, rfl, by decide +kernel, rfl, by decide +kernel, by decide +kernel⟩
theorem sc_Findsneedfact : FnScope ["self", "fact"] ["self", "fact"] (defScope s_Findsneedfact) := ⟨rfl, rfl, rfl, by decide +kernel, rfl, by decide +kernel, by decide +kernel⟩
theorem sc_Findsnote : FnScope ["self", "fact", "strips", "weight", "number"] ["self", "fact"] (defScope s_Findsnote) := ⟨rfl, rfl, rfl, by decide +kernel, rfl, by decide +kernel, by decide +kernel⟩
theorem sc_Findswithdraw : FnScope ["self", "number"] ["self", "number"] (defScope s_Findswithdraw) := ⟨rfl, rfl, rfl, by decide +kernel, rfl, by decide +kernel, by decide +kernel⟩
theorem sc_Findsfits : FnScope ["self", "cloth"] ["self", "cloth"] (defScope s_Findsfits) := ⟨rfl, rfl, rfl, by decide +kernel, rfl, by decide +kernel, by decide +kernel⟩
theorem sc_Ldraws : FnScope ["_law_script", "_law_many", "_law_rows", "_law_mix", "_law_cell", "_law_rest"] ["_law_script", "_law_many"] (defScope s_Ldraws) := ⟨rfl, rfl, rfl, by decide +kernel, rfl, by decide +kernel, by decide +kernel⟩
theorem sc_Lbits : FnScope ["_law_number", "_law_many", "_law_row_here", "_law_k"] ["_law_number", "_law_many"] (defScope s_Lbits) := ⟨rfl, rfl, rfl, by decide +kernel, rfl, by decide +kernel, by decide +kernel⟩
theorem sc_Lrow : FnScope ["_law_some", "_law_many", "_law_raw", "_law_row_here"] ["_law_some", "_law_many"] (defScope s_Lrow) := ⟨rfl, rfl, rfl, by decide +kernel, rfl, by decide +kernel, by decide +kernel⟩
theorem sc_Lsmall : FnScope ["_law_some", "_law_wide", "_law_tall"] ["_law_some"] (defScope s_Lsmall) := ⟨rfl, rfl, rfl, by decide +kernel, rfl, by decide +kernel, by decide +kernel⟩
theorem sc_Lmade : FnScope ["_law_plan"] ["_law_plan"] (defScope s_Lmade) := ⟨rfl, rfl, rfl, by decide +kernel, rfl, by decide +kernel, by decide +kernel⟩
theorem sc_Lvalue : FnScope ["_law_plan", "_law_x", "_law_y", "_law_total"] ["_law_plan", "_law_x", "_law_y"] (defScope s_Lvalue) := ⟨rfl, rfl, rfl, by decide +kernel, rfl, by decide +kernel, by decide +kernel⟩
theorem sc_Lsewn : FnScope ["_law_plan", "_law_way", "_law_k", "_law_step", "_law_bits_here"] ["_law_plan", "_law_way", "_law_k", "_law_step"] (defScope s_Lsewn) := ⟨rfl, rfl, rfl, by decide +kernel, rfl, by decide +kernel, by decide +kernel⟩
theorem sc_Lfact : FnScope ["_law_plan", "_law_one", "_law_two", "_law_three", "_law_wide", "_law_tall", "_law_k", "_law_step", "_law_x", "_law_y"] ["_law_plan", "_law_one", "_law_two", "_law_three"] (defScope s_Lfact) := ⟨rfl, rfl, rfl, by decide +kernel, rfl, by decide +kernel, by decide +kernel⟩
theorem sc_Lfilled : FnScope ["_law_finds", "_law_plan", "_law_some", "_law_many", "_law_facts", "_law_turn", "_law_fact_here"] ["_law_finds", "_law_plan", "_law_some", "_law_many"] (defScope s_Lfilled) := ⟨rfl, rfl, rfl, by decide +kernel, rfl, by decide +kernel, by decide +kernel⟩
theorem sc_Lsame : FnScope ["_law_told", "_law_due"] ["_law_told", "_law_due"] (defScope s_Lsame) := ⟨rfl, rfl, rfl, by decide +kernel, rfl, by decide +kernel, by decide +kernel⟩
theorem sc_Lfalse : FnScope ["_law_fact_here"] ["_law_fact_here"] (defScope s_Lfalse) := ⟨rfl, rfl, rfl, by decide +kernel, rfl, by decide +kernel, by decide +kernel⟩
theorem sc_Lholds : FnScope ["_law_plan", "_law_fact_here"] ["_law_plan", "_law_fact_here"] (defScope s_Lholds) := ⟨rfl, rfl, rfl, by decide +kernel, rfl, by decide +kernel, by decide +kernel⟩
theorem sc_Lothers : FnScope ["_law_plan", "_law_some", "_law_found", "_law_at"] ["_law_plan", "_law_some"] (defScope s_Lothers) := ⟨rfl, rfl, rfl, by decide +kernel, rfl, by decide +kernel, by decide +kernel⟩
theorem sc_law : FnScope ["_law_script", "_law_some", "_law_plan", "_law_cloth", "_law_finds", "_law_facts", "_law_number", "_law_fact_here", "_law_others_here", "_law_other", "_law_due", "_law_fewer", "_law_like"] ["_law_script"] (defScope s_law) := ⟨rfl, rfl, rfl, by decide +kernel, rfl, by decide +kernel, by decide +kernel⟩
set_option genInjectivity false in
set_option genSizeOf false in
structure Ad where
  a_Board : Addr
  a_Cloth : Addr
  a_Finds : Addr
  f_isnumber : Addr
  d_isnumber : FuncData
  f_isbelow : Addr
  d_isbelow : FuncData
  f_isbit : Addr
  d_isbit : FuncData
  f_allbits : Addr
  d_allbits : FuncData
  f_isside : Addr
  d_isside : FuncData
  f_needcell : Addr
  d_needcell : FuncData
  f_BoardInit : Addr
  d_BoardInit : FuncData
  f_ClothInit : Addr
  d_ClothInit : FuncData
  f_Clothwide : Addr
  d_Clothwide : FuncData
  f_Clothtall : Addr
  d_Clothtall : FuncData
  f_Clothbitsalong : Addr
  d_Clothbitsalong : FuncData
  f_Clothbit : Addr
  d_Clothbit : FuncData
  f_Clothstitched : Addr
  d_Clothstitched : FuncData
  f_Clothcolour : Addr
  d_Clothcolour : FuncData
  f_shows : Addr
  d_shows : FuncData
  f_cellstrips : Addr
  d_cellstrips : FuncData
  f_linestrips : Addr
  d_linestrips : FuncData
  f_factstrips : Addr
  d_factstrips : FuncData
  f_factweight : Addr
  d_factweight : FuncData
  f_lonegroups : Addr
  d_lonegroups : FuncData
  f_weightbetween : Addr
  d_weightbetween : FuncData
  f_tie : Addr
  d_tie : FuncData
  f_groupsof : Addr
  d_groupsof : FuncData
  f_FindsInit : Addr
  d_FindsInit : FuncData
  f_Findswide : Addr
  d_Findswide : FuncData
  f_Findstall : Addr
  d_Findstall : FuncData
  f_Findsneedline : Addr
  d_Findsneedline : FuncData
  f_Findsneedfact : Addr
  d_Findsneedfact : FuncData
  f_Findsnote : Addr
  d_Findsnote : FuncData
  f_Findswithdraw : Addr
  d_Findswithdraw : FuncData
  f_Findsfits : Addr
  d_Findsfits : FuncData
  f_Ldraws : Addr
  d_Ldraws : FuncData
  f_Lbits : Addr
  d_Lbits : FuncData
  f_Lrow : Addr
  d_Lrow : FuncData
  f_Lsmall : Addr
  d_Lsmall : FuncData
  f_Lmade : Addr
  d_Lmade : FuncData
  f_Lvalue : Addr
  d_Lvalue : FuncData
  f_Lsewn : Addr
  d_Lsewn : FuncData
  f_Lfact : Addr
  d_Lfact : FuncData
  f_Lfilled : Addr
  d_Lfilled : FuncData
  f_Lsame : Addr
  d_Lsame : FuncData
  f_Lfalse : Addr
  d_Lfalse : FuncData
  f_Lholds : Addr
  d_Lholds : FuncData
  f_Lothers : Addr
  d_Lothers : FuncData
  f_law : Addr
  d_law : FuncData
  a_BadSize : Addr
  a_BadBit : Addr
  a_NoCell : Addr
  a_NoLine : Addr
  a_NoStep : Addr
  a_Known : Addr
  a_NoFact : Addr
  tk_LONGEST_SIDE : Tok
structure Txt (K : PySem.W.Frag) (mg : Str → Option Value) (t : Ad) : Prop where
  mg_Board : mg "Board" = some (.ref t.a_Board)
  mg_Cloth : mg "Cloth" = some (.ref t.a_Cloth)
  cl_Cloth : Cls K t.a_Cloth
  mk_Cloth : Mk K t.a_Cloth t.f_ClothInit
  na_columns_count : NoAttr K t.a_Cloth "columns_count"
  na_rows_count : NoAttr K t.a_Cloth "rows_count"
  na_col_bits : NoAttr K t.a_Cloth "col_bits"
  na_row_bits : NoAttr K t.a_Cloth "row_bits"
  na_first_colour : NoAttr K t.a_Cloth "first_colour"
  mg_Finds : mg "Finds" = some (.ref t.a_Finds)
  cl_Finds : Cls K t.a_Finds
  mk_Finds : Mk K t.a_Finds t.f_FindsInit
  naF_columns_count : NoAttr K t.a_Finds "columns_count"
  naF_rows_count : NoAttr K t.a_Finds "rows_count"
  naF_facts : NoAttr K t.a_Finds "facts"
  naF_next_number : NoAttr K t.a_Finds "next_number"
  naF_groups : NoAttr K t.a_Finds "groups"
  F_isnumber : Fun K "is_number" "is_number" s_isnumber t.f_isnumber t.d_isnumber
  b_isnumber : Binds K t.d_isnumber ["value"] []
  mg_isnumber : mg "is_number" = some (.ref t.f_isnumber)
  F_isbelow : Fun K "is_below" "is_below" s_isbelow t.f_isbelow t.d_isbelow
  b_isbelow : Binds K t.d_isbelow ["value", "bound"] []
  mg_isbelow : mg "is_below" = some (.ref t.f_isbelow)
  F_isbit : Fun K "is_bit" "is_bit" s_isbit t.f_isbit t.d_isbit
  b_isbit : Binds K t.d_isbit ["value"] []
  mg_isbit : mg "is_bit" = some (.ref t.f_isbit)
  F_allbits : Fun K "all_bits" "all_bits" s_allbits t.f_allbits t.d_allbits
  b_allbits : Binds K t.d_allbits ["values"] []
  mg_allbits : mg "all_bits" = some (.ref t.f_allbits)
  F_isside : Fun K "is_side" "is_side" s_isside t.f_isside t.d_isside
  b_isside : Binds K t.d_isside ["count"] []
  mg_isside : mg "is_side" = some (.ref t.f_isside)
  F_needcell : Fun K "need_cell" "need_cell" s_needcell t.f_needcell t.d_needcell
  b_needcell : Binds K t.d_needcell ["board", "x", "y"] []
  mg_needcell : mg "need_cell" = some (.ref t.f_needcell)
  F_BoardInit : Fun K "__init__" "Board.__init__" s_BoardInit t.f_BoardInit t.d_BoardInit
  b_BoardInit : Binds K t.d_BoardInit ["self", "wide", "tall", "cols", "rows"] []
  cf_BoardInit : ClsFn K t.a_Board "__init__" t.f_BoardInit
  F_ClothInit : Fun K "__init__" "Cloth.__init__" s_ClothInit t.f_ClothInit t.d_ClothInit
  b_ClothInit : Binds K t.d_ClothInit ["self", "shade", "cols", "rows"] []
  F_Clothwide : Fun K "wide" "Board.wide" s_Clothwide t.f_Clothwide t.d_Clothwide
  b_Clothwide : Binds K t.d_Clothwide ["self"] []
  m_Clothwide : Meth K t.a_Cloth "wide" t.f_Clothwide
  F_Clothtall : Fun K "tall" "Board.tall" s_Clothtall t.f_Clothtall t.d_Clothtall
  b_Clothtall : Binds K t.d_Clothtall ["self"] []
  m_Clothtall : Meth K t.a_Cloth "tall" t.f_Clothtall
  F_Clothbitsalong : Fun K "bits_along" "Board.bits_along" s_Clothbitsalong t.f_Clothbitsalong t.d_Clothbitsalong
  b_Clothbitsalong : Binds K t.d_Clothbitsalong ["self", "way"] []
  m_Clothbitsalong : Meth K t.a_Cloth "bits_along" t.f_Clothbitsalong
  F_Clothbit : Fun K "bit" "Board.bit" s_Clothbit t.f_Clothbit t.d_Clothbit
  b_Clothbit : Binds K t.d_Clothbit ["self", "way", "k"] []
  m_Clothbit : Meth K t.a_Cloth "bit" t.f_Clothbit
  F_Clothstitched : Fun K "stitched" "Board.stitched" s_Clothstitched t.f_Clothstitched t.d_Clothstitched
  b_Clothstitched : Binds K t.d_Clothstitched ["self", "way", "k", "step"] []
  m_Clothstitched : Meth K t.a_Cloth "stitched" t.f_Clothstitched
  F_Clothcolour : Fun K "colour" "Cloth.colour" s_Clothcolour t.f_Clothcolour t.d_Clothcolour
  b_Clothcolour : Binds K t.d_Clothcolour ["self", "x", "y"] []
  m_Clothcolour : Meth K t.a_Cloth "colour" t.f_Clothcolour
  F_shows : Fun K "shows" "shows" s_shows t.f_shows t.d_shows
  b_shows : Binds K t.d_shows ["cloth", "fact"] []
  mg_shows : mg "shows" = some (.ref t.f_shows)
  F_cellstrips : Fun K "cell_strips" "cell_strips" s_cellstrips t.f_cellstrips t.d_cellstrips
  b_cellstrips : Binds K t.d_cellstrips ["x", "y"] []
  mg_cellstrips : mg "cell_strips" = some (.ref t.f_cellstrips)
  F_linestrips : Fun K "line_strips" "line_strips" s_linestrips t.f_linestrips t.d_linestrips
  b_linestrips : Binds K t.d_linestrips ["way", "k"] []
  mg_linestrips : mg "line_strips" = some (.ref t.f_linestrips)
  F_factstrips : Fun K "fact_strips" "fact_strips" s_factstrips t.f_factstrips t.d_factstrips
  b_factstrips : Binds K t.d_factstrips ["fact"] []
  mg_factstrips : mg "fact_strips" = some (.ref t.f_factstrips)
  F_factweight : Fun K "fact_weight" "fact_weight" s_factweight t.f_factweight t.d_factweight
  b_factweight : Binds K t.d_factweight ["fact"] []
  mg_factweight : mg "fact_weight" = some (.ref t.f_factweight)
  F_lonegroups : Fun K "lone_groups" "lone_groups" s_lonegroups t.f_lonegroups t.d_lonegroups
  b_lonegroups : Binds K t.d_lonegroups ["wide", "tall"] []
  mg_lonegroups : mg "lone_groups" = some (.ref t.f_lonegroups)
  F_weightbetween : Fun K "weight_between" "weight_between" s_weightbetween t.f_weightbetween t.d_weightbetween
  b_weightbetween : Binds K t.d_weightbetween ["groups", "strips"] []
  mg_weightbetween : mg "weight_between" = some (.ref t.f_weightbetween)
  F_tie : Fun K "tie" "tie" s_tie t.f_tie t.d_tie
  b_tie : Binds K t.d_tie ["groups", "strips", "weight"] []
  mg_tie : mg "tie" = some (.ref t.f_tie)
  F_groupsof : Fun K "groups_of" "groups_of" s_groupsof t.f_groupsof t.d_groupsof
  b_groupsof : Binds K t.d_groupsof ["wide", "tall", "facts"] []
  mg_groupsof : mg "groups_of" = some (.ref t.f_groupsof)
  F_FindsInit : Fun K "__init__" "Finds.__init__" s_FindsInit t.f_FindsInit t.d_FindsInit
  b_FindsInit : Binds K t.d_FindsInit ["self", "wide", "tall"] []
  F_Findswide : Fun K "wide" "Finds.wide" s_Findswide t.f_Findswide t.d_Findswide
  b_Findswide : Binds K t.d_Findswide ["self"] []
  m_Findswide : Meth K t.a_Finds "wide" t.f_Findswide
  F_Findstall : Fun K "tall" "Finds.tall" s_Findstall t.f_Findstall t.d_Findstall
  b_Findstall : Binds K t.d_Findstall ["self"] []
  m_Findstall : Meth K t.a_Finds "tall" t.f_Findstall
  F_Findsneedline : Fun K "need_line" "Finds.need_line" s_Findsneedline t.f_Findsneedline t.d_Findsneedline
  b_Findsneedline : Binds K t.d_Findsneedline ["self", "way", "k"] []
  m_Findsneedline : Meth K t.a_Finds "need_line" t.f_Findsneedline
  F_Findsneedfact : Fun K "need_fact" "Finds.need_fact" s_Findsneedfact t.f_Findsneedfact t.d_Findsneedfact
  b_Findsneedfact : Binds K t.d_Findsneedfact ["self", "fact"] []
  m_Findsneedfact : Meth K t.a_Finds "need_fact" t.f_Findsneedfact
  F_Findsnote : Fun K "note" "Finds.note" s_Findsnote t.f_Findsnote t.d_Findsnote
  b_Findsnote : Binds K t.d_Findsnote ["self", "fact"] []
  m_Findsnote : Meth K t.a_Finds "note" t.f_Findsnote
  F_Findswithdraw : Fun K "withdraw" "Finds.withdraw" s_Findswithdraw t.f_Findswithdraw t.d_Findswithdraw
  b_Findswithdraw : Binds K t.d_Findswithdraw ["self", "number"] []
  m_Findswithdraw : Meth K t.a_Finds "withdraw" t.f_Findswithdraw
  F_Findsfits : Fun K "fits" "Finds.fits" s_Findsfits t.f_Findsfits t.d_Findsfits
  b_Findsfits : Binds K t.d_Findsfits ["self", "cloth"] []
  m_Findsfits : Meth K t.a_Finds "fits" t.f_Findsfits
  F_Ldraws : Fun K "_law_draws" "_law_draws" s_Ldraws t.f_Ldraws t.d_Ldraws
  b_Ldraws : Binds K t.d_Ldraws ["_law_script", "_law_many"] []
  mg_Ldraws : mg "_law_draws" = some (.ref t.f_Ldraws)
  F_Lbits : Fun K "_law_bits" "_law_bits" s_Lbits t.f_Lbits t.d_Lbits
  b_Lbits : Binds K t.d_Lbits ["_law_number", "_law_many"] []
  mg_Lbits : mg "_law_bits" = some (.ref t.f_Lbits)
  F_Lrow : Fun K "_law_row" "_law_row" s_Lrow t.f_Lrow t.d_Lrow
  b_Lrow : Binds K t.d_Lrow ["_law_some", "_law_many"] []
  mg_Lrow : mg "_law_row" = some (.ref t.f_Lrow)
  F_Lsmall : Fun K "_law_small" "_law_small" s_Lsmall t.f_Lsmall t.d_Lsmall
  b_Lsmall : Binds K t.d_Lsmall ["_law_some"] []
  mg_Lsmall : mg "_law_small" = some (.ref t.f_Lsmall)
  F_Lmade : Fun K "_law_made" "_law_made" s_Lmade t.f_Lmade t.d_Lmade
  b_Lmade : Binds K t.d_Lmade ["_law_plan"] []
  mg_Lmade : mg "_law_made" = some (.ref t.f_Lmade)
  F_Lvalue : Fun K "_law_value" "_law_value" s_Lvalue t.f_Lvalue t.d_Lvalue
  b_Lvalue : Binds K t.d_Lvalue ["_law_plan", "_law_x", "_law_y"] []
  mg_Lvalue : mg "_law_value" = some (.ref t.f_Lvalue)
  F_Lsewn : Fun K "_law_sewn" "_law_sewn" s_Lsewn t.f_Lsewn t.d_Lsewn
  b_Lsewn : Binds K t.d_Lsewn ["_law_plan", "_law_way", "_law_k", "_law_step"] []
  mg_Lsewn : mg "_law_sewn" = some (.ref t.f_Lsewn)
  F_Lfact : Fun K "_law_fact" "_law_fact" s_Lfact t.f_Lfact t.d_Lfact
  b_Lfact : Binds K t.d_Lfact ["_law_plan", "_law_one", "_law_two", "_law_three"] []
  mg_Lfact : mg "_law_fact" = some (.ref t.f_Lfact)
  F_Lfilled : Fun K "_law_filled" "_law_filled" s_Lfilled t.f_Lfilled t.d_Lfilled
  b_Lfilled : Binds K t.d_Lfilled ["_law_finds", "_law_plan", "_law_some", "_law_many"] []
  mg_Lfilled : mg "_law_filled" = some (.ref t.f_Lfilled)
  F_Lsame : Fun K "_law_same" "_law_same" s_Lsame t.f_Lsame t.d_Lsame
  b_Lsame : Binds K t.d_Lsame ["_law_told", "_law_due"] []
  mg_Lsame : mg "_law_same" = some (.ref t.f_Lsame)
  F_Lfalse : Fun K "_law_false" "_law_false" s_Lfalse t.f_Lfalse t.d_Lfalse
  b_Lfalse : Binds K t.d_Lfalse ["_law_fact_here"] []
  mg_Lfalse : mg "_law_false" = some (.ref t.f_Lfalse)
  F_Lholds : Fun K "_law_holds" "_law_holds" s_Lholds t.f_Lholds t.d_Lholds
  b_Lholds : Binds K t.d_Lholds ["_law_plan", "_law_fact_here"] []
  mg_Lholds : mg "_law_holds" = some (.ref t.f_Lholds)
  F_Lothers : Fun K "_law_others" "_law_others" s_Lothers t.f_Lothers t.d_Lothers
  b_Lothers : Binds K t.d_Lothers ["_law_plan", "_law_some"] []
  mg_Lothers : mg "_law_others" = some (.ref t.f_Lothers)
  F_law : Fun K "law" "law" s_law t.f_law t.d_law
  b_law : Binds K t.d_law ["_law_script"] []
  mg_law : mg "law" = some (.ref t.f_law)
  mg_BadSize : mg "BadSize" = some (.ref t.a_BadSize)
  mg_BadBit : mg "BadBit" = some (.ref t.a_BadBit)
  mg_NoCell : mg "NoCell" = some (.ref t.a_NoCell)
  mg_NoLine : mg "NoLine" = some (.ref t.a_NoLine)
  mg_NoStep : mg "NoStep" = some (.ref t.a_NoStep)
  mg_Known : mg "Known" = some (.ref t.a_Known)
  mg_NoFact : mg "NoFact" = some (.ref t.a_NoFact)
  x_BadSize : PySem.W.excIn K t.a_BadSize [.type "ValueError", .type "Exception", .type "BaseException", .type "object"] "ValueError.__new__" = true
  x_BadBit : PySem.W.excIn K t.a_BadBit [.type "ValueError", .type "Exception", .type "BaseException", .type "object"] "ValueError.__new__" = true
  x_NoCell : PySem.W.excIn K t.a_NoCell [.type "ValueError", .type "Exception", .type "BaseException", .type "object"] "ValueError.__new__" = true
  x_NoLine : PySem.W.excIn K t.a_NoLine [.type "ValueError", .type "Exception", .type "BaseException", .type "object"] "ValueError.__new__" = true
  x_NoStep : PySem.W.excIn K t.a_NoStep [.type "ValueError", .type "Exception", .type "BaseException", .type "object"] "ValueError.__new__" = true
  x_Known : PySem.W.excIn K t.a_Known [.type "ValueError", .type "Exception", .type "BaseException", .type "object"] "ValueError.__new__" = true
  x_NoFact : PySem.W.excIn K t.a_NoFact [.type "ValueError", .type "Exception", .type "BaseException", .type "object"] "ValueError.__new__" = true
  mg_LONGEST_SIDE : mg "LONGEST_SIDE" = some (.int 40 t.tk_LONGEST_SIDE)
  no_isinstance : mg "isinstance" = none
  no_int : mg "int" = none
  no_bool : mg "bool" = none
  no_all : mg "all" = none
  no_len : mg "len" = none
  no_tuple : mg "tuple" = none
  no_list : mg "list" = none
  no_range : mg "range" = none
  no_abs : mg "abs" = none
  no_sum : mg "sum" = none
  no_min : mg "min" = none
  no_str : mg "str" = none
  no_zip : mg "zip" = none
  no_ValueError : mg "ValueError" = none
theorem txt_mk {K : PySem.W.Frag} {h : Heap} {mg : Str → Option Value} (X : K.In h) (G : h.Ns mainGlobals mg) {C_Board : Addr} {C_Cloth : Addr} {C_Finds : Addr} {f_isnumber : Addr} {od_isnumber an_isnumber : Option Addr} {sl_isnumber : Array (Option Value)} {oc_isnumber kV_isnumber dc_isnumber pm_isnumber cd_isnumber ct_isnumber : Value} {f_isbelow : Addr} {od_isbelow an_isbelow : Option Addr} {sl_isbelow : Array (Option Value)} {oc_isbelow kV_isbelow dc_isbelow pm_isbelow cd_isbelow ct_isbelow : Value} {f_isbit : Addr} {od_isbit an_isbit : Option Addr} {sl_isbit : Array (Option Value)} {oc_isbit kV_isbit dc_isbit pm_isbit cd_isbit ct_isbit : Value} {f_allbits : Addr} {od_allbits an_allbits : Option Addr} {sl_allbits : Array (Option Value)} {oc_allbits kV_allbits dc_allbits pm_allbits cd_allbits ct_allbits : Value} {f_isside : Addr} {od_isside an_isside : Option Addr} {sl_isside : Array (Option Value)} {oc_isside kV_isside dc_isside pm_isside cd_isside ct_isside : Value} {f_needcell : Addr} {od_needcell an_needcell : Option Addr} {sl_needcell : Array (Option Value)} {oc_needcell kV_needcell dc_needcell pm_needcell cd_needcell ct_needcell : Value} {f_BoardInit : Addr} {od_BoardInit an_BoardInit : Option Addr} {sl_BoardInit : Array (Option Value)} {oc_BoardInit kV_BoardInit dc_BoardInit pm_BoardInit cd_BoardInit ct_BoardInit : Value} {f_ClothInit : Addr} {od_ClothInit an_ClothInit : Option Addr} {sl_ClothInit : Array (Option Value)} {oc_ClothInit kV_ClothInit dc_ClothInit pm_ClothInit cd_ClothInit ct_ClothInit : Value} {f_Clothwide : Addr} {od_Clothwide an_Clothwide : Option Addr} {sl_Clothwide : Array (Option Value)} {oc_Clothwide kV_Clothwide dc_Clothwide pm_Clothwide cd_Clothwide ct_Clothwide : Value} {f_Clothtall : Addr} {od_Clothtall an_Clothtall : Option Addr} {sl_Clothtall : Array (Option Value)} {oc_Clothtall kV_Clothtall dc_Clothtall pm_Clothtall cd_Clothtall ct_Clothtall : Value} {f_Clothbitsalong : Addr} {od_Clothbitsalong an_Clothbitsalong : Option Addr} {sl_Clothbitsalong : Array (Option Value)} {oc_Clothbitsalong kV_Clothbitsalong dc_Clothbitsalong pm_Clothbitsalong cd_Clothbitsalong ct_Clothbitsalong : Value} {f_Clothbit : Addr} {od_Clothbit an_Clothbit : Option Addr} {sl_Clothbit : Array (Option Value)} {oc_Clothbit kV_Clothbit dc_Clothbit pm_Clothbit cd_Clothbit ct_Clothbit : Value} {f_Clothstitched : Addr} {od_Clothstitched an_Clothstitched : Option Addr} {sl_Clothstitched : Array (Option Value)} {oc_Clothstitched kV_Clothstitched dc_Clothstitched pm_Clothstitched cd_Clothstitched ct_Clothstitched : Value} {f_Clothcolour : Addr} {od_Clothcolour an_Clothcolour : Option Addr} {sl_Clothcolour : Array (Option Value)} {oc_Clothcolour kV_Clothcolour dc_Clothcolour pm_Clothcolour cd_Clothcolour ct_Clothcolour : Value} {f_shows : Addr} {od_shows an_shows : Option Addr} {sl_shows : Array (Option Value)} {oc_shows kV_shows dc_shows pm_shows cd_shows ct_shows : Value} {f_cellstrips : Addr} {od_cellstrips an_cellstrips : Option Addr} {sl_cellstrips : Array (Option Value)} {oc_cellstrips kV_cellstrips dc_cellstrips pm_cellstrips cd_cellstrips ct_cellstrips : Value} {f_linestrips : Addr} {od_linestrips an_linestrips : Option Addr} {sl_linestrips : Array (Option Value)} {oc_linestrips kV_linestrips dc_linestrips pm_linestrips cd_linestrips ct_linestrips : Value} {f_factstrips : Addr} {od_factstrips an_factstrips : Option Addr} {sl_factstrips : Array (Option Value)} {oc_factstrips kV_factstrips dc_factstrips pm_factstrips cd_factstrips ct_factstrips : Value} {f_factweight : Addr} {od_factweight an_factweight : Option Addr} {sl_factweight : Array (Option Value)} {oc_factweight kV_factweight dc_factweight pm_factweight cd_factweight ct_factweight : Value} {f_lonegroups : Addr} {od_lonegroups an_lonegroups : Option Addr} {sl_lonegroups : Array (Option Value)} {oc_lonegroups kV_lonegroups dc_lonegroups pm_lonegroups cd_lonegroups ct_lonegroups : Value} {f_weightbetween : Addr} {od_weightbetween an_weightbetween : Option Addr} {sl_weightbetween : Array (Option Value)} {oc_weightbetween kV_weightbetween dc_weightbetween pm_weightbetween cd_weightbetween ct_weightbetween : Value} {f_tie : Addr} {od_tie an_tie : Option Addr} {sl_tie : Array (Option Value)} {oc_tie kV_tie dc_tie pm_tie cd_tie ct_tie : Value} {f_groupsof : Addr} {od_groupsof an_groupsof : Option Addr} {sl_groupsof : Array (Option Value)} {oc_groupsof kV_groupsof dc_groupsof pm_groupsof cd_groupsof ct_groupsof : Value} {f_FindsInit : Addr} {od_FindsInit an_FindsInit : Option Addr} {sl_FindsInit : Array (Option Value)} {oc_FindsInit kV_FindsInit dc_FindsInit pm_FindsInit cd_FindsInit ct_FindsInit : Value} {f_Findswide : Addr} {od_Findswide an_Findswide : Option Addr} {sl_Findswide : Array (Option Value)} {oc_Findswide kV_Findswide dc_Findswide pm_Findswide cd_Findswide ct_Findswide : Value} {f_Findstall : Addr} {od_Findstall an_Findstall : Option Addr} {sl_Findstall : Array (Option Value)} {oc_Findstall kV_Findstall dc_Findstall pm_Findstall cd_Findstall ct_Findstall : Value} {f_Findsneedline : Addr} {od_Findsneedline an_Findsneedline : Option Addr} {sl_Findsneedline : Array (Option Value)} {oc_Findsneedline kV_Findsneedline dc_Findsneedline pm_Findsneedline cd_Findsneedline ct_Findsneedline : Value} {f_Findsneedfact : Addr} {od_Findsneedfact an_Findsneedfact : Option Addr} {sl_Findsneedfact : Array (Option Value)} {oc_Findsneedfact kV_Findsneedfact dc_Findsneedfact pm_Findsneedfact cd_Findsneedfact ct_Findsneedfact : Value} {f_Findsnote : Addr} {od_Findsnote an_Findsnote : Option Addr} {sl_Findsnote : Array (Option Value)} {oc_Findsnote kV_Findsnote dc_Findsnote pm_Findsnote cd_Findsnote ct_Findsnote : Value} {f_Findswithdraw : Addr} {od_Findswithdraw an_Findswithdraw : Option Addr} {sl_Findswithdraw : Array (Option Value)} {oc_Findswithdraw kV_Findswithdraw dc_Findswithdraw pm_Findswithdraw cd_Findswithdraw ct_Findswithdraw : Value} {f_Findsfits : Addr} {od_Findsfits an_Findsfits : Option Addr} {sl_Findsfits : Array (Option Value)} {oc_Findsfits kV_Findsfits dc_Findsfits pm_Findsfits cd_Findsfits ct_Findsfits : Value} {f_Ldraws : Addr} {od_Ldraws an_Ldraws : Option Addr} {sl_Ldraws : Array (Option Value)} {oc_Ldraws kV_Ldraws dc_Ldraws pm_Ldraws cd_Ldraws ct_Ldraws : Value} {f_Lbits : Addr} {od_Lbits an_Lbits : Option Addr} {sl_Lbits : Array (Option Value)} {oc_Lbits kV_Lbits dc_Lbits pm_Lbits cd_Lbits ct_Lbits : Value} {f_Lrow : Addr} {od_Lrow an_Lrow : Option Addr} {sl_Lrow : Array (Option Value)} {oc_Lrow kV_Lrow dc_Lrow pm_Lrow cd_Lrow ct_Lrow : Value} {f_Lsmall : Addr} {od_Lsmall an_Lsmall : Option Addr} {sl_Lsmall : Array (Option Value)} {oc_Lsmall kV_Lsmall dc_Lsmall pm_Lsmall cd_Lsmall ct_Lsmall : Value} {f_Lmade : Addr} {od_Lmade an_Lmade : Option Addr} {sl_Lmade : Array (Option Value)} {oc_Lmade kV_Lmade dc_Lmade pm_Lmade cd_Lmade ct_Lmade : Value} {f_Lvalue : Addr} {od_Lvalue an_Lvalue : Option Addr} {sl_Lvalue : Array (Option Value)} {oc_Lvalue kV_Lvalue dc_Lvalue pm_Lvalue cd_Lvalue ct_Lvalue : Value} {f_Lsewn : Addr} {od_Lsewn an_Lsewn : Option Addr} {sl_Lsewn : Array (Option Value)} {oc_Lsewn kV_Lsewn dc_Lsewn pm_Lsewn cd_Lsewn ct_Lsewn : Value} {f_Lfact : Addr} {od_Lfact an_Lfact : Option Addr} {sl_Lfact : Array (Option Value)} {oc_Lfact kV_Lfact dc_Lfact pm_Lfact cd_Lfact ct_Lfact : Value} {f_Lfilled : Addr} {od_Lfilled an_Lfilled : Option Addr} {sl_Lfilled : Array (Option Value)} {oc_Lfilled kV_Lfilled dc_Lfilled pm_Lfilled cd_Lfilled ct_Lfilled : Value} {f_Lsame : Addr} {od_Lsame an_Lsame : Option Addr} {sl_Lsame : Array (Option Value)} {oc_Lsame kV_Lsame dc_Lsame pm_Lsame cd_Lsame ct_Lsame : Value} {f_Lfalse : Addr} {od_Lfalse an_Lfalse : Option Addr} {sl_Lfalse : Array (Option Value)} {oc_Lfalse kV_Lfalse dc_Lfalse pm_Lfalse cd_Lfalse ct_Lfalse : Value} {f_Lholds : Addr} {od_Lholds an_Lholds : Option Addr} {sl_Lholds : Array (Option Value)} {oc_Lholds kV_Lholds dc_Lholds pm_Lholds cd_Lholds ct_Lholds : Value} {f_Lothers : Addr} {od_Lothers an_Lothers : Option Addr} {sl_Lothers : Array (Option Value)} {oc_Lothers kV_Lothers dc_Lothers pm_Lothers cd_Lothers ct_Lothers : Value} {f_law : Addr} {od_law an_law : Option Addr} {sl_law : Array (Option Value)} {oc_law kV_law dc_law pm_law cd_law ct_law : Value} {C_BadSize : Addr} {C_BadBit : Addr} {C_NoCell : Addr} {C_NoLine : Addr} {C_NoStep : Addr} {C_Known : Addr} {C_NoFact : Addr} {tk_LONGEST_SIDE : Tok}
    (aC_Board : PySem.W.nsIn K mainGlobals "Board" = some (some (.ref C_Board)))
    (ga_Board : PySem.W.specialIn K (.ref C_Board) "__getattribute__" = some (some (.builtin "type.__getattribute__")))
    (rd_Board : PySem.W.readsIn K C_Board (.type "type") = true)
    (aC_Cloth : PySem.W.nsIn K mainGlobals "Cloth" = some (some (.ref C_Cloth)))
    (pg_Cloth : PySem.W.plainGet K C_Cloth Str.empty = true)
    (hd_Cloth : PySem.W.hasDictIn K C_Cloth = true)
    (po_Cloth : PySem.W.plainOver K C_Cloth = true)
    (sa_Cloth : PySem.W.findIn K (.ref C_Cloth) "__setattr__" = some (some (.builtin "object.__setattr__")))
    (mk_Cloth : PySem.W.makesIn K C_Cloth = true)
    (kc_Cloth : PySem.W.keepIn K (.ref C_Cloth) = true)
    (na_columns_count : PySem.W.findIn K (.ref C_Cloth) "columns_count" = some none)
    (na_rows_count : PySem.W.findIn K (.ref C_Cloth) "rows_count" = some none)
    (na_col_bits : PySem.W.findIn K (.ref C_Cloth) "col_bits" = some none)
    (na_row_bits : PySem.W.findIn K (.ref C_Cloth) "row_bits" = some none)
    (na_first_colour : PySem.W.findIn K (.ref C_Cloth) "first_colour" = some none)
    (aC_Finds : PySem.W.nsIn K mainGlobals "Finds" = some (some (.ref C_Finds)))
    (pg_Finds : PySem.W.plainGet K C_Finds Str.empty = true)
    (hd_Finds : PySem.W.hasDictIn K C_Finds = true)
    (po_Finds : PySem.W.plainOver K C_Finds = true)
    (sa_Finds : PySem.W.findIn K (.ref C_Finds) "__setattr__" = some (some (.builtin "object.__setattr__")))
    (mk_Finds : PySem.W.makesIn K C_Finds = true)
    (kc_Finds : PySem.W.keepIn K (.ref C_Finds) = true)
    (naF_columns_count : PySem.W.findIn K (.ref C_Finds) "columns_count" = some none)
    (naF_rows_count : PySem.W.findIn K (.ref C_Finds) "rows_count" = some none)
    (naF_facts : PySem.W.findIn K (.ref C_Finds) "facts" = some none)
    (naF_next_number : PySem.W.findIn K (.ref C_Finds) "next_number" = some none)
    (naF_groups : PySem.W.findIn K (.ref C_Finds) "groups" = some none)
    (a_isnumber : PySem.W.nsIn K mainGlobals "is_number" = some (some (.ref f_isnumber)))
    (l_isnumber : K.lookup f_isnumber = some ⟨oc_isnumber, od_isnumber, .func (PySem.W.fnOf "is_number" "is_number" (defArgs s_isnumber) (defBody s_isnumber) (defScope s_isnumber) .none kV_isnumber dc_isnumber pm_isnumber an_isnumber cd_isnumber ct_isnumber), sl_isnumber⟩)
    (c_isnumber : PySem.W.codeIn K cd_isnumber "is_number" = true)
    (k_isnumber : PySem.W.keepIn K (.ref f_isnumber) = true)
    (a_isbelow : PySem.W.nsIn K mainGlobals "is_below" = some (some (.ref f_isbelow)))
    (l_isbelow : K.lookup f_isbelow = some ⟨oc_isbelow, od_isbelow, .func (PySem.W.fnOf "is_below" "is_below" (defArgs s_isbelow) (defBody s_isbelow) (defScope s_isbelow) .none kV_isbelow dc_isbelow pm_isbelow an_isbelow cd_isbelow ct_isbelow), sl_isbelow⟩)
    (c_isbelow : PySem.W.codeIn K cd_isbelow "is_below" = true)
    (k_isbelow : PySem.W.keepIn K (.ref f_isbelow) = true)
    (a_isbit : PySem.W.nsIn K mainGlobals "is_bit" = some (some (.ref f_isbit)))
    (l_isbit : K.lookup f_isbit = some ⟨oc_isbit, od_isbit, .func (PySem.W.fnOf "is_bit" "is_bit" (defArgs s_isbit) (defBody s_isbit) (defScope s_isbit) .none kV_isbit dc_isbit pm_isbit an_isbit cd_isbit ct_isbit), sl_isbit⟩)
    (c_isbit : PySem.W.codeIn K cd_isbit "is_bit" = true)
    (k_isbit : PySem.W.keepIn K (.ref f_isbit) = true)
    (a_allbits : PySem.W.nsIn K mainGlobals "all_bits" = some (some (.ref f_allbits)))
    (l_allbits : K.lookup f_allbits = some ⟨oc_allbits, od_allbits, .func (PySem.W.fnOf "all_bits" "all_bits" (defArgs s_allbits) (defBody s_allbits) (defScope s_allbits) .none kV_allbits dc_allbits pm_allbits an_allbits cd_allbits ct_allbits), sl_allbits⟩)
    (c_allbits : PySem.W.codeIn K cd_allbits "all_bits" = true)
    (k_allbits : PySem.W.keepIn K (.ref f_allbits) = true)
    (a_isside : PySem.W.nsIn K mainGlobals "is_side" = some (some (.ref f_isside)))
    (l_isside : K.lookup f_isside = some ⟨oc_isside, od_isside, .func (PySem.W.fnOf "is_side" "is_side" (defArgs s_isside) (defBody s_isside) (defScope s_isside) .none kV_isside dc_isside pm_isside an_isside cd_isside ct_isside), sl_isside⟩)
    (c_isside : PySem.W.codeIn K cd_isside "is_side" = true)
    (k_isside : PySem.W.keepIn K (.ref f_isside) = true)
    (a_needcell : PySem.W.nsIn K mainGlobals "need_cell" = some (some (.ref f_needcell)))
    (l_needcell : K.lookup f_needcell = some ⟨oc_needcell, od_needcell, .func (PySem.W.fnOf "need_cell" "need_cell" (defArgs s_needcell) (defBody s_needcell) (defScope s_needcell) .none kV_needcell dc_needcell pm_needcell an_needcell cd_needcell ct_needcell), sl_needcell⟩)
    (c_needcell : PySem.W.codeIn K cd_needcell "need_cell" = true)
    (k_needcell : PySem.W.keepIn K (.ref f_needcell) = true)
    (fc_BoardInit : PySem.W.findCls K (.ref C_Board) (.type "type") "__init__" = some (.val (.ref f_BoardInit)))
    (l_BoardInit : K.lookup f_BoardInit = some ⟨oc_BoardInit, od_BoardInit, .func (PySem.W.fnOf "__init__" "Board.__init__" (defArgs s_BoardInit) (defBody s_BoardInit) (defScope s_BoardInit) .none kV_BoardInit dc_BoardInit pm_BoardInit an_BoardInit cd_BoardInit ct_BoardInit), sl_BoardInit⟩)
    (c_BoardInit : PySem.W.codeIn K cd_BoardInit "Board.__init__" = true)
    (k_BoardInit : PySem.W.keepIn K (.ref f_BoardInit) = true)
    (a_ClothInit : PySem.W.findIn K (.ref C_Cloth) "__init__" = some (some (.ref f_ClothInit)))
    (i_ClothInit : PySem.W.isFn K (.ref f_ClothInit) = true)
    (l_ClothInit : K.lookup f_ClothInit = some ⟨oc_ClothInit, od_ClothInit, .func (PySem.W.fnOf "__init__" "Cloth.__init__" (defArgs s_ClothInit) (defBody s_ClothInit) (defScope s_ClothInit) .none kV_ClothInit dc_ClothInit pm_ClothInit an_ClothInit cd_ClothInit ct_ClothInit), sl_ClothInit⟩)
    (c_ClothInit : PySem.W.codeIn K cd_ClothInit "Cloth.__init__" = true)
    (k_ClothInit : PySem.W.keepIn K (.ref f_ClothInit) = true)
    (a_Clothwide : PySem.W.findIn K (.ref C_Cloth) "wide" = some (some (.ref f_Clothwide)))
    (i_Clothwide : PySem.W.isFn K (.ref f_Clothwide) = true)
    (l_Clothwide : K.lookup f_Clothwide = some ⟨oc_Clothwide, od_Clothwide, .func (PySem.W.fnOf "wide" "Board.wide" (defArgs s_Clothwide) (defBody s_Clothwide) (defScope s_Clothwide) .none kV_Clothwide dc_Clothwide pm_Clothwide an_Clothwide cd_Clothwide ct_Clothwide), sl_Clothwide⟩)
    (c_Clothwide : PySem.W.codeIn K cd_Clothwide "Board.wide" = true)
    (k_Clothwide : PySem.W.keepIn K (.ref f_Clothwide) = true)
    (a_Clothtall : PySem.W.findIn K (.ref C_Cloth) "tall" = some (some (.ref f_Clothtall)))
    (i_Clothtall : PySem.W.isFn K (.ref f_Clothtall) = true)
    (l_Clothtall : K.lookup f_Clothtall = some ⟨oc_Clothtall, od_Clothtall, .func (PySem.W.fnOf "tall" "Board.tall" (defArgs s_Clothtall) (defBody s_Clothtall) (defScope s_Clothtall) .none kV_Clothtall dc_Clothtall pm_Clothtall an_Clothtall cd_Clothtall ct_Clothtall), sl_Clothtall⟩)
    (c_Clothtall : PySem.W.codeIn K cd_Clothtall "Board.tall" = true)
    (k_Clothtall : PySem.W.keepIn K (.ref f_Clothtall) = true)
    (a_Clothbitsalong : PySem.W.findIn K (.ref C_Cloth) "bits_along" = some (some (.ref f_Clothbitsalong)))
    (i_Clothbitsalong : PySem.W.isFn K (.ref f_Clothbitsalong) = true)
    (l_Clothbitsalong : K.lookup f_Clothbitsalong = some ⟨oc_Clothbitsalong, od_Clothbitsalong, .func (PySem.W.fnOf "bits_along" "Board.bits_along" (defArgs s_Clothbitsalong) (defBody s_Clothbitsalong) (defScope s_Clothbitsalong) .none kV_Clothbitsalong dc_Clothbitsalong pm_Clothbitsalong an_Clothbitsalong cd_Clothbitsalong ct_Clothbitsalong), sl_Clothbitsalong⟩)
    (c_Clothbitsalong : PySem.W.codeIn K cd_Clothbitsalong "Board.bits_along" = true)
    (k_Clothbitsalong : PySem.W.keepIn K (.ref f_Clothbitsalong) = true)
    (a_Clothbit : PySem.W.findIn K (.ref C_Cloth) "bit" = some (some (.ref f_Clothbit)))
    (i_Clothbit : PySem.W.isFn K (.ref f_Clothbit) = true)
    (l_Clothbit : K.lookup f_Clothbit = some ⟨oc_Clothbit, od_Clothbit, .func (PySem.W.fnOf "bit" "Board.bit" (defArgs s_Clothbit) (defBody s_Clothbit) (defScope s_Clothbit) .none kV_Clothbit dc_Clothbit pm_Clothbit an_Clothbit cd_Clothbit ct_Clothbit), sl_Clothbit⟩)
    (c_Clothbit : PySem.W.codeIn K cd_Clothbit "Board.bit" = true)
    (k_Clothbit : PySem.W.keepIn K (.ref f_Clothbit) = true)
    (a_Clothstitched : PySem.W.findIn K (.ref C_Cloth) "stitched" = some (some (.ref f_Clothstitched)))
    (i_Clothstitched : PySem.W.isFn K (.ref f_Clothstitched) = true)
    (l_Clothstitched : K.lookup f_Clothstitched = some ⟨oc_Clothstitched, od_Clothstitched, .func (PySem.W.fnOf "stitched" "Board.stitched" (defArgs s_Clothstitched) (defBody s_Clothstitched) (defScope s_Clothstitched) .none kV_Clothstitched dc_Clothstitched pm_Clothstitched an_Clothstitched cd_Clothstitched ct_Clothstitched), sl_Clothstitched⟩)
    (c_Clothstitched : PySem.W.codeIn K cd_Clothstitched "Board.stitched" = true)
    (k_Clothstitched : PySem.W.keepIn K (.ref f_Clothstitched) = true)
    (a_Clothcolour : PySem.W.findIn K (.ref C_Cloth) "colour" = some (some (.ref f_Clothcolour)))
    (i_Clothcolour : PySem.W.isFn K (.ref f_Clothcolour) = true)
    (l_Clothcolour : K.lookup f_Clothcolour = some ⟨oc_Clothcolour, od_Clothcolour, .func (PySem.W.fnOf "colour" "Cloth.colour" (defArgs s_Clothcolour) (defBody s_Clothcolour) (defScope s_Clothcolour) .none kV_Clothcolour dc_Clothcolour pm_Clothcolour an_Clothcolour cd_Clothcolour ct_Clothcolour), sl_Clothcolour⟩)
    (c_Clothcolour : PySem.W.codeIn K cd_Clothcolour "Cloth.colour" = true)
    (k_Clothcolour : PySem.W.keepIn K (.ref f_Clothcolour) = true)
    (a_shows : PySem.W.nsIn K mainGlobals "shows" = some (some (.ref f_shows)))
    (l_shows : K.lookup f_shows = some ⟨oc_shows, od_shows, .func (PySem.W.fnOf "shows" "shows" (defArgs s_shows) (defBody s_shows) (defScope s_shows) .none kV_shows dc_shows pm_shows an_shows cd_shows ct_shows), sl_shows⟩)
    (c_shows : PySem.W.codeIn K cd_shows "shows" = true)
    (k_shows : PySem.W.keepIn K (.ref f_shows) = true)
    (a_cellstrips : PySem.W.nsIn K mainGlobals "cell_strips" = some (some (.ref f_cellstrips)))
    (l_cellstrips : K.lookup f_cellstrips = some ⟨oc_cellstrips, od_cellstrips, .func (PySem.W.fnOf "cell_strips" "cell_strips" (defArgs s_cellstrips) (defBody s_cellstrips) (defScope s_cellstrips) .none kV_cellstrips dc_cellstrips pm_cellstrips an_cellstrips cd_cellstrips ct_cellstrips), sl_cellstrips⟩)
    (c_cellstrips : PySem.W.codeIn K cd_cellstrips "cell_strips" = true)
    (k_cellstrips : PySem.W.keepIn K (.ref f_cellstrips) = true)
    (a_linestrips : PySem.W.nsIn K mainGlobals "line_strips" = some (some (.ref f_linestrips)))
    (l_linestrips : K.lookup f_linestrips = some ⟨oc_linestrips, od_linestrips, .func (PySem.W.fnOf "line_strips" "line_strips" (defArgs s_linestrips) (defBody s_linestrips) (defScope s_linestrips) .none kV_linestrips dc_linestrips pm_linestrips an_linestrips cd_linestrips ct_linestrips), sl_linestrips⟩)
    (c_linestrips : PySem.W.codeIn K cd_linestrips "line_strips" = true)
    (k_linestrips : PySem.W.keepIn K (.ref f_linestrips) = true)
    (a_factstrips : PySem.W.nsIn K mainGlobals "fact_strips" = some (some (.ref f_factstrips)))
    (l_factstrips : K.lookup f_factstrips = some ⟨oc_factstrips, od_factstrips, .func (PySem.W.fnOf "fact_strips" "fact_strips" (defArgs s_factstrips) (defBody s_factstrips) (defScope s_factstrips) .none kV_factstrips dc_factstrips pm_factstrips an_factstrips cd_factstrips ct_factstrips), sl_factstrips⟩)
    (c_factstrips : PySem.W.codeIn K cd_factstrips "fact_strips" = true)
    (k_factstrips : PySem.W.keepIn K (.ref f_factstrips) = true)
    (a_factweight : PySem.W.nsIn K mainGlobals "fact_weight" = some (some (.ref f_factweight)))
    (l_factweight : K.lookup f_factweight = some ⟨oc_factweight, od_factweight, .func (PySem.W.fnOf "fact_weight" "fact_weight" (defArgs s_factweight) (defBody s_factweight) (defScope s_factweight) .none kV_factweight dc_factweight pm_factweight an_factweight cd_factweight ct_factweight), sl_factweight⟩)
    (c_factweight : PySem.W.codeIn K cd_factweight "fact_weight" = true)
    (k_factweight : PySem.W.keepIn K (.ref f_factweight) = true)
    (a_lonegroups : PySem.W.nsIn K mainGlobals "lone_groups" = some (some (.ref f_lonegroups)))
    (l_lonegroups : K.lookup f_lonegroups = some ⟨oc_lonegroups, od_lonegroups, .func (PySem.W.fnOf "lone_groups" "lone_groups" (defArgs s_lonegroups) (defBody s_lonegroups) (defScope s_lonegroups) .none kV_lonegroups dc_lonegroups pm_lonegroups an_lonegroups cd_lonegroups ct_lonegroups), sl_lonegroups⟩)
    (c_lonegroups : PySem.W.codeIn K cd_lonegroups "lone_groups" = true)
    (k_lonegroups : PySem.W.keepIn K (.ref f_lonegroups) = true)
    (a_weightbetween : PySem.W.nsIn K mainGlobals "weight_between" = some (some (.ref f_weightbetween)))
    (l_weightbetween : K.lookup f_weightbetween = some ⟨oc_weightbetween, od_weightbetween, .func (PySem.W.fnOf "weight_between" "weight_between" (defArgs s_weightbetween) (defBody s_weightbetween) (defScope s_weightbetween) .none kV_weightbetween dc_weightbetween pm_weightbetween an_weightbetween cd_weightbetween ct_weightbetween), sl_weightbetween⟩)
    (c_weightbetween : PySem.W.codeIn K cd_weightbetween "weight_between" = true)
    (k_weightbetween : PySem.W.keepIn K (.ref f_weightbetween) = true)
    (a_tie : PySem.W.nsIn K mainGlobals "tie" = some (some (.ref f_tie)))
    (l_tie : K.lookup f_tie = some ⟨oc_tie, od_tie, .func (PySem.W.fnOf "tie" "tie" (defArgs s_tie) (defBody s_tie) (defScope s_tie) .none kV_tie dc_tie pm_tie an_tie cd_tie ct_tie), sl_tie⟩)
    (c_tie : PySem.W.codeIn K cd_tie "tie" = true)
    (k_tie : PySem.W.keepIn K (.ref f_tie) = true)
    (a_groupsof : PySem.W.nsIn K mainGlobals "groups_of" = some (some (.ref f_groupsof)))
    (l_groupsof : K.lookup f_groupsof = some ⟨oc_groupsof, od_groupsof, .func (PySem.W.fnOf "groups_of" "groups_of" (defArgs s_groupsof) (defBody s_groupsof) (defScope s_groupsof) .none kV_groupsof dc_groupsof pm_groupsof an_groupsof cd_groupsof ct_groupsof), sl_groupsof⟩)
    (c_groupsof : PySem.W.codeIn K cd_groupsof "groups_of" = true)
    (k_groupsof : PySem.W.keepIn K (.ref f_groupsof) = true)
    (a_FindsInit : PySem.W.findIn K (.ref C_Finds) "__init__" = some (some (.ref f_FindsInit)))
    (i_FindsInit : PySem.W.isFn K (.ref f_FindsInit) = true)
    (l_FindsInit : K.lookup f_FindsInit = some ⟨oc_FindsInit, od_FindsInit, .func (PySem.W.fnOf "__init__" "Finds.__init__" (defArgs s_FindsInit) (defBody s_FindsInit) (defScope s_FindsInit) .none kV_FindsInit dc_FindsInit pm_FindsInit an_FindsInit cd_FindsInit ct_FindsInit), sl_FindsInit⟩)
    (c_FindsInit : PySem.W.codeIn K cd_FindsInit "Finds.__init__" = true)
    (k_FindsInit : PySem.W.keepIn K (.ref f_FindsInit) = true)
    (a_Findswide : PySem.W.findIn K (.ref C_Finds) "wide" = some (some (.ref f_Findswide)))
    (i_Findswide : PySem.W.isFn K (.ref f_Findswide) = true)
    (l_Findswide : K.lookup f_Findswide = some ⟨oc_Findswide, od_Findswide, .func (PySem.W.fnOf "wide" "Finds.wide" (defArgs s_Findswide) (defBody s_Findswide) (defScope s_Findswide) .none kV_Findswide dc_Findswide pm_Findswide an_Findswide cd_Findswide ct_Findswide), sl_Findswide⟩)
    (c_Findswide : PySem.W.codeIn K cd_Findswide "Finds.wide" = true)
    (k_Findswide : PySem.W.keepIn K (.ref f_Findswide) = true)
    (a_Findstall : PySem.W.findIn K (.ref C_Finds) "tall" = some (some (.ref f_Findstall)))
    (i_Findstall : PySem.W.isFn K (.ref f_Findstall) = true)
    (l_Findstall : K.lookup f_Findstall = some ⟨oc_Findstall, od_Findstall, .func (PySem.W.fnOf "tall" "Finds.tall" (defArgs s_Findstall) (defBody s_Findstall) (defScope s_Findstall) .none kV_Findstall dc_Findstall pm_Findstall an_Findstall cd_Findstall ct_Findstall), sl_Findstall⟩)
    (c_Findstall : PySem.W.codeIn K cd_Findstall "Finds.tall" = true)
    (k_Findstall : PySem.W.keepIn K (.ref f_Findstall) = true)
    (a_Findsneedline : PySem.W.findIn K (.ref C_Finds) "need_line" = some (some (.ref f_Findsneedline)))
    (i_Findsneedline : PySem.W.isFn K (.ref f_Findsneedline) = true)
    (l_Findsneedline : K.lookup f_Findsneedline = some ⟨oc_Findsneedline, od_Findsneedline, .func (PySem.W.fnOf "need_line" "Finds.need_line" (defArgs s_Findsneedline) (defBody s_Findsneedline) (defScope s_Findsneedline) .none kV_Findsneedline dc_Findsneedline pm_Findsneedline an_Findsneedline cd_Findsneedline ct_Findsneedline), sl_Findsneedline⟩)
    (c_Findsneedline : PySem.W.codeIn K cd_Findsneedline "Finds.need_line" = true)
    (k_Findsneedline : PySem.W.keepIn K (.ref f_Findsneedline) = true)
    (a_Findsneedfact : PySem.W.findIn K (.ref C_Finds) "need_fact" = some (some (.ref f_Findsneedfact)))
    (i_Findsneedfact : PySem.W.isFn K (.ref f_Findsneedfact) = true)
    (l_Findsneedfact : K.lookup f_Findsneedfact = some ⟨oc_Findsneedfact, od_Findsneedfact, .func (PySem.W.fnOf "need_fact" "Finds.need_fact" (defArgs s_Findsneedfact) (defBody s_Findsneedfact) (defScope s_Findsneedfact) .none kV_Findsneedfact dc_Findsneedfact pm_Findsneedfact an_Findsneedfact cd_Findsneedfact ct_Findsneedfact), sl_Findsneedfact⟩)
    (c_Findsneedfact : PySem.W.codeIn K cd_Findsneedfact "Finds.need_fact" = true)
    (k_Findsneedfact : PySem.W.keepIn K (.ref f_Findsneedfact) = true)
    (a_Findsnote : PySem.W.findIn K (.ref C_Finds) "note" = some (some (.ref f_Findsnote)))
    (i_Findsnote : PySem.W.isFn K (.ref f_Findsnote) = true)
    (l_Findsnote : K.lookup f_Findsnote = some ⟨oc_Findsnote, od_Findsnote, .func (PySem.W.fnOf "note" "Finds.note" (defArgs s_Findsnote) (defBody s_Findsnote) (defScope s_Findsnote) .none kV_Findsnote dc_Findsnote pm_Findsnote an_Findsnote cd_Findsnote ct_Findsnote), sl_Findsnote⟩)
    (c_Findsnote : PySem.W.codeIn K cd_Findsnote "Finds.note" = true)
    (k_Findsnote : PySem.W.keepIn K (.ref f_Findsnote) = true)
    (a_Findswithdraw : PySem.W.findIn K (.ref C_Finds) "withdraw" = some (some (.ref f_Findswithdraw)))
    (i_Findswithdraw : PySem.W.isFn K (.ref f_Findswithdraw) = true)
    (l_Findswithdraw : K.lookup f_Findswithdraw = some ⟨oc_Findswithdraw, od_Findswithdraw, .func (PySem.W.fnOf "withdraw" "Finds.withdraw" (defArgs s_Findswithdraw) (defBody s_Findswithdraw) (defScope s_Findswithdraw) .none kV_Findswithdraw dc_Findswithdraw pm_Findswithdraw an_Findswithdraw cd_Findswithdraw ct_Findswithdraw), sl_Findswithdraw⟩)
    (c_Findswithdraw : PySem.W.codeIn K cd_Findswithdraw "Finds.withdraw" = true)
    (k_Findswithdraw : PySem.W.keepIn K (.ref f_Findswithdraw) = true)
    (a_Findsfits : PySem.W.findIn K (.ref C_Finds) "fits" = some (some (.ref f_Findsfits)))
    (i_Findsfits : PySem.W.isFn K (.ref f_Findsfits) = true)
    (l_Findsfits : K.lookup f_Findsfits = some ⟨oc_Findsfits, od_Findsfits, .func (PySem.W.fnOf "fits" "Finds.fits" (defArgs s_Findsfits) (defBody s_Findsfits) (defScope s_Findsfits) .none kV_Findsfits dc_Findsfits pm_Findsfits an_Findsfits cd_Findsfits ct_Findsfits), sl_Findsfits⟩)
    (c_Findsfits : PySem.W.codeIn K cd_Findsfits "Finds.fits" = true)
    (k_Findsfits : PySem.W.keepIn K (.ref f_Findsfits) = true)
    (a_Ldraws : PySem.W.nsIn K mainGlobals "_law_draws" = some (some (.ref f_Ldraws)))
    (l_Ldraws : K.lookup f_Ldraws = some ⟨oc_Ldraws, od_Ldraws, .func (PySem.W.fnOf "_law_draws" "_law_draws" (defArgs s_Ldraws) (defBody s_Ldraws) (defScope s_Ldraws) .none kV_Ldraws dc_Ldraws pm_Ldraws an_Ldraws cd_Ldraws ct_Ldraws), sl_Ldraws⟩)
    (c_Ldraws : PySem.W.codeIn K cd_Ldraws "_law_draws" = true)
    (k_Ldraws : PySem.W.keepIn K (.ref f_Ldraws) = true)
    (a_Lbits : PySem.W.nsIn K mainGlobals "_law_bits" = some (some (.ref f_Lbits)))
    (l_Lbits : K.lookup f_Lbits = some ⟨oc_Lbits, od_Lbits, .func (PySem.W.fnOf "_law_bits" "_law_bits" (defArgs s_Lbits) (defBody s_Lbits) (defScope s_Lbits) .none kV_Lbits dc_Lbits pm_Lbits an_Lbits cd_Lbits ct_Lbits), sl_Lbits⟩)
    (c_Lbits : PySem.W.codeIn K cd_Lbits "_law_bits" = true)
    (k_Lbits : PySem.W.keepIn K (.ref f_Lbits) = true)
    (a_Lrow : PySem.W.nsIn K mainGlobals "_law_row" = some (some (.ref f_Lrow)))
    (l_Lrow : K.lookup f_Lrow = some ⟨oc_Lrow, od_Lrow, .func (PySem.W.fnOf "_law_row" "_law_row" (defArgs s_Lrow) (defBody s_Lrow) (defScope s_Lrow) .none kV_Lrow dc_Lrow pm_Lrow an_Lrow cd_Lrow ct_Lrow), sl_Lrow⟩)
    (c_Lrow : PySem.W.codeIn K cd_Lrow "_law_row" = true)
    (k_Lrow : PySem.W.keepIn K (.ref f_Lrow) = true)
    (a_Lsmall : PySem.W.nsIn K mainGlobals "_law_small" = some (some (.ref f_Lsmall)))
    (l_Lsmall : K.lookup f_Lsmall = some ⟨oc_Lsmall, od_Lsmall, .func (PySem.W.fnOf "_law_small" "_law_small" (defArgs s_Lsmall) (defBody s_Lsmall) (defScope s_Lsmall) .none kV_Lsmall dc_Lsmall pm_Lsmall an_Lsmall cd_Lsmall ct_Lsmall), sl_Lsmall⟩)
    (c_Lsmall : PySem.W.codeIn K cd_Lsmall "_law_small" = true)
    (k_Lsmall : PySem.W.keepIn K (.ref f_Lsmall) = true)
    (a_Lmade : PySem.W.nsIn K mainGlobals "_law_made" = some (some (.ref f_Lmade)))
    (l_Lmade : K.lookup f_Lmade = some ⟨oc_Lmade, od_Lmade, .func (PySem.W.fnOf "_law_made" "_law_made" (defArgs s_Lmade) (defBody s_Lmade) (defScope s_Lmade) .none kV_Lmade dc_Lmade pm_Lmade an_Lmade cd_Lmade ct_Lmade), sl_Lmade⟩)
    (c_Lmade : PySem.W.codeIn K cd_Lmade "_law_made" = true)
    (k_Lmade : PySem.W.keepIn K (.ref f_Lmade) = true)
    (a_Lvalue : PySem.W.nsIn K mainGlobals "_law_value" = some (some (.ref f_Lvalue)))
    (l_Lvalue : K.lookup f_Lvalue = some ⟨oc_Lvalue, od_Lvalue, .func (PySem.W.fnOf "_law_value" "_law_value" (defArgs s_Lvalue) (defBody s_Lvalue) (defScope s_Lvalue) .none kV_Lvalue dc_Lvalue pm_Lvalue an_Lvalue cd_Lvalue ct_Lvalue), sl_Lvalue⟩)
    (c_Lvalue : PySem.W.codeIn K cd_Lvalue "_law_value" = true)
    (k_Lvalue : PySem.W.keepIn K (.ref f_Lvalue) = true)
    (a_Lsewn : PySem.W.nsIn K mainGlobals "_law_sewn" = some (some (.ref f_Lsewn)))
    (l_Lsewn : K.lookup f_Lsewn = some ⟨oc_Lsewn, od_Lsewn, .func (PySem.W.fnOf "_law_sewn" "_law_sewn" (defArgs s_Lsewn) (defBody s_Lsewn) (defScope s_Lsewn) .none kV_Lsewn dc_Lsewn pm_Lsewn an_Lsewn cd_Lsewn ct_Lsewn), sl_Lsewn⟩)
    (c_Lsewn : PySem.W.codeIn K cd_Lsewn "_law_sewn" = true)
    (k_Lsewn : PySem.W.keepIn K (.ref f_Lsewn) = true)
    (a_Lfact : PySem.W.nsIn K mainGlobals "_law_fact" = some (some (.ref f_Lfact)))
    (l_Lfact : K.lookup f_Lfact = some ⟨oc_Lfact, od_Lfact, .func (PySem.W.fnOf "_law_fact" "_law_fact" (defArgs s_Lfact) (defBody s_Lfact) (defScope s_Lfact) .none kV_Lfact dc_Lfact pm_Lfact an_Lfact cd_Lfact ct_Lfact), sl_Lfact⟩)
    (c_Lfact : PySem.W.codeIn K cd_Lfact "_law_fact" = true)
    (k_Lfact : PySem.W.keepIn K (.ref f_Lfact) = true)
    (a_Lfilled : PySem.W.nsIn K mainGlobals "_law_filled" = some (some (.ref f_Lfilled)))
    (l_Lfilled : K.lookup f_Lfilled = some ⟨oc_Lfilled, od_Lfilled, .func (PySem.W.fnOf "_law_filled" "_law_filled" (defArgs s_Lfilled) (defBody s_Lfilled) (defScope s_Lfilled) .none kV_Lfilled dc_Lfilled pm_Lfilled an_Lfilled cd_Lfilled ct_Lfilled), sl_Lfilled⟩)
    (c_Lfilled : PySem.W.codeIn K cd_Lfilled "_law_filled" = true)
    (k_Lfilled : PySem.W.keepIn K (.ref f_Lfilled) = true)
    (a_Lsame : PySem.W.nsIn K mainGlobals "_law_same" = some (some (.ref f_Lsame)))
    (l_Lsame : K.lookup f_Lsame = some ⟨oc_Lsame, od_Lsame, .func (PySem.W.fnOf "_law_same" "_law_same" (defArgs s_Lsame) (defBody s_Lsame) (defScope s_Lsame) .none kV_Lsame dc_Lsame pm_Lsame an_Lsame cd_Lsame ct_Lsame), sl_Lsame⟩)
    (c_Lsame : PySem.W.codeIn K cd_Lsame "_law_same" = true)
    (k_Lsame : PySem.W.keepIn K (.ref f_Lsame) = true)
    (a_Lfalse : PySem.W.nsIn K mainGlobals "_law_false" = some (some (.ref f_Lfalse)))
    (l_Lfalse : K.lookup f_Lfalse = some ⟨oc_Lfalse, od_Lfalse, .func (PySem.W.fnOf "_law_false" "_law_false" (defArgs s_Lfalse) (defBody s_Lfalse) (defScope s_Lfalse) .none kV_Lfalse dc_Lfalse pm_Lfalse an_Lfalse cd_Lfalse ct_Lfalse), sl_Lfalse⟩)
    (c_Lfalse : PySem.W.codeIn K cd_Lfalse "_law_false" = true)
    (k_Lfalse : PySem.W.keepIn K (.ref f_Lfalse) = true)
    (a_Lholds : PySem.W.nsIn K mainGlobals "_law_holds" = some (some (.ref f_Lholds)))
    (l_Lholds : K.lookup f_Lholds = some ⟨oc_Lholds, od_Lholds, .func (PySem.W.fnOf "_law_holds" "_law_holds" (defArgs s_Lholds) (defBody s_Lholds) (defScope s_Lholds) .none kV_Lholds dc_Lholds pm_Lholds an_Lholds cd_Lholds ct_Lholds), sl_Lholds⟩)
    (c_Lholds : PySem.W.codeIn K cd_Lholds "_law_holds" = true)
    (k_Lholds : PySem.W.keepIn K (.ref f_Lholds) = true)
    (a_Lothers : PySem.W.nsIn K mainGlobals "_law_others" = some (some (.ref f_Lothers)))
    (l_Lothers : K.lookup f_Lothers = some ⟨oc_Lothers, od_Lothers, .func (PySem.W.fnOf "_law_others" "_law_others" (defArgs s_Lothers) (defBody s_Lothers) (defScope s_Lothers) .none kV_Lothers dc_Lothers pm_Lothers an_Lothers cd_Lothers ct_Lothers), sl_Lothers⟩)
    (c_Lothers : PySem.W.codeIn K cd_Lothers "_law_others" = true)
    (k_Lothers : PySem.W.keepIn K (.ref f_Lothers) = true)
    (a_law : PySem.W.nsIn K mainGlobals "law" = some (some (.ref f_law)))
    (l_law : K.lookup f_law = some ⟨oc_law, od_law, .func (PySem.W.fnOf "law" "law" (defArgs s_law) (defBody s_law) (defScope s_law) .none kV_law dc_law pm_law an_law cd_law ct_law), sl_law⟩)
    (c_law : PySem.W.codeIn K cd_law "law" = true)
    (k_law : PySem.W.keepIn K (.ref f_law) = true)
    (aX_BadSize : PySem.W.nsIn K mainGlobals "BadSize" = some (some (.ref C_BadSize)))
    (aX_BadBit : PySem.W.nsIn K mainGlobals "BadBit" = some (some (.ref C_BadBit)))
    (aX_NoCell : PySem.W.nsIn K mainGlobals "NoCell" = some (some (.ref C_NoCell)))
    (aX_NoLine : PySem.W.nsIn K mainGlobals "NoLine" = some (some (.ref C_NoLine)))
    (aX_NoStep : PySem.W.nsIn K mainGlobals "NoStep" = some (some (.ref C_NoStep)))
    (aX_Known : PySem.W.nsIn K mainGlobals "Known" = some (some (.ref C_Known)))
    (aX_NoFact : PySem.W.nsIn K mainGlobals "NoFact" = some (some (.ref C_NoFact)))
    (x_BadSize : PySem.W.excIn K C_BadSize [.type "ValueError", .type "Exception", .type "BaseException", .type "object"] "ValueError.__new__" = true)
    (x_BadBit : PySem.W.excIn K C_BadBit [.type "ValueError", .type "Exception", .type "BaseException", .type "object"] "ValueError.__new__" = true)
    (x_NoCell : PySem.W.excIn K C_NoCell [.type "ValueError", .type "Exception", .type "BaseException", .type "object"] "ValueError.__new__" = true)
    (x_NoLine : PySem.W.excIn K C_NoLine [.type "ValueError", .type "Exception", .type "BaseException", .type "object"] "ValueError.__new__" = true)
    (x_NoStep : PySem.W.excIn K C_NoStep [.type "ValueError", .type "Exception", .type "BaseException", .type "object"] "ValueError.__new__" = true)
    (x_Known : PySem.W.excIn K C_Known [.type "ValueError", .type "Exception", .type "BaseException", .type "object"] "ValueError.__new__" = true)
    (x_NoFact : PySem.W.excIn K C_NoFact [.type "ValueError", .type "Exception", .type "BaseException", .type "object"] "ValueError.__new__" = true)
    (v_LONGEST_SIDE : PySem.W.nsIn K mainGlobals "LONGEST_SIDE" = some (some (.int 40 tk_LONGEST_SIDE)))
    (z_isinstance : PySem.W.nsIn K mainGlobals "isinstance" = some none)
    (z_int : PySem.W.nsIn K mainGlobals "int" = some none)
    (z_bool : PySem.W.nsIn K mainGlobals "bool" = some none)
    (z_all : PySem.W.nsIn K mainGlobals "all" = some none)
    (z_len : PySem.W.nsIn K mainGlobals "len" = some none)
    (z_tuple : PySem.W.nsIn K mainGlobals "tuple" = some none)
    (z_list : PySem.W.nsIn K mainGlobals "list" = some none)
    (z_range : PySem.W.nsIn K mainGlobals "range" = some none)
    (z_abs : PySem.W.nsIn K mainGlobals "abs" = some none)
    (z_sum : PySem.W.nsIn K mainGlobals "sum" = some none)
    (z_min : PySem.W.nsIn K mainGlobals "min" = some none)
    (z_str : PySem.W.nsIn K mainGlobals "str" = some none)
    (z_zip : PySem.W.nsIn K mainGlobals "zip" = some none)
    (z_ValueError : PySem.W.nsIn K mainGlobals "ValueError" = some none) : ∃ t : Ad, Txt K mg t ∧ (∀ (s : Shared) (v : Value), BindsTo s t.d_law ⟨[v], []⟩ [("_law_script", v)]) :=
  ⟨{ a_Board := C_Board, a_Cloth := C_Cloth, a_Finds := C_Finds, f_isnumber := f_isnumber, d_isnumber := PySem.W.fnOf "is_number" "is_number" (defArgs s_isnumber) (defBody s_isnumber) (defScope s_isnumber) .none kV_isnumber dc_isnumber pm_isnumber an_isnumber cd_isnumber ct_isnumber, f_isbelow := f_isbelow, d_isbelow := PySem.W.fnOf "is_below" "is_below" (defArgs s_isbelow) (defBody s_isbelow) (defScope s_isbelow) .none kV_isbelow dc_isbelow pm_isbelow an_isbelow cd_isbelow ct_isbelow, f_isbit := f_isbit, d_isbit := PySem.W.fnOf "is_bit" "is_bit" (defArgs s_isbit) (defBody s_isbit) (defScope s_isbit) .none kV_isbit dc_isbit pm_isbit an_isbit cd_isbit ct_isbit, f_allbits := f_allbits, d_allbits := PySem.W.fnOf "all_bits" "all_bits" (defArgs s_allbits) (defBody s_allbits) (defScope s_allbits) .none kV_allbits dc_allbits pm_allbits an_allbits cd_allbits ct_allbits, f_isside := f_isside, d_isside := PySem.W.fnOf "is_side" "is_side" (defArgs s_isside) (defBody s_isside) (defScope s_isside) .none kV_isside dc_isside pm_isside an_isside cd_isside ct_isside, f_needcell := f_needcell, d_needcell := PySem.W.fnOf "need_cell" "need_cell" (defArgs s_needcell) (defBody s_needcell) (defScope s_needcell) .none kV_needcell dc_needcell pm_needcell an_needcell cd_needcell ct_needcell, f_BoardInit := f_BoardInit, d_BoardInit := PySem.W.fnOf "__init__" "Board.__init__" (defArgs s_BoardInit) (defBody s_BoardInit) (defScope s_BoardInit) .none kV_BoardInit dc_BoardInit pm_BoardInit an_BoardInit cd_BoardInit ct_BoardInit, f_ClothInit := f_ClothInit, d_ClothInit := PySem.W.fnOf "__init__" "Cloth.__init__" (defArgs s_ClothInit) (defBody s_ClothInit) (defScope s_ClothInit) .none kV_ClothInit dc_ClothInit pm_ClothInit an_ClothInit cd_ClothInit ct_ClothInit, f_Clothwide := f_Clothwide, d_Clothwide := PySem.W.fnOf "wide" "Board.wide" (defArgs s_Clothwide) (defBody s_Clothwide) (defScope s_Clothwide) .none kV_Clothwide dc_Clothwide pm_Clothwide an_Clothwide cd_Clothwide ct_Clothwide, f_Clothtall := f_Clothtall, d_Clothtall := PySem.W.fnOf "tall" "Board.tall" (defArgs s_Clothtall) (defBody s_Clothtall) (defScope s_Clothtall) .none kV_Clothtall dc_Clothtall pm_Clothtall an_Clothtall cd_Clothtall ct_Clothtall, f_Clothbitsalong := f_Clothbitsalong, d_Clothbitsalong := PySem.W.fnOf "bits_along" "Board.bits_along" (defArgs s_Clothbitsalong) (defBody s_Clothbitsalong) (defScope s_Clothbitsalong) .none kV_Clothbitsalong dc_Clothbitsalong pm_Clothbitsalong an_Clothbitsalong cd_Clothbitsalong ct_Clothbitsalong, f_Clothbit := f_Clothbit, d_Clothbit := PySem.W.fnOf "bit" "Board.bit" (defArgs s_Clothbit) (defBody s_Clothbit) (defScope s_Clothbit) .none kV_Clothbit dc_Clothbit pm_Clothbit an_Clothbit cd_Clothbit ct_Clothbit, f_Clothstitched := f_Clothstitched, d_Clothstitched := PySem.W.fnOf "stitched" "Board.stitched" (defArgs s_Clothstitched) (defBody s_Clothstitched) (defScope s_Clothstitched) .none kV_Clothstitched dc_Clothstitched pm_Clothstitched an_Clothstitched cd_Clothstitched ct_Clothstitched, f_Clothcolour := f_Clothcolour, d_Clothcolour := PySem.W.fnOf "colour" "Cloth.colour" (defArgs s_Clothcolour) (defBody s_Clothcolour) (defScope s_Clothcolour) .none kV_Clothcolour dc_Clothcolour pm_Clothcolour an_Clothcolour cd_Clothcolour ct_Clothcolour, f_shows := f_shows, d_shows := PySem.W.fnOf "shows" "shows" (defArgs s_shows) (defBody s_shows) (defScope s_shows) .none kV_shows dc_shows pm_shows an_shows cd_shows ct_shows, f_cellstrips := f_cellstrips, d_cellstrips := PySem.W.fnOf "cell_strips" "cell_strips" (defArgs s_cellstrips) (defBody s_cellstrips) (defScope s_cellstrips) .none kV_cellstrips dc_cellstrips pm_cellstrips an_cellstrips cd_cellstrips ct_cellstrips, f_linestrips := f_linestrips, d_linestrips := PySem.W.fnOf "line_strips" "line_strips" (defArgs s_linestrips) (defBody s_linestrips) (defScope s_linestrips) .none kV_linestrips dc_linestrips pm_linestrips an_linestrips cd_linestrips ct_linestrips, f_factstrips := f_factstrips, d_factstrips := PySem.W.fnOf "fact_strips" "fact_strips" (defArgs s_factstrips) (defBody s_factstrips) (defScope s_factstrips) .none kV_factstrips dc_factstrips pm_factstrips an_factstrips cd_factstrips ct_factstrips, f_factweight := f_factweight, d_factweight := PySem.W.fnOf "fact_weight" "fact_weight" (defArgs s_factweight) (defBody s_factweight) (defScope s_factweight) .none kV_factweight dc_factweight pm_factweight an_factweight cd_factweight ct_factweight, f_lonegroups := f_lonegroups, d_lonegroups := PySem.W.fnOf "lone_groups" "lone_groups" (defArgs s_lonegroups) (defBody s_lonegroups) (defScope s_lonegroups) .none kV_lonegroups dc_lonegroups pm_lonegroups an_lonegroups cd_lonegroups ct_lonegroups, f_weightbetween := f_weightbetween, d_weightbetween := PySem.W.fnOf "weight_between" "weight_between" (defArgs s_weightbetween) (defBody s_weightbetween) (defScope s_weightbetween) .none kV_weightbetween dc_weightbetween pm_weightbetween an_weightbetween cd_weightbetween ct_weightbetween, f_tie := f_tie, d_tie := PySem.W.fnOf "tie" "tie" (defArgs s_tie) (defBody s_tie) (defScope s_tie) .none kV_tie dc_tie pm_tie an_tie cd_tie ct_tie, f_groupsof := f_groupsof, d_groupsof := PySem.W.fnOf "groups_of" "groups_of" (defArgs s_groupsof) (defBody s_groupsof) (defScope s_groupsof) .none kV_groupsof dc_groupsof pm_groupsof an_groupsof cd_groupsof ct_groupsof, f_FindsInit := f_FindsInit, d_FindsInit := PySem.W.fnOf "__init__" "Finds.__init__" (defArgs s_FindsInit) (defBody s_FindsInit) (defScope s_FindsInit) .none kV_FindsInit dc_FindsInit pm_FindsInit an_FindsInit cd_FindsInit ct_FindsInit, f_Findswide := f_Findswide, d_Findswide := PySem.W.fnOf "wide" "Finds.wide" (defArgs s_Findswide) (defBody s_Findswide) (defScope s_Findswide) .none kV_Findswide dc_Findswide pm_Findswide an_Findswide cd_Findswide ct_Findswide, f_Findstall := f_Findstall, d_Findstall := PySem.W.fnOf "tall" "Finds.tall" (defArgs s_Findstall) (defBody s_Findstall) (defScope s_Findstall) .none kV_Findstall dc_Findstall pm_Findstall an_Findstall cd_Findstall ct_Findstall, f_Findsneedline := f_Findsneedline, d_Findsneedline := PySem.W.fnOf "need_line" "Finds.need_line" (defArgs s_Findsneedline) (defBody s_Findsneedline) (defScope s_Findsneedline) .none kV_Findsneedline dc_Findsneedline pm_Findsneedline an_Findsneedline cd_Findsneedline ct_Findsneedline, f_Findsneedfact := f_Findsneedfact, d_Findsneedfact := PySem.W.fnOf "need_fact" "Finds.need_fact" (defArgs s_Findsneedfact) (defBody s_Findsneedfact) (defScope s_Findsneedfact) .none kV_Findsneedfact dc_Findsneedfact pm_Findsneedfact an_Findsneedfact cd_Findsneedfact ct_Findsneedfact, f_Findsnote := f_Findsnote, d_Findsnote := PySem.W.fnOf "note" "Finds.note" (defArgs s_Findsnote) (defBody s_Findsnote) (defScope s_Findsnote) .none kV_Findsnote dc_Findsnote pm_Findsnote an_Findsnote cd_Findsnote ct_Findsnote, f_Findswithdraw := f_Findswithdraw, d_Findswithdraw := PySem.W.fnOf "withdraw" "Finds.withdraw" (defArgs s_Findswithdraw) (defBody s_Findswithdraw) (defScope s_Findswithdraw) .none kV_Findswithdraw dc_Findswithdraw pm_Findswithdraw an_Findswithdraw cd_Findswithdraw ct_Findswithdraw, f_Findsfits := f_Findsfits, d_Findsfits := PySem.W.fnOf "fits" "Finds.fits" (defArgs s_Findsfits) (defBody s_Findsfits) (defScope s_Findsfits) .none kV_Findsfits dc_Findsfits pm_Findsfits an_Findsfits cd_Findsfits ct_Findsfits, f_Ldraws := f_Ldraws, d_Ldraws := PySem.W.fnOf "_law_draws" "_law_draws" (defArgs s_Ldraws) (defBody s_Ldraws) (defScope s_Ldraws) .none kV_Ldraws dc_Ldraws pm_Ldraws an_Ldraws cd_Ldraws ct_Ldraws, f_Lbits := f_Lbits, d_Lbits := PySem.W.fnOf "_law_bits" "_law_bits" (defArgs s_Lbits) (defBody s_Lbits) (defScope s_Lbits) .none kV_Lbits dc_Lbits pm_Lbits an_Lbits cd_Lbits ct_Lbits, f_Lrow := f_Lrow, d_Lrow := PySem.W.fnOf "_law_row" "_law_row" (defArgs s_Lrow) (defBody s_Lrow) (defScope s_Lrow) .none kV_Lrow dc_Lrow pm_Lrow an_Lrow cd_Lrow ct_Lrow, f_Lsmall := f_Lsmall, d_Lsmall := PySem.W.fnOf "_law_small" "_law_small" (defArgs s_Lsmall) (defBody s_Lsmall) (defScope s_Lsmall) .none kV_Lsmall dc_Lsmall pm_Lsmall an_Lsmall cd_Lsmall ct_Lsmall, f_Lmade := f_Lmade, d_Lmade := PySem.W.fnOf "_law_made" "_law_made" (defArgs s_Lmade) (defBody s_Lmade) (defScope s_Lmade) .none kV_Lmade dc_Lmade pm_Lmade an_Lmade cd_Lmade ct_Lmade, f_Lvalue := f_Lvalue, d_Lvalue := PySem.W.fnOf "_law_value" "_law_value" (defArgs s_Lvalue) (defBody s_Lvalue) (defScope s_Lvalue) .none kV_Lvalue dc_Lvalue pm_Lvalue an_Lvalue cd_Lvalue ct_Lvalue, f_Lsewn := f_Lsewn, d_Lsewn := PySem.W.fnOf "_law_sewn" "_law_sewn" (defArgs s_Lsewn) (defBody s_Lsewn) (defScope s_Lsewn) .none kV_Lsewn dc_Lsewn pm_Lsewn an_Lsewn cd_Lsewn ct_Lsewn, f_Lfact := f_Lfact, d_Lfact := PySem.W.fnOf "_law_fact" "_law_fact" (defArgs s_Lfact) (defBody s_Lfact) (defScope s_Lfact) .none kV_Lfact dc_Lfact pm_Lfact an_Lfact cd_Lfact ct_Lfact, f_Lfilled := f_Lfilled, d_Lfilled := PySem.W.fnOf "_law_filled" "_law_filled" (defArgs s_Lfilled) (defBody s_Lfilled) (defScope s_Lfilled) .none kV_Lfilled dc_Lfilled pm_Lfilled an_Lfilled cd_Lfilled ct_Lfilled, f_Lsame := f_Lsame, d_Lsame := PySem.W.fnOf "_law_same" "_law_same" (defArgs s_Lsame) (defBody s_Lsame) (defScope s_Lsame) .none kV_Lsame dc_Lsame pm_Lsame an_Lsame cd_Lsame ct_Lsame, f_Lfalse := f_Lfalse, d_Lfalse := PySem.W.fnOf "_law_false" "_law_false" (defArgs s_Lfalse) (defBody s_Lfalse) (defScope s_Lfalse) .none kV_Lfalse dc_Lfalse pm_Lfalse an_Lfalse cd_Lfalse ct_Lfalse, f_Lholds := f_Lholds, d_Lholds := PySem.W.fnOf "_law_holds" "_law_holds" (defArgs s_Lholds) (defBody s_Lholds) (defScope s_Lholds) .none kV_Lholds dc_Lholds pm_Lholds an_Lholds cd_Lholds ct_Lholds, f_Lothers := f_Lothers, d_Lothers := PySem.W.fnOf "_law_others" "_law_others" (defArgs s_Lothers) (defBody s_Lothers) (defScope s_Lothers) .none kV_Lothers dc_Lothers pm_Lothers an_Lothers cd_Lothers ct_Lothers, f_law := f_law, d_law := PySem.W.fnOf "law" "law" (defArgs s_law) (defBody s_law) (defScope s_law) .none kV_law dc_law pm_law an_law cd_law ct_law, a_BadSize := C_BadSize, a_BadBit := C_BadBit, a_NoCell := C_NoCell, a_NoLine := C_NoLine, a_NoStep := C_NoStep, a_Known := C_Known, a_NoFact := C_NoFact, tk_LONGEST_SIDE := tk_LONGEST_SIDE }, ⟨PySem.W.mg_of X G aC_Board, PySem.W.mg_of X G aC_Cloth, ⟨pg_Cloth, hd_Cloth, po_Cloth, sa_Cloth⟩, ⟨mk_Cloth, a_ClothInit, i_ClothInit, kc_Cloth⟩, na_columns_count, na_rows_count, na_col_bits, na_row_bits, na_first_colour, PySem.W.mg_of X G aC_Finds, ⟨pg_Finds, hd_Finds, po_Finds, sa_Finds⟩, ⟨mk_Finds, a_FindsInit, i_FindsInit, kc_Finds⟩, naF_columns_count, naF_rows_count, naF_facts, naF_next_number, naF_groups, fun_mk (st := s_isnumber) l_isnumber c_isnumber k_isnumber, (fun_mk (st := s_isnumber) l_isnumber c_isnumber k_isnumber).binds (ps := ["value"]) fun _ _ _ _ _ _ us hl => (by obtain ⟨_, rfl⟩ := len1 hl; rfl), PySem.W.mg_of X G a_isnumber, fun_mk (st := s_isbelow) l_isbelow c_isbelow k_isbelow, (fun_mk (st := s_isbelow) l_isbelow c_isbelow k_isbelow).binds (ps := ["value", "bound"]) fun _ _ _ _ _ _ us hl => (by obtain ⟨_, _, rfl⟩ := len2 hl; rfl), PySem.W.mg_of X G a_isbelow, fun_mk (st := s_isbit) l_isbit c_isbit k_isbit, (fun_mk (st := s_isbit) l_isbit c_isbit k_isbit).binds (ps := ["value"]) fun _ _ _ _ _ _ us hl => (by obtain ⟨_, rfl⟩ := len1 hl; rfl), PySem.W.mg_of X G a_isbit, fun_mk (st := s_allbits) l_allbits c_allbits k_allbits, (fun_mk (st := s_allbits) l_allbits c_allbits k_allbits).binds (ps := ["values"]) fun _ _ _ _ _ _ us hl => (by obtain ⟨_, rfl⟩ := len1 hl; rfl), PySem.W.mg_of X G a_allbits, fun_mk (st := s_isside) l_isside c_isside k_isside, (fun_mk (st := s_isside) l_isside c_isside k_isside).binds (ps := ["count"]) fun _ _ _ _ _ _ us hl => (by obtain ⟨_, rfl⟩ := len1 hl; rfl), PySem.W.mg_of X G a_isside, fun_mk (st := s_needcell) l_needcell c_needcell k_needcell, (fun_mk (st := s_needcell) l_needcell c_needcell k_needcell).binds (ps := ["board", "x", "y"]) fun _ _ _ _ _ _ us hl => (by obtain ⟨_, _, _, rfl⟩ := len3 hl; rfl), PySem.W.mg_of X G a_needcell, fun_mk (st := s_BoardInit) l_BoardInit c_BoardInit k_BoardInit, (fun_mk (st := s_BoardInit) l_BoardInit c_BoardInit k_BoardInit).binds (ps := ["self", "wide", "tall", "cols", "rows"]) fun _ _ _ _ _ _ us hl => (by obtain ⟨_, _, _, _, _, rfl⟩ := len5 hl; rfl), ⟨ga_Board, rd_Board, fc_BoardInit, k_BoardInit⟩, fun_mk (st := s_ClothInit) l_ClothInit c_ClothInit k_ClothInit, (fun_mk (st := s_ClothInit) l_ClothInit c_ClothInit k_ClothInit).binds (ps := ["self", "shade", "cols", "rows"]) fun _ _ _ _ _ _ us hl => (by obtain ⟨_, _, _, _, rfl⟩ := len4 hl; rfl), fun_mk (st := s_Clothwide) l_Clothwide c_Clothwide k_Clothwide, (fun_mk (st := s_Clothwide) l_Clothwide c_Clothwide k_Clothwide).binds (ps := ["self"]) fun _ _ _ _ _ _ us hl => (by obtain ⟨_, rfl⟩ := len1 hl; rfl), ⟨a_Clothwide, i_Clothwide, k_Clothwide⟩, fun_mk (st := s_Clothtall) l_Clothtall c_Clothtall k_Clothtall, (fun_mk (st := s_Clothtall) l_Clothtall c_Clothtall k_Clothtall).binds (ps := ["self"]) fun _ _ _ _ _ _ us hl => (by obtain ⟨_, rfl⟩ := len1 hl; rfl), ⟨a_Clothtall, i_Clothtall, k_Clothtall⟩, fun_mk (st := s_Clothbitsalong) l_Clothbitsalong c_Clothbitsalong k_Clothbitsalong, (fun_mk (st := s_Clothbitsalong) l_Clothbitsalong c_Clothbitsalong k_Clothbitsalong).binds (ps := ["self", "way"]) fun _ _ _ _ _ _ us hl => (by obtain ⟨_, _, rfl⟩ := len2 hl; rfl), ⟨a_Clothbitsalong, i_Clothbitsalong, k_Clothbitsalong⟩, fun_mk (st := s_Clothbit) l_Clothbit c_Clothbit k_Clothbit, (fun_mk (st := s_Clothbit) l_Clothbit c_Clothbit k_Clothbit).binds (ps := ["self", "way", "k"]) fun _ _ _ _ _ _ us hl => (by obtain ⟨_, _, _, rfl⟩ := len3 hl; rfl), ⟨a_Clothbit, i_Clothbit, k_Clothbit⟩, fun_mk (st := s_Clothstitched) l_Clothstitched c_Clothstitched k_Clothstitched, (fun_mk (st := s_Clothstitched) l_Clothstitched c_Clothstitched k_Clothstitched).binds (ps := ["self", "way", "k", "step"]) fun _ _ _ _ _ _ us hl => (by obtain ⟨_, _, _, _, rfl⟩ := len4 hl; rfl), ⟨a_Clothstitched, i_Clothstitched, k_Clothstitched⟩, fun_mk (st := s_Clothcolour) l_Clothcolour c_Clothcolour k_Clothcolour, (fun_mk (st := s_Clothcolour) l_Clothcolour c_Clothcolour k_Clothcolour).binds (ps := ["self", "x", "y"]) fun _ _ _ _ _ _ us hl => (by obtain ⟨_, _, _, rfl⟩ := len3 hl; rfl), ⟨a_Clothcolour, i_Clothcolour, k_Clothcolour⟩, fun_mk (st := s_shows) l_shows c_shows k_shows, (fun_mk (st := s_shows) l_shows c_shows k_shows).binds (ps := ["cloth", "fact"]) fun _ _ _ _ _ _ us hl => (by obtain ⟨_, _, rfl⟩ := len2 hl; rfl), PySem.W.mg_of X G a_shows, fun_mk (st := s_cellstrips) l_cellstrips c_cellstrips k_cellstrips, (fun_mk (st := s_cellstrips) l_cellstrips c_cellstrips k_cellstrips).binds (ps := ["x", "y"]) fun _ _ _ _ _ _ us hl => (by obtain ⟨_, _, rfl⟩ := len2 hl; rfl), PySem.W.mg_of X G a_cellstrips, fun_mk (st := s_linestrips) l_linestrips c_linestrips k_linestrips, (fun_mk (st := s_linestrips) l_linestrips c_linestrips k_linestrips).binds (ps := ["way", "k"]) fun _ _ _ _ _ _ us hl => (by obtain ⟨_, _, rfl⟩ := len2 hl; rfl), PySem.W.mg_of X G a_linestrips, fun_mk (st := s_factstrips) l_factstrips c_factstrips k_factstrips, (fun_mk (st := s_factstrips) l_factstrips c_factstrips k_factstrips).binds (ps := ["fact"]) fun _ _ _ _ _ _ us hl => (by obtain ⟨_, rfl⟩ := len1 hl; rfl), PySem.W.mg_of X G a_factstrips, fun_mk (st := s_factweight) l_factweight c_factweight k_factweight, (fun_mk (st := s_factweight) l_factweight c_factweight k_factweight).binds (ps := ["fact"]) fun _ _ _ _ _ _ us hl => (by obtain ⟨_, rfl⟩ := len1 hl; rfl), PySem.W.mg_of X G a_factweight, fun_mk (st := s_lonegroups) l_lonegroups c_lonegroups k_lonegroups, (fun_mk (st := s_lonegroups) l_lonegroups c_lonegroups k_lonegroups).binds (ps := ["wide", "tall"]) fun _ _ _ _ _ _ us hl => (by obtain ⟨_, _, rfl⟩ := len2 hl; rfl), PySem.W.mg_of X G a_lonegroups, fun_mk (st := s_weightbetween) l_weightbetween c_weightbetween k_weightbetween, (fun_mk (st := s_weightbetween) l_weightbetween c_weightbetween k_weightbetween).binds (ps := ["groups", "strips"]) fun _ _ _ _ _ _ us hl => (by obtain ⟨_, _, rfl⟩ := len2 hl; rfl), PySem.W.mg_of X G a_weightbetween, fun_mk (st := s_tie) l_tie c_tie k_tie, (fun_mk (st := s_tie) l_tie c_tie k_tie).binds (ps := ["groups", "strips", "weight"]) fun _ _ _ _ _ _ us hl => (by obtain ⟨_, _, _, rfl⟩ := len3 hl; rfl), PySem.W.mg_of X G a_tie, fun_mk (st := s_groupsof) l_groupsof c_groupsof k_groupsof, (fun_mk (st := s_groupsof) l_groupsof c_groupsof k_groupsof).binds (ps := ["wide", "tall", "facts"]) fun _ _ _ _ _ _ us hl => (by obtain ⟨_, _, _, rfl⟩ := len3 hl; rfl), PySem.W.mg_of X G a_groupsof, fun_mk (st := s_FindsInit) l_FindsInit c_FindsInit k_FindsInit, (fun_mk (st := s_FindsInit) l_FindsInit c_FindsInit k_FindsInit).binds (ps := ["self", "wide", "tall"]) fun _ _ _ _ _ _ us hl => (by obtain ⟨_, _, _, rfl⟩ := len3 hl; rfl), fun_mk (st := s_Findswide) l_Findswide c_Findswide k_Findswide, (fun_mk (st := s_Findswide) l_Findswide c_Findswide k_Findswide).binds (ps := ["self"]) fun _ _ _ _ _ _ us hl => (by obtain ⟨_, rfl⟩ := len1 hl; rfl), ⟨a_Findswide, i_Findswide, k_Findswide⟩, fun_mk (st := s_Findstall) l_Findstall c_Findstall k_Findstall, (fun_mk (st := s_Findstall) l_Findstall c_Findstall k_Findstall).binds (ps := ["self"]) fun _ _ _ _ _ _ us hl => (by obtain ⟨_, rfl⟩ := len1 hl; rfl), ⟨a_Findstall, i_Findstall, k_Findstall⟩, fun_mk (st := s_Findsneedline) l_Findsneedline c_Findsneedline k_Findsneedline, (fun_mk (st := s_Findsneedline) l_Findsneedline c_Findsneedline k_Findsneedline).binds (ps := ["self", "way", "k"]) fun _ _ _ _ _ _ us hl => (by obtain ⟨_, _, _, rfl⟩ := len3 hl; rfl), ⟨a_Findsneedline, i_Findsneedline, k_Findsneedline⟩, fun_mk (st := s_Findsneedfact) l_Findsneedfact c_Findsneedfact k_Findsneedfact, (fun_mk (st := s_Findsneedfact) l_Findsneedfact c_Findsneedfact k_Findsneedfact).binds (ps := ["self", "fact"]) fun _ _ _ _ _ _ us hl => (by obtain ⟨_, _, rfl⟩ := len2 hl; rfl), ⟨a_Findsneedfact, i_Findsneedfact, k_Findsneedfact⟩, fun_mk (st := s_Findsnote) l_Findsnote c_Findsnote k_Findsnote, (fun_mk (st := s_Findsnote) l_Findsnote c_Findsnote k_Findsnote).binds (ps := ["self", "fact"]) fun _ _ _ _ _ _ us hl => (by obtain ⟨_, _, rfl⟩ := len2 hl; rfl), ⟨a_Findsnote, i_Findsnote, k_Findsnote⟩, fun_mk (st := s_Findswithdraw) l_Findswithdraw c_Findswithdraw k_Findswithdraw, (fun_mk (st := s_Findswithdraw) l_Findswithdraw c_Findswithdraw k_Findswithdraw).binds (ps := ["self", "number"]) fun _ _ _ _ _ _ us hl => (by obtain ⟨_, _, rfl⟩ := len2 hl; rfl), ⟨a_Findswithdraw, i_Findswithdraw, k_Findswithdraw⟩, fun_mk (st := s_Findsfits) l_Findsfits c_Findsfits k_Findsfits, (fun_mk (st := s_Findsfits) l_Findsfits c_Findsfits k_Findsfits).binds (ps := ["self", "cloth"]) fun _ _ _ _ _ _ us hl => (by obtain ⟨_, _, rfl⟩ := len2 hl; rfl), ⟨a_Findsfits, i_Findsfits, k_Findsfits⟩, fun_mk (st := s_Ldraws) l_Ldraws c_Ldraws k_Ldraws, (fun_mk (st := s_Ldraws) l_Ldraws c_Ldraws k_Ldraws).binds (ps := ["_law_script", "_law_many"]) fun _ _ _ _ _ _ us hl => (by obtain ⟨_, _, rfl⟩ := len2 hl; rfl), PySem.W.mg_of X G a_Ldraws, fun_mk (st := s_Lbits) l_Lbits c_Lbits k_Lbits, (fun_mk (st := s_Lbits) l_Lbits c_Lbits k_Lbits).binds (ps := ["_law_number", "_law_many"]) fun _ _ _ _ _ _ us hl => (by obtain ⟨_, _, rfl⟩ := len2 hl; rfl), PySem.W.mg_of X G a_Lbits, fun_mk (st := s_Lrow) l_Lrow c_Lrow k_Lrow, (fun_mk (st := s_Lrow) l_Lrow c_Lrow k_Lrow).binds (ps := ["_law_some", "_law_many"]) fun _ _ _ _ _ _ us hl => (by obtain ⟨_, _, rfl⟩ := len2 hl; rfl), PySem.W.mg_of X G a_Lrow, fun_mk (st := s_Lsmall) l_Lsmall c_Lsmall k_Lsmall, (fun_mk (st := s_Lsmall) l_Lsmall c_Lsmall k_Lsmall).binds (ps := ["_law_some"]) fun _ _ _ _ _ _ us hl => (by obtain ⟨_, rfl⟩ := len1 hl; rfl), PySem.W.mg_of X G a_Lsmall, fun_mk (st := s_Lmade) l_Lmade c_Lmade k_Lmade, (fun_mk (st := s_Lmade) l_Lmade c_Lmade k_Lmade).binds (ps := ["_law_plan"]) fun _ _ _ _ _ _ us hl => (by obtain ⟨_, rfl⟩ := len1 hl; rfl), PySem.W.mg_of X G a_Lmade, fun_mk (st := s_Lvalue) l_Lvalue c_Lvalue k_Lvalue, (fun_mk (st := s_Lvalue) l_Lvalue c_Lvalue k_Lvalue).binds (ps := ["_law_plan", "_law_x", "_law_y"]) fun _ _ _ _ _ _ us hl => (by obtain ⟨_, _, _, rfl⟩ := len3 hl; rfl), PySem.W.mg_of X G a_Lvalue, fun_mk (st := s_Lsewn) l_Lsewn c_Lsewn k_Lsewn, (fun_mk (st := s_Lsewn) l_Lsewn c_Lsewn k_Lsewn).binds (ps := ["_law_plan", "_law_way", "_law_k", "_law_step"]) fun _ _ _ _ _ _ us hl => (by obtain ⟨_, _, _, _, rfl⟩ := len4 hl; rfl), PySem.W.mg_of X G a_Lsewn, fun_mk (st := s_Lfact) l_Lfact c_Lfact k_Lfact, (fun_mk (st := s_Lfact) l_Lfact c_Lfact k_Lfact).binds (ps := ["_law_plan", "_law_one", "_law_two", "_law_three"]) fun _ _ _ _ _ _ us hl => (by obtain ⟨_, _, _, _, rfl⟩ := len4 hl; rfl), PySem.W.mg_of X G a_Lfact, fun_mk (st := s_Lfilled) l_Lfilled c_Lfilled k_Lfilled, (fun_mk (st := s_Lfilled) l_Lfilled c_Lfilled k_Lfilled).binds (ps := ["_law_finds", "_law_plan", "_law_some", "_law_many"]) fun _ _ _ _ _ _ us hl => (by obtain ⟨_, _, _, _, rfl⟩ := len4 hl; rfl), PySem.W.mg_of X G a_Lfilled, fun_mk (st := s_Lsame) l_Lsame c_Lsame k_Lsame, (fun_mk (st := s_Lsame) l_Lsame c_Lsame k_Lsame).binds (ps := ["_law_told", "_law_due"]) fun _ _ _ _ _ _ us hl => (by obtain ⟨_, _, rfl⟩ := len2 hl; rfl), PySem.W.mg_of X G a_Lsame, fun_mk (st := s_Lfalse) l_Lfalse c_Lfalse k_Lfalse, (fun_mk (st := s_Lfalse) l_Lfalse c_Lfalse k_Lfalse).binds (ps := ["_law_fact_here"]) fun _ _ _ _ _ _ us hl => (by obtain ⟨_, rfl⟩ := len1 hl; rfl), PySem.W.mg_of X G a_Lfalse, fun_mk (st := s_Lholds) l_Lholds c_Lholds k_Lholds, (fun_mk (st := s_Lholds) l_Lholds c_Lholds k_Lholds).binds (ps := ["_law_plan", "_law_fact_here"]) fun _ _ _ _ _ _ us hl => (by obtain ⟨_, _, rfl⟩ := len2 hl; rfl), PySem.W.mg_of X G a_Lholds, fun_mk (st := s_Lothers) l_Lothers c_Lothers k_Lothers, (fun_mk (st := s_Lothers) l_Lothers c_Lothers k_Lothers).binds (ps := ["_law_plan", "_law_some"]) fun _ _ _ _ _ _ us hl => (by obtain ⟨_, _, rfl⟩ := len2 hl; rfl), PySem.W.mg_of X G a_Lothers, fun_mk (st := s_law) l_law c_law k_law, (fun_mk (st := s_law) l_law c_law k_law).binds (ps := ["_law_script"]) fun _ _ _ _ _ _ us hl => (by obtain ⟨_, rfl⟩ := len1 hl; rfl), PySem.W.mg_of X G a_law, PySem.W.mg_of X G aX_BadSize, PySem.W.mg_of X G aX_BadBit, PySem.W.mg_of X G aX_NoCell, PySem.W.mg_of X G aX_NoLine, PySem.W.mg_of X G aX_NoStep, PySem.W.mg_of X G aX_Known, PySem.W.mg_of X G aX_NoFact, x_BadSize, x_BadBit, x_NoCell, x_NoLine, x_NoStep, x_Known, x_NoFact, PySem.W.mg_of X G v_LONGEST_SIDE, PySem.W.mg_none_of X G z_isinstance, PySem.W.mg_none_of X G z_int, PySem.W.mg_none_of X G z_bool, PySem.W.mg_none_of X G z_all, PySem.W.mg_none_of X G z_len, PySem.W.mg_none_of X G z_tuple, PySem.W.mg_none_of X G z_list, PySem.W.mg_none_of X G z_range, PySem.W.mg_none_of X G z_abs, PySem.W.mg_none_of X G z_sum, PySem.W.mg_none_of X G z_min, PySem.W.mg_none_of X G z_str, PySem.W.mg_none_of X G z_zip, PySem.W.mg_none_of X G z_ValueError⟩, fun s v => .of_eq rfl⟩
local macro_rules | `(tactic| walk_at "rd1") => `(tactic| first
  | ((with_reducible refine' rd_var (v := ?kv) ?ke ?kh); (case ke => exact rfl))
  | (with_reducible refine rd_seqA fun _ _ => ?_) | (with_reducible refine rd_asg ?_) | (with_reducible refine rd_name ?_) | (with_reducible refine rd_ret ?_) | (with_reducible refine rd_retN ?_) | (with_reducible refine rd_drop ?_)
  | (with_reducible refine rd_ifS ?_) | (with_reducible refine rd_tB ?_) | (with_reducible refine rd_tTest ?_) | (with_reducible refine rd_exbl ?_) | (with_reducible refine rd_c ?_) | (with_reducible refine rd_op ?_) | (with_reducible refine rd_un ?_)
  | (with_reducible refine rd_andV ?_) | (with_reducible refine rd_orV ?_) | (with_reducible refine rd_notV ?_) | (with_reducible refine rd_and ?_) | (with_reducible refine rd_or ?_) | (with_reducible refine rd_not ?_) | (with_reducible refine rd_if ?_) | (with_reducible refine rd_true ?_)
  | (with_reducible refine rd_I0 ?_) | (with_reducible refine rd_U ?_) | (with_reducible refine rd_eqI ?_) | (with_reducible refine rd_neI ?_) | (with_reducible refine rd_eqS ?_) | (with_reducible refine rd_eqB ?_) | (with_reducible refine rd_neB ?_)
  | (with_reducible refine rd_chain ?_) | (with_reducible refine rd_call ?_) | (with_reducible refine rd_nil ?_) | (with_reducible refine rd_cons ?_) | (with_reducible refine rd_CB ?_) | (with_reducible refine rd_tup ?_) | (with_reducible refine rd_lst ?_)
  | (with_reducible refine rd_next ?_) | ((with_reducible refine' rd_aug (x := ?kv) ?ke ?kh); (case ke => exact rfl)) | (with_reducible refine rd_ipI ?_) | (with_reducible refine rd_gcons ?_) | (with_reducible refine rd_gnil ?_) | (with_reducible refine rd_gsub ?_) | (with_reducible refine rd_sfld ?_) | (with_reducible refine rd_while ?_) | (with_reducible refine rd_comp ?_) | (with_reducible refine rd_fld ?_) | (with_reducible refine rd_meth ?_) | (with_reducible refine rd_make ?_) | (with_reducible refine rd_raise ?_) | (with_reducible refine rd_try ?_) | (with_reducible refine rd_callS ?_) | (with_reducible refine rd_methS ?_) | (with_reducible refine rd_makeS ?_) | (with_reducible refine rd_bm ?_) | (with_reducible refine rd_bm0 ?_) | (with_reducible refine rd_sl ?_) | (with_reducible refine rd_nopart ?_) | (with_reducible refine rd_part ?_) | (with_reducible refine rd_exint ?_) | (with_reducible refine rd_exref ?_)
  | (with_reducible refine rd_abs ?_) | (with_reducible refine rd_min2 ?_) | (with_reducible refine rd_max2 ?_) | (with_reducible refine rd_intB ?_) | (with_reducible refine rd_for ?_) | (with_reducible refine rd_rng1 ?_) | (with_reducible refine rd_ilist ?_) | (with_reducible refine rd_itup ?_) | (with_reducible refine rd_izipS ?_) | (with_reducible refine iteT ?_) | (with_reducible refine iteF ?_) | (with_reducible refine if_true_do ?_) | (with_reducible refine iteNN ?_) | (with_reducible refine iteTA ?_) | (with_reducible refine iteFA ?_) | ((with_reducible refine' rd_cut (r := ?kr) ?ke ?kh); (case ke => assumption)) | (dsimp only))
local macro_rules | `(tactic| walk_at "rd") => `(tactic| repeat walk_at "rd1")

section
variable {P : Program} {w : World} {K : PySem.W.Frag} {mg : Str → Option Value} {base : Heap} {t : Ad}
def isBit (i : Int) : Bool := decide (0 ≤ i) && decide (i < 2)
def sp_isnumber : Sp := fun vs H Q _ => ∃ i, vs = [.int i] ∧ Q (.bl true) H
theorem ok_isnumber (T : Txt K mg t) : FnOk P w K mg base CX0 1 t.f_isnumber t.d_isnumber ["value"] sp_isnumber := by
  refine T.F_isnumber.ok sc_isnumber (fun vs H Q E h => ?_) (fun cdv A outer s H vs Q E hr h => ?_)
  · obtain ⟨i, rfl, _⟩ := h; rfl
  · obtain ⟨i, rfl, k⟩ := h
    refine ⟨_, (pss_one (ps_ret (pe_and (pe_callB (cI_isinstK K rfl) rfl T.no_isinstance (by rfl) (pa_cons (pv 0) (pa_cons (pe_bltn (v := .ty "int") rfl T.no_int (by rfl : bootBuiltins "int" = some (.type "int")) rfl) pa_nil))) (pe_one (pe_not (pe_callB (cI_isinstK K rfl) rfl T.no_isinstance (by rfl) (pa_cons (pv 0) (pa_cons (pe_bltn (v := .ty "bool") rfl T.no_bool (by rfl : bootBuiltins "bool" = some (.type "bool")) rfl) pa_nil)))))))), ?_⟩
    walk_at "rd"
    refine rd_isi (.int i) kit_ii ?_
    walk_at "rd"
    refine rd_isi (.int i) kit_ib ?_
    walk_at "rd"
    exact k
def sp_isbelow : Sp := fun vs H Q _ => ∃ i b, vs = [.int i, .int b] ∧ Q (.bl (decide (0 ≤ i) && decide (i < b))) H
theorem ok_isbelow (T : Txt K mg t) : FnOk P w K mg base CX0 2 t.f_isbelow t.d_isbelow ["value", "bound"] sp_isbelow := by
  have G_isnumber := ok_isnumber (P := P) (w := w) (base := base) T
  refine T.F_isbelow.ok sc_isbelow (fun vs H Q E h => ?_) (fun cdv A outer s H vs Q E hr h => ?_)
  · obtain ⟨i, b, rfl, _⟩ := h; rfl
  · obtain ⟨i, b, rfl, k⟩ := h
    refine ⟨_, (pss_one (ps_ret (pe_and (pe_call G_isnumber (hr.mono (by first | decide | omega)) rfl T.mg_isnumber T.F_isnumber.kp T.b_isnumber .nil pass0 (pa_cons (pv 0) pa_nil)) (pe_one (pe_chain op_le op_lt pe_int (pv 0) (pv 1)))))), ?_⟩
    walk_at "rd"
    refine ⟨i, rfl, ?_⟩
    walk_at "rd"
    refine ite2 (fun h0 => ?_) (fun h0 => ?_)
    · walk_at "rd"
      rw [h0] at k
      exact k
    · rw [Bool.not_eq_true] at h0
      rw [h0] at k
      exact k
def sp_isbit : Sp := fun vs H Q _ => ∃ i, vs = [.int i] ∧ Q (.bl (isBit i)) H
theorem ok_isbit (T : Txt K mg t) : FnOk P w K mg base CX0 3 t.f_isbit t.d_isbit ["value"] sp_isbit := by
  have G_isbelow := ok_isbelow (P := P) (w := w) (base := base) T
  refine T.F_isbit.ok sc_isbit (fun vs H Q E h => ?_) (fun cdv A outer s H vs Q E hr h => ?_)
  · obtain ⟨i, rfl, _⟩ := h; rfl
  · obtain ⟨i, rfl, k⟩ := h
    refine ⟨_, (pss_one (ps_ret (pe_call G_isbelow (hr.mono (by first | decide | omega)) rfl T.mg_isbelow T.F_isbelow.kp T.b_isbelow .nil pass0 (pa_cons (pv 0) (pa_cons pe_int pa_nil))))), ?_⟩
    walk_at "rd"
    exact ⟨i, 2, rfl, k⟩
/-- a side's length -/
def isSide (n : Int) : Bool := decide (0 < n) && decide (n < 41)
def sp_isside : Sp := fun vs H Q _ => ∃ i, vs = [.int i] ∧ Q (.bl (isSide i)) H
theorem ok_isside (T : Txt K mg t) : FnOk P w K mg base CX0 3 t.f_isside t.d_isside ["count"] sp_isside := by
  have G_isbelow := ok_isbelow (P := P) (w := w) (base := base) T
  refine T.F_isside.ok sc_isside (fun vs H Q E h => ?_) (fun cdv A outer s H vs Q E hr h => ?_)
  · obtain ⟨i, rfl, _⟩ := h; rfl
  · obtain ⟨i, rfl, k⟩ := h
    refine ⟨_, (pss_one (ps_ret (pe_and (pe_call G_isbelow (hr.mono (by first | decide | omega)) rfl T.mg_isbelow T.F_isbelow.kp T.b_isbelow .nil pass0 (pa_cons (pv 0) (pa_cons (pe_op op_add (pe_glob (v := .int 40) rfl T.mg_LONGEST_SIDE ⟨_, rfl⟩) pe_int) pa_nil))) (pe_one (pe_cmpR op_gt (pv 0) pe_int (nomark _)))))), ?_⟩
    walk_at "rd"
    refine ⟨i, _, rfl, ?_⟩
    walk_at "rd"
    refine ite2 (fun h0 => ?_) (fun h0 => ?_)
    · walk_at "rd"
      have e : isSide i = decide (0 < i) := by
        rw [Bool.and_eq_true, decide_eq_true_eq, decide_eq_true_eq] at h0
        unfold isSide
        rw [decide_eq_true (by omega : i < 41), Bool.and_true]
      rw [e] at k
      exact k
    · have e : isSide i = false := by
        rw [Bool.and_eq_true, decide_eq_true_eq, decide_eq_true_eq] at h0
        unfold isSide
        by_cases hi : 0 < i
        · rw [decide_eq_false (by omega : ¬ i < 41), Bool.and_false]
        · rw [decide_eq_false hi, Bool.false_and]
      rw [e] at k
      exact k
theorem side_len {n : Nat} : isSide ((n : Int) + 1) = decide (n ≤ 39) := by
  unfold isSide
  rw [decide_eq_true (by omega : (0 : Int) < (n : Int) + 1), Bool.true_and]
  exact decide_eq_decide.mpr (by omega)
end

section
variable {P : Program} {w : World} {K : PySem.W.Frag} {mg : Str → Option Value} {base : Heap} {t : Ad}
def sp_allbits : Sp := fun vs H Q _ => ∃ (p : Addr) (ns : List Int), vs = [.ref p] ∧ H p = some (.lst (ns.map V.int)) ∧ ns.length ≤ 1000 ∧ ∀ H', Same H H' → Q (.bl (ns.all isBit)) H'
theorem ok_allbits (T : Txt K mg t) : FnOk P w K mg base CX0 4 t.f_allbits t.d_allbits ["values"] sp_allbits := by
  have G_isbit := ok_isbit (P := P) (w := w) (base := base) T
  refine T.F_allbits.ok sc_allbits (fun vs H Q E h => ?_) (fun cdv A outer s H vs Q E hr h => ?_)
  · obtain ⟨p, ns, rfl, _⟩ := h; rfl
  · obtain ⟨p, ns, rfl, hp, hl, k⟩ := h
    refine ⟨_, (pss_one (ps_ret (pe_callB (cI_allK K rfl rfl) rfl T.no_all (by rfl) (pa_cons (pe_comp (N := ["value"]) (cap := [none]) rfl ⟨rfl, rfl, rfl, rfl, rfl, rfl⟩ (pi_list (pv 0)) (fun _ _ _ => (pg_name (i := 0) (show (["value"] : List Str).Nodup by decide +kernel) rfl (Or.inl rfl))) (fun _ _ _ => pts_nil) (fun _ _ _ => (pe_call G_isbit (hr.mono (by first | decide | omega)) rfl T.mg_isbit T.F_isbit.kp T.b_isbit .nil pass0 (pa_cons (pv 0) pa_nil)))) pa_nil)))), ?_⟩
    walk_at "rd"
    refine ⟨⟨_, SqL.of hp⟩, fun l hn => ?_⟩
    refine compW_list (fun v => match v with | .int i => .bl (isBit i) | _ => .non) (SqL.of hp) (by rw [List.length_map]; exact hl) hn (fun x o H' Q' hx s1 q => ?_) (fun H' s1 e => ?_)
    · obtain ⟨i, _, rfl⟩ := List.mem_map.mp hx
      walk_at "rd"
      exact ⟨i, rfl, q H' (Same.refl _)⟩
    · walk_at "rd"
      have e' : H' l = some (.lst ((ns.map isBit).map V.bl)) := by rw [e, List.map_map, List.map_map]; rfl
      refine rd_all e' ?_
      rw [List.all_map]
      exact k H' s1
/-! a cloth -/
def bfl (a b : Addr) (w h : Int) : List (Str × V) := putF "row_bits" (.ref b) (putF "col_bits" (.ref a) (putF "rows_count" (.int h) (putF "columns_count" (.int w) [])))
def cfl (s : Int) (a b : Addr) (w h : Int) : List (Str × V) := putF "first_colour" (.int s) (bfl a b w h)
abbrev NoF (m : Str) : Prop := ((¬ m = "first_colour") ∧ ¬ m = "col_bits") ∧ (¬ m = "row_bits") ∧ (¬ m = "columns_count") ∧ ¬ m = "rows_count"
theorem bfl_w {w h : Int} (a b : Addr) : (bfl a b w h).lookup ("columns_count" : Str) = some (.int w) := by
  unfold bfl; rw [lookup_putF, if_neg (by decide +kernel), lookup_putF, if_neg (by decide +kernel), lookup_putF, if_neg (by decide +kernel), lookup_putF, if_pos rfl]
theorem bfl_h {w h : Int} (a b : Addr) : (bfl a b w h).lookup ("rows_count" : Str) = some (.int h) := by
  unfold bfl; rw [lookup_putF, if_neg (by decide +kernel), lookup_putF, if_neg (by decide +kernel), lookup_putF, if_pos rfl]
theorem bfl_c {w h : Int} (a b : Addr) : (bfl a b w h).lookup ("col_bits" : Str) = some (.ref a) := by
  unfold bfl; rw [lookup_putF, if_neg (by decide +kernel), lookup_putF, if_pos rfl]
theorem bfl_r {w h : Int} (a b : Addr) : (bfl a b w h).lookup ("row_bits" : Str) = some (.ref b) := by
  unfold bfl; rw [lookup_putF, if_pos rfl]
theorem bfl_no {w h : Int} (a b : Addr) {m : Str} (n : NoF m) : (bfl a b w h).lookup m = none := by
  obtain ⟨⟨n1, n2⟩, n3, n4, n5⟩ := n
  unfold bfl; rw [lookup_putF, if_neg n3, lookup_putF, if_neg n2, lookup_putF, if_neg n5, lookup_putF, if_neg n4]; rfl
theorem cfl_f {w h : Int} (s : Int) (a b : Addr) : (cfl s a b w h).lookup ("first_colour" : Str) = some (.int s) := by
  unfold cfl; rw [lookup_putF, if_pos rfl]
theorem cfl_w {w h : Int} (s : Int) (a b : Addr) : (cfl s a b w h).lookup ("columns_count" : Str) = some (.int w) := by
  unfold cfl; rw [lookup_putF, if_neg (by decide +kernel), bfl_w]
theorem cfl_h {w h : Int} (s : Int) (a b : Addr) : (cfl s a b w h).lookup ("rows_count" : Str) = some (.int h) := by
  unfold cfl; rw [lookup_putF, if_neg (by decide +kernel), bfl_h]
theorem cfl_c {w h : Int} (s : Int) (a b : Addr) : (cfl s a b w h).lookup ("col_bits" : Str) = some (.ref a) := by
  unfold cfl; rw [lookup_putF, if_neg (by decide +kernel), bfl_c]
theorem cfl_r {w h : Int} (s : Int) (a b : Addr) : (cfl s a b w h).lookup ("row_bits" : Str) = some (.ref b) := by
  unfold cfl; rw [lookup_putF, if_neg (by decide +kernel), bfl_r]
theorem cfl_no {w h : Int} (s : Int) (a b : Addr) {m : Str} (n : NoF m) : (cfl s a b w h).lookup m = none := by
  unfold cfl; rw [lookup_putF, if_neg n.1.1, bfl_no _ _ n]
structure BoardAt (C : Addr) (H : Hp) (p : Addr) (w h : Int) (cs rs : List Int) : Prop where
  ob : ∃ dx a b, H p = some (.ins C dx (bfl a b w h)) ∧ H a = some (.tup (cs.map V.int)) ∧ H b = some (.tup (rs.map V.int))
structure ClothAt (C : Addr) (H : Hp) (p : Addr) (s : Int) (cs rs : List Int) : Prop where
  ob : ∃ dx a b, H p = some (.ins C dx (cfl s a b ((cs.length : Int) + 1) ((rs.length : Int) + 1))) ∧ H a = some (.tup (cs.map V.int)) ∧ H b = some (.tup (rs.map V.int))
theorem ClothAt.mono {C : Addr} {H H' : Hp} {p : Addr} {s : Int} {cs rs : List Int} (e : Same H H') (c : ClothAt C H p s cs rs) : ClothAt C H' p s cs rs := by
  obtain ⟨dx, a, b, h1, h2, h3⟩ := c.ob
  exact ⟨dx, a, b, e _ _ h1, e _ _ h2, e _ _ h3⟩
def Bits (l : List Int) : Prop := l.length ≤ 39 ∧ ∀ z ∈ l, z = 0 ∨ z = 1
theorem Bits.all {l : List Int} (h : Bits l) : l.all isBit = true := by
  rw [List.all_eq_true]
  intro z hz
  rcases h.2 z hz with rfl | rfl <;> rfl
def KpBut (H : Hp) (p : Addr) (H' : Hp) : Prop := ∀ b o, H b = some o → b ≠ p → H' b = some o
def bitsOk (s : Int) (cs rs : List Int) : Bool := isBit s && (cs.all isBit && rs.all isBit)
theorem Bits.ok {s : Int} {cs rs : List Int} (hs : s = 0 ∨ s = 1) (bc : Bits cs) (br : Bits rs) : bitsOk s cs rs = true := by
  unfold bitsOk
  rw [bc.all, br.all]
  rcases hs with rfl | rfl <;> rfl

def spx_BoardInit (C BB : Addr) : Sp := fun vs H Q E => ∃ (p dx c r : Addr) (w h : Int) (cs rs : List Int), vs = [.ref p, .int w, .int h, .ref c, .ref r] ∧ H p = some (.ins C dx []) ∧ H c = some (.lst (cs.map V.int)) ∧ H r = some (.lst (rs.map V.int)) ∧
  cs.length ≤ 1000 ∧ rs.length ≤ 1000 ∧ (((cs.all isBit && rs.all isBit) = false ∧ ∀ H', Same H H' → E (.ref BB) none H') ∨
    ((cs.all isBit && rs.all isBit) = true ∧ ∀ H', KpBut H p H' → BoardAt C H' p w h cs rs → Q .non H'))
theorem okx_BoardInit (T : Txt K mg t) : FnOk P w K mg base (CX1 P w) 5 t.f_BoardInit t.d_BoardInit ["self", "wide", "tall", "cols", "rows"] (spx_BoardInit t.a_Cloth t.a_BadBit) := by
  have G_allbits := ok_allbits (P := P) (w := w) (base := base) T
  refine T.F_BoardInit.ok1 sc_BoardInit (fun vs H Q E h => ?_) (fun cdv A outer s H vs Q E hr h => ?_)
  · obtain ⟨p, dx, c, r, wd, ht, cs, rs, rfl, _⟩ := h; rfl
  · obtain ⟨p, dx, c, r, wd, ht, cs, rs, rfl, hp, hc, hr', lc, lr, k⟩ := h
    refine cutC (ps_if (pt_not (PW.pt (pw_and (pt_val (pe_call G_allbits.up (hr.mono (by first | decide | omega)) rfl T.mg_allbits T.F_allbits.kp T.b_allbits .nil pass1 (pa_cons (pv 3) pa_nil))) (pw_and1 (pt_val (pe_call G_allbits.up (hr.mono (by first | decide | omega)) rfl T.mg_allbits T.F_allbits.kp T.b_allbits .nil pass1 (pa_cons (pv 4) pa_nil))))))) (pss_one (ps_raiseK T.mg_BadBit T.x_BadBit PySem.F.excBase_ValueError rfl rfl (fun _ _ _ _ _ _ _ _ I m q => xe_new I m q) (pa_cons pe_str pa_nil))) pss_nil) fun _ _ => cutC (ps_fld (pv 0) (pv 1) rfl) fun _ _ => cutC (ps_fld (pv 0) (pv 2) rfl) fun _ _ => cutC (ps_fld (pv 0) (pe_callTy (cI_tupleK K rfl) rfl T.no_tuple (by rfl) (pa_cons (pv 3) pa_nil)) rfl) fun _ _ => cutE (ps_fld (pv 0) (pe_callTy (cI_tupleK K rfl) rfl T.no_tuple (by rfl) (pa_cons (pv 4) pa_nil)) rfl) fun _ _ => ?_
    walk_at "rd"
    refine ⟨c, cs, rfl, hc, lc, fun H1 s1 => ?_⟩
    cases b2 : cs.all isBit with
    | false =>
      walk_at "rd"
      refine ⟨by show 1 ≤ sizeLine; decide, ?_⟩
      rcases k with ⟨_, e⟩ | ⟨y, _⟩
      · exact e _ s1
      · rw [b2] at y; cases y
    | true =>
      walk_at "rd"
      refine ⟨r, rs, rfl, s1 _ _ hr', lr, fun H2 s2 => ?_⟩
      have s12 := s1.trans s2
      cases b3 : rs.all isBit with
      | false =>
        walk_at "rd"
        refine ⟨by show 1 ≤ sizeLine; decide, ?_⟩
        rcases k with ⟨_, e⟩ | ⟨y, _⟩
        · exact e _ s12
        · rw [b2, b3] at y; cases y
      | true =>
        walk_at "rd"
        have k : ∀ H', KpBut H p H' → BoardAt t.a_Cloth H' p wd ht cs rs → Q .non H' := by
          rcases k with ⟨y, _⟩ | ⟨_, z⟩
          · rw [b2, b3] at y; cases y
          · exact z
        have npc : c ≠ p := ne_of hc hp (by intro z; cases z)
        have npr : r ≠ p := ne_of hr' hp (by intro z; cases z)
        refine rd_sfldv (s12 _ _ hp) T.cl_Cloth T.na_columns_count (by show 0 < 1000; decide) ?_
        walk_at "rd"
        refine rd_sfldv upd_same T.cl_Cloth T.na_rows_count (Nat.lt_of_le_of_lt (length_putF _ _ _) (by show 1 < 1000; decide)) ?_
        rw [upd_upd]
        walk_at "rd"
        refine rd_tupleL (by rw [upd_ne npc]; exact s12 _ _ hc) fun a ha => ?_
        have pa : p ≠ a := by intro z; subst z; rw [upd_same] at ha; cases ha
        walk_at "rd"
        refine rd_sfldv (by rw [upd_ne pa, upd_same]) T.cl_Cloth T.na_col_bits (Nat.lt_of_le_of_lt (length_putF _ _ _) (Nat.lt_of_le_of_lt (Nat.succ_le_succ (length_putF _ _ _)) (by show 2 < 1000; decide))) ?_
        walk_at "rd"
        have ra : r ≠ a := by intro z; subst z; rw [upd_ne npr, s12 _ _ hr'] at ha; cases ha
        refine rd_tupleL (by rw [upd_ne npr, upd_ne ra, upd_ne npr]; exact s12 _ _ hr') fun b hb => ?_
        have pb : p ≠ b := by intro z; subst z; rw [upd_same] at hb; cases hb
        have ab : a ≠ b := by intro z; subst z; rw [upd_ne pa.symm, upd_same] at hb; cases hb
        walk_at "rd"
        refine rd_sfldv (by rw [upd_ne pb, upd_same]) T.cl_Cloth T.na_row_bits (Nat.lt_of_le_of_lt (length_putF _ _ _) (Nat.lt_of_le_of_lt (Nat.succ_le_succ (length_putF _ _ _)) (Nat.lt_of_le_of_lt (Nat.succ_le_succ (Nat.succ_le_succ (length_putF _ _ _))) (by show 3 < 1000; decide)))) ?_
        walk_at "rd"
        refine k _ (fun x o e hx => ?_) ⟨⟨dx, a, b, upd_same, ?_, ?_⟩⟩
        · have e2 := s12 _ _ e
          have xa : x ≠ a := by intro z; subst z; rw [upd_ne hx, e2] at ha; cases ha
          have xb : x ≠ b := by intro z; subst z; rw [upd_ne hx, upd_ne xa, upd_ne hx, e2] at hb; cases hb
          rw [upd_ne hx, upd_ne xb, upd_ne hx, upd_ne xa, upd_ne hx]
          exact e2
        · rw [upd_ne pa.symm, upd_ne ab, upd_ne pa.symm, upd_same]
        · rw [upd_ne pb.symm, upd_same]
def spx_ClothInit (C BS BB : Addr) : Sp := fun vs H Q E => ∃ (p dx c r : Addr) (s : Int) (cs rs : List Int), vs = [.ref p, .int s, .ref c, .ref r] ∧ H p = some (.ins C dx []) ∧ H c = some (.lst (cs.map V.int)) ∧ H r = some (.lst (rs.map V.int)) ∧
  cs.length ≤ 1000 ∧ rs.length ≤ 1000 ∧ ((¬ (cs.length ≤ 39 ∧ rs.length ≤ 39) ∧ E (.ref BS) none H) ∨ ((cs.length ≤ 39 ∧ rs.length ≤ 39) ∧ bitsOk s cs rs = false ∧ ∀ H', KpBut H p H' → E (.ref BB) none H') ∨
    ((cs.length ≤ 39 ∧ rs.length ≤ 39) ∧ bitsOk s cs rs = true ∧ ∀ H', KpBut H p H' → ClothAt C H' p s cs rs → Q .non H'))
theorem okx_ClothInit (T : Txt K mg t) : FnOk P w K mg base (CX1 P w) 6 t.f_ClothInit t.d_ClothInit ["self", "shade", "cols", "rows"] (spx_ClothInit t.a_Cloth t.a_BadSize t.a_BadBit) := by
  have G_isbit := ok_isbit (P := P) (w := w) (base := base) T
  have GX_BoardInit := okx_BoardInit (P := P) (w := w) (base := base) T
  have G_isside := ok_isside (P := P) (w := w) (base := base) T
  refine T.F_ClothInit.ok1 sc_ClothInit (fun vs H Q E h => ?_) (fun cdv A outer s H vs Q E hr h => ?_)
  · obtain ⟨p, dx, c, r, s, cs, rs, rfl, _⟩ := h; rfl
  · obtain ⟨p, dx, c, r, s, cs, rs, rfl, hp, hc, hr', lc, lr, k⟩ := h
    refine cutC (ps_if (pt_not (PW.pt (pw_and (pt_val (pe_call G_isside.up (hr.mono (by first | decide | omega)) rfl T.mg_isside T.F_isside.kp T.b_isside .nil pass1 (pa_cons (pe_op op_add (pe_callB (cI_lenK K rfl) rfl T.no_len (by rfl) (pa_cons (pv 2) pa_nil)) pe_int) pa_nil))) (pw_and1 (pt_val (pe_call G_isside.up (hr.mono (by first | decide | omega)) rfl T.mg_isside T.F_isside.kp T.b_isside .nil pass1 (pa_cons (pe_op op_add (pe_callB (cI_lenK K rfl) rfl T.no_len (by rfl) (pa_cons (pv 3) pa_nil)) pe_int) pa_nil))))))) (pss_one (ps_raiseK T.mg_BadSize T.x_BadSize PySem.F.excBase_ValueError rfl rfl (fun _ _ _ _ _ _ _ _ I m q => xe_new I m q) (pa_cons pe_str pa_nil))) pss_nil) fun _ _ => cutC (ps_if (pt_not (pt_val (pe_call G_isbit.up (hr.mono (by first | decide | omega)) rfl T.mg_isbit T.F_isbit.kp T.b_isbit .nil pass1 (pa_cons (pv 1) pa_nil)))) (pss_one (ps_raiseK T.mg_BadBit T.x_BadBit PySem.F.excBase_ValueError rfl rfl (fun _ _ _ _ _ _ _ _ I m q => xe_new I m q) (pa_cons pe_str pa_nil))) pss_nil) fun _ _ => cutC (ps_expr (pe_callC rfl T.mg_Board T.cf_BoardInit GX_BoardInit (hr.mono (by first | decide | omega)) T.b_BoardInit .nil pass1 (pa_cons (pv 0) (pa_cons (pe_op op_add (pe_callB (cI_lenK K rfl) rfl T.no_len (by rfl) (pa_cons (pv 2) pa_nil)) pe_int) (pa_cons (pe_op op_add (pe_callB (cI_lenK K rfl) rfl T.no_len (by rfl) (pa_cons (pv 3) pa_nil)) pe_int) (pa_cons (pv 2) (pa_cons (pv 3) pa_nil))))))) fun _ _ => cutE (ps_fld (pv 0) (pv 1) rfl) fun _ _ => ?_
    walk_at "rd"
    refine rd_lenL hc ?_
    walk_at "rd"
    refine ⟨_, rfl, ?_⟩
    rw [List.length_map, side_len]
    have sz : (¬ (cs.length ≤ 39 ∧ rs.length ≤ 39) → E (.ref t.a_BadSize) none H) := fun n => by
      rcases k with ⟨_, e⟩ | ⟨z, _⟩ | ⟨z, _⟩
      · exact e
      · exact absurd z n
      · exact absurd z n
    by_cases c1 : cs.length ≤ 39
    · rw [decide_eq_true c1]
      walk_at "rd"
      refine rd_lenL hr' ?_
      walk_at "rd"
      refine ⟨_, rfl, ?_⟩
      rw [List.length_map, side_len]
      by_cases c2 : rs.length ≤ 39
      · rw [decide_eq_true c2]
        walk_at "rd"
        have k : (bitsOk s cs rs = false ∧ ∀ H', KpBut H p H' → E (.ref t.a_BadBit) none H') ∨ (bitsOk s cs rs = true ∧ ∀ H', KpBut H p H' → ClothAt t.a_Cloth H' p s cs rs → Q .non H') := by
          rcases k with ⟨z, _⟩ | ⟨_, z⟩ | ⟨_, z⟩
          · exact absurd ⟨c1, c2⟩ z
          · exact .inl z
          · exact .inr z
        have bad : ∀ H', bitsOk s cs rs = false → Same H H' → E (.ref t.a_BadBit) none H' := fun H' z sm => by
          rcases k with ⟨_, e⟩ | ⟨y, _⟩
          · exact e H' fun b o eb _ => sm b o eb
          · rw [z] at y; cases y
        refine ⟨s, rfl, ?_⟩
        cases b1 : isBit s with
        | false =>
          walk_at "rd"
          refine ⟨by show 1 ≤ sizeLine; decide, ?_⟩
          exact bad _ (by unfold bitsOk; rw [b1]; rfl) (Same.refl _)
        | true =>
          walk_at "rd"
          refine rd_lenL hc ?_
          walk_at "rd"
          refine rd_lenL hr' ?_
          walk_at "rd"
          rw [List.length_map, List.length_map]
          refine ⟨p, dx, c, r, _, _, cs, rs, rfl, hp, hc, hr', lc, lr, ?_⟩
          cases b2 : (cs.all isBit && rs.all isBit) with
          | false => exact .inl ⟨rfl, fun H' s1 => bad _ (by unfold bitsOk; rw [b2, Bool.and_false]) s1⟩
          | true =>
            refine .inr ⟨rfl, fun H' kp ⟨dx', a, b, h1, h2, h3⟩ => ?_⟩
            have k : ∀ H', KpBut H p H' → ClothAt t.a_Cloth H' p s cs rs → Q .non H' := by
              rcases k with ⟨y, _⟩ | ⟨_, z⟩
              · unfold bitsOk at y; rw [b1, b2] at y; cases y
              · exact z
            walk_at "rd"
            refine rd_sfldv h1 T.cl_Cloth T.na_first_colour (by unfold bfl; exact Nat.lt_of_le_of_lt (length_putF _ _ _) (Nat.lt_of_le_of_lt (Nat.succ_le_succ (length_putF _ _ _)) (Nat.lt_of_le_of_lt (Nat.succ_le_succ (Nat.succ_le_succ (length_putF _ _ _))) (Nat.lt_of_le_of_lt (Nat.succ_le_succ (Nat.succ_le_succ (Nat.succ_le_succ (length_putF _ _ _)))) (by show 4 < 1000; decide))))) ?_
            walk_at "rd"
            have pa : a ≠ p := ne_of h2 h1 (by intro z; cases z)
            have pb : b ≠ p := ne_of h3 h1 (by intro z; cases z)
            refine k _ (fun x o e hx => ?_) ⟨⟨dx', a, b, upd_same, ?_, ?_⟩⟩
            · rw [upd_ne hx]; exact kp x o e hx
            · rw [upd_ne pa]; exact h2
            · rw [upd_ne pb]; exact h3
      · rw [decide_eq_false c2]
        walk_at "rd"
        exact ⟨by show 1 ≤ sizeLine; decide, sz fun z => c2 z.2⟩
    · rw [decide_eq_false c1]
      walk_at "rd"
      exact ⟨by show 1 ≤ sizeLine; decide, sz fun z => c1 z.1⟩
def sp_ClothInit (C : Addr) : Sp := fun vs H Q _ => ∃ (p dx c r : Addr) (s : Int) (cs rs : List Int), vs = [.ref p, .int s, .ref c, .ref r] ∧ H p = some (.ins C dx []) ∧ H c = some (.lst (cs.map V.int)) ∧ H r = some (.lst (rs.map V.int)) ∧
  (s = 0 ∨ s = 1) ∧ Bits cs ∧ Bits rs ∧ ∀ H', (∀ b o, H b = some o → b ≠ p → H' b = some o) → ClothAt C H' p s cs rs → Q .non H'
theorem ok_ClothInit (T : Txt K mg t) : FnOk P w K mg base CX0 6 t.f_ClothInit t.d_ClothInit ["self", "shade", "cols", "rows"] (sp_ClothInit t.a_Cloth) :=
  (okx_ClothInit T).down fun vs H Q E hh => by
    obtain ⟨p, dx, c, r, s, cs, rs, e, hp, hc, hr, hs, bc, br, k⟩ := hh
    exact ⟨p, dx, c, r, s, cs, rs, e, hp, hc, hr, by have := bc.1; omega, by have := br.1; omega, .inr (.inr ⟨⟨bc.1, br.1⟩, Bits.ok hs bc br, k⟩)⟩
end

section
variable {P : Program} {w : World} {K : PySem.W.Frag} {mg : Str → Option Value} {base : Heap} {t : Ad}
def sp_Clothwide (C : Addr) : Sp := fun vs H Q _ => ∃ (p : Addr) (s : Int) (cs rs : List Int), vs = [.ref p] ∧ ClothAt C H p s cs rs ∧ Q (.int ((cs.length : Int) + 1)) H
theorem ok_Clothwide (T : Txt K mg t) : FnOk P w K mg base CX0 1 t.f_Clothwide t.d_Clothwide ["self"] (sp_Clothwide t.a_Cloth) := by
  refine T.F_Clothwide.ok sc_Clothwide (fun vs H Q E h => ?_) (fun cdv A outer s H vs Q E hr h => ?_)
  · obtain ⟨p, s, cs, rs, rfl, _⟩ := h; rfl
  · obtain ⟨p, s, cs, rs, rfl, ⟨dx, a, b, h1, h2, h3⟩, k⟩ := h
    refine ⟨_, (pss_one (ps_ret (pe_fldK K rfl (pv 0) rfl))), ?_⟩
    walk_at "rd"
    refine rd_fldv h1 T.cl_Cloth T.na_columns_count (cfl_w _ _ _) ?_
    walk_at "rd"
    exact k
def sp_Clothtall (C : Addr) : Sp := fun vs H Q _ => ∃ (p : Addr) (s : Int) (cs rs : List Int), vs = [.ref p] ∧ ClothAt C H p s cs rs ∧ Q (.int ((rs.length : Int) + 1)) H
theorem ok_Clothtall (T : Txt K mg t) : FnOk P w K mg base CX0 1 t.f_Clothtall t.d_Clothtall ["self"] (sp_Clothtall t.a_Cloth) := by
  refine T.F_Clothtall.ok sc_Clothtall (fun vs H Q E h => ?_) (fun cdv A outer s H vs Q E hr h => ?_)
  · obtain ⟨p, s, cs, rs, rfl, _⟩ := h; rfl
  · obtain ⟨p, s, cs, rs, rfl, ⟨dx, a, b, h1, h2, h3⟩, k⟩ := h
    refine ⟨_, (pss_one (ps_ret (pe_fldK K rfl (pv 0) rfl))), ?_⟩
    walk_at "rd"
    refine rd_fldv h1 T.cl_Cloth T.na_rows_count (cfl_h _ _ _) ?_
    walk_at "rd"
    exact k
/-- the bits of a way -/
def IsWay (w : Str) (cs rs bs : List Int) : Prop := (w = "col" ∧ bs = cs) ∨ (w = "row" ∧ bs = rs)
theorem rc_ne : ¬ (("row" : Str) = "col") := by decide +kernel
def spx_Clothbitsalong (C NL : Addr) : Sp := fun vs H Q E => ∃ (p : Addr) (w : Str) (s : Int) (cs rs : List Int), vs = [.ref p, .str w] ∧ ClothAt C H p s cs rs ∧
  ((∃ bs, IsWay w cs rs bs ∧ ∀ a, H a = some (.tup (bs.map V.int)) → Q (.ref a) H) ∨ (¬ w = "col" ∧ ¬ w = "row" ∧ E (.ref NL) none H))
theorem okx_Clothbitsalong (T : Txt K mg t) : FnOk P w K mg base (CX1 P w) 1 t.f_Clothbitsalong t.d_Clothbitsalong ["self", "way"] (spx_Clothbitsalong t.a_Cloth t.a_NoLine) := by
  refine T.F_Clothbitsalong.ok1 sc_Clothbitsalong (fun vs H Q E h => ?_) (fun cdv A outer s H vs Q E hr h => ?_)
  · obtain ⟨p, w, s, cs, rs, rfl, _⟩ := h; rfl
  · obtain ⟨p, w, s, cs, rs, rfl, ⟨dx, a, b, h1, h2, h3⟩, hw⟩ := h
    refine cutC (ps_if (pt_cmpR op_eq (pv 1) pe_str (nomark _)) (pss_one (ps_ret (pe_fldK K rfl (pv 0) rfl))) pss_nil) fun _ _ => cutC (ps_if (pt_cmpR op_eq (pv 1) pe_str (nomark _)) (pss_one (ps_ret (pe_fldK K rfl (pv 0) rfl))) pss_nil) fun _ _ => cutE (ps_raiseK T.mg_NoLine T.x_NoLine PySem.F.excBase_ValueError rfl rfl (fun _ _ _ _ _ _ _ _ I m q => xe_new I m q) (pa_cons pe_str pa_nil)) fun _ _ => ?_
    walk_at "rd"
    rcases hw with ⟨bs, ⟨rfl, rfl⟩ | ⟨rfl, rfl⟩, k⟩ | ⟨n1, n2, k⟩
    · rw [decide_eq_true (rfl : ("col" : Str) = "col")]
      walk_at "rd"
      refine rd_fldv h1 T.cl_Cloth T.na_col_bits (cfl_c _ _ _) ?_
      walk_at "rd"
      exact k a h2
    · rw [decide_eq_false rc_ne]
      walk_at "rd"
      rw [decide_eq_true (rfl : ("row" : Str) = "row")]
      walk_at "rd"
      refine rd_fldv h1 T.cl_Cloth T.na_row_bits (cfl_r _ _ _) ?_
      walk_at "rd"
      exact k b h3
    · rw [decide_eq_false n1]
      walk_at "rd"
      rw [decide_eq_false n2]
      walk_at "rd"
      exact ⟨by show 1 ≤ sizeLine; decide, k⟩
def sp_Clothbitsalong (C : Addr) : Sp := fun vs H Q _ => ∃ (p : Addr) (w : Str) (s : Int) (cs rs bs : List Int), vs = [.ref p, .str w] ∧ ClothAt C H p s cs rs ∧ IsWay w cs rs bs ∧ ∀ a, H a = some (.tup (bs.map V.int)) → Q (.ref a) H
/-- there is no such line -/
def NoLn (w : Str) (k : Int) (cs rs : List Int) : Prop := (¬ w = "col" ∧ ¬ w = "row") ∨ ∃ bs, IsWay w cs rs bs ∧ ¬ (0 ≤ k ∧ k < bs.length)
def spx_Clothbit (C NL : Addr) : Sp := fun vs H Q E => ∃ (p : Addr) (w : Str) (k s : Int) (cs rs : List Int), vs = [.ref p, .str w, .int k] ∧ ClothAt C H p s cs rs ∧
  ((∃ bs, IsWay w cs rs bs ∧ 0 ≤ k ∧ k < bs.length ∧ Q (.int (bs.getD k.toNat 0)) H) ∨ (NoLn w k cs rs ∧ E (.ref NL) none H))
theorem okx_Clothbit (T : Txt K mg t) : FnOk P w K mg base (CX1 P w) 3 t.f_Clothbit t.d_Clothbit ["self", "way", "k"] (spx_Clothbit t.a_Cloth t.a_NoLine) := by
  have G_isbelow := ok_isbelow (P := P) (w := w) (base := base) T
  have GX_Clothbitsalong := okx_Clothbitsalong (P := P) (w := w) (base := base) T
  refine T.F_Clothbit.ok1 sc_Clothbit (fun vs H Q E h => ?_) (fun cdv A outer s H vs Q E hr h => ?_)
  · obtain ⟨p, w, k, s, cs, rs, rfl, _⟩ := h; rfl
  · obtain ⟨p, w, k, s, cs, rs, rfl, hc, h⟩ := h
    obtain ⟨dx, a, b, e1, e2, e3⟩ := hc.ob
    refine cutC (ps_set (i := 3) sc_Clothbit.nd rfl (Or.inl rfl) (pe_meth (pv 0) T.cl_Cloth T.m_Clothbitsalong GX_Clothbitsalong (hr.mono (by first | decide | omega)) T.b_Clothbitsalong .nil pass1 (pa_cons (pv 1) pa_nil))) fun _ _ => cutC (ps_if (pt_not (pt_val (pe_call G_isbelow.up (hr.mono (by first | decide | omega)) rfl T.mg_isbelow T.F_isbelow.kp T.b_isbelow .nil pass1 (pa_cons (pv 2) (pa_cons (pe_callB (cI_lenK K rfl) rfl T.no_len (by rfl) (pa_cons (pv 3) pa_nil)) pa_nil))))) (pss_one (ps_raiseK T.mg_NoLine T.x_NoLine PySem.F.excBase_ValueError rfl rfl (fun _ _ _ _ _ _ _ _ I m q => xe_new I m q) (pa_cons pe_str pa_nil))) pss_nil) fun _ _ => cutE (ps_ret (pe_ix (ix_tupK K rfl) (pv 3) (pv 2) (fun _ _ => rfl))) fun _ _ => ?_
    walk_at "rd"
    refine rd_methv e1 (cfl_no _ _ _ (by decide +kernel)) ?_
    walk_at "rd"
    rcases h with ⟨bs, hw, h0, h1, q⟩ | ⟨⟨n1, n2⟩ | ⟨bs, hw, hn⟩, q⟩
    · refine ⟨p, w, s, cs, rs, rfl, hc, .inl ⟨bs, hw, fun z hz => ?_⟩⟩
      walk_at "rd"
      refine rd_lenT hz ?_
      walk_at "rd"
      refine ⟨k, _, rfl, ?_⟩
      rw [List.length_map, decide_eq_true h0, decide_eq_true h1]
      walk_at "rd"
      refine rd_ixT (SqT.of hz) (atI_ints h0 h1) ?_
      exact q
    · exact ⟨p, w, s, cs, rs, rfl, hc, .inr ⟨n1, n2, q⟩⟩
    · refine ⟨p, w, s, cs, rs, rfl, hc, .inl ⟨bs, hw, fun z hz => ?_⟩⟩
      walk_at "rd"
      refine rd_lenT hz ?_
      walk_at "rd"
      refine ⟨k, _, rfl, ?_⟩
      rw [List.length_map]
      have e : (decide (0 ≤ k) && decide (k < (bs.length : Int))) = false := by
        rw [Bool.eq_false_iff]
        intro z
        rw [Bool.and_eq_true, decide_eq_true_eq, decide_eq_true_eq] at z
        exact hn z
      rw [e]
      walk_at "rd"
      exact ⟨by show 1 ≤ sizeLine; decide, q⟩
def sp_Clothbit (C : Addr) : Sp := fun vs H Q _ => ∃ (p : Addr) (w : Str) (k s : Int) (cs rs bs : List Int), vs = [.ref p, .str w, .int k] ∧ ClothAt C H p s cs rs ∧ IsWay w cs rs bs ∧ 0 ≤ k ∧ k < bs.length ∧ Q (.int (bs.getD k.toNat 0)) H
end

section
variable {P : Program} {w : World} {K : PySem.W.Frag} {mg : Str → Option Value} {base : Heap} {t : Ad}
theorem bits_sum {l : List Int} (h : ∀ z ∈ l, z = 0 ∨ z = 1) : 0 ≤ l.sum ∧ l.sum ≤ l.length := by
  induction l with
  | nil => exact ⟨Int.le_refl 0, Int.le_refl 0⟩
  | cons z r ih =>
    have := ih fun y hy => h y (List.mem_cons_of_mem _ hy)
    rw [List.sum_cons, List.length_cons]
    rcases h z List.mem_cons_self with rfl | rfl <;> omega
theorem bits_small {l : List Int} (h : ∀ z ∈ l, z = 0 ∨ z = 1) (hl : l.length ≤ 1000) : SmallSum l := fun k hk => by
  refine ⟨?_, fun n hn => ?_⟩
  · have := bits_sum (l := l.take k) fun z hz => h z (List.mem_of_mem_take hz)
    rw [List.length_take] at this
    unfold InLong
    omega
  · unfold InLong
    rcases h n hn with rfl | rfl <;> decide
theorem cutV_take {zs : List Int} {x : Int} (h : 0 ≤ x) : cutV (zs.map V.int) none (some x) = (zs.take x.toNat).map V.int := by
  obtain ⟨k, rfl⟩ : ∃ k : Nat, x = (k : Int) := ⟨x.toNat, by omega⟩
  unfold cutV
  rw [HT.sIx_none, HT.sIx_nat, List.drop_zero, Nat.sub_zero, Int.toNat_natCast, ← List.map_take]
  congr 1
  rw [List.length_map]
  rcases Nat.le_total k zs.length with h | h
  · rw [Nat.min_eq_left h]
  · rw [Nat.min_eq_right h, List.take_of_length_le (Nat.le_refl _), List.take_of_length_le h]
end

section
variable {P : Program} {w : World} {K : PySem.W.Frag} {mg : Str → Option Value} {base : Heap} {t : Ad}
def inCl (x y : Int) (cs rs : List Int) : Prop := (0 ≤ x ∧ x < (cs.length : Int) + 1) ∧ 0 ≤ y ∧ y < (rs.length : Int) + 1
def spx_needcell (C NC : Addr) : Sp := fun vs H Q E => ∃ (p : Addr) (x y s : Int) (cs rs : List Int), vs = [.ref p, .int x, .int y] ∧ ClothAt C H p s cs rs ∧ ((inCl x y cs rs ∧ Q .non H) ∨ (¬ inCl x y cs rs ∧ E (.ref NC) none H))
theorem below_t {x b : Int} (h : 0 ≤ x ∧ x < b) : (decide (0 ≤ x) && decide (x < b)) = true := by rw [decide_eq_true h.1, decide_eq_true h.2]; rfl
theorem below_f {x b : Int} (h : ¬ (0 ≤ x ∧ x < b)) : (decide (0 ≤ x) && decide (x < b)) = false := by
  rw [Bool.eq_false_iff]
  intro z
  rw [Bool.and_eq_true, decide_eq_true_eq, decide_eq_true_eq] at z
  exact h z
theorem okx_needcell (T : Txt K mg t) : FnOk P w K mg base (CX1 P w) 3 t.f_needcell t.d_needcell ["board", "x", "y"] (spx_needcell t.a_Cloth t.a_NoCell) := by
  have G_isbelow := ok_isbelow (P := P) (w := w) (base := base) T
  have G_Clothwide := ok_Clothwide (P := P) (w := w) (base := base) T
  have G_Clothtall := ok_Clothtall (P := P) (w := w) (base := base) T
  refine T.F_needcell.ok1 sc_needcell (fun vs H Q E h => ?_) (fun cdv A outer s H vs Q E hr h => ?_)
  · obtain ⟨p, x, y, s, cs, rs, rfl, _⟩ := h; rfl
  · obtain ⟨p, x, y, s, cs, rs, rfl, hc, h⟩ := h
    obtain ⟨dx, a, b, e1, e2, e3⟩ := hc.ob
    have nl : ∀ {w h : Int} {m : Str}, NoF m → (cfl s a b w h).lookup m = none := fun x => cfl_no _ _ _ x
    refine ⟨_, (pss_one (ps_if (PW.pt (pw_or (pt_not (pt_val (pe_call G_isbelow.up (hr.mono (by first | decide | omega)) rfl T.mg_isbelow T.F_isbelow.kp T.b_isbelow .nil pass1 (pa_cons (pv 1) (pa_cons (pe_meth0 (pv 0) T.cl_Cloth T.m_Clothwide G_Clothwide.up (hr.mono (by first | decide | omega)) T.b_Clothwide .nil pass1) pa_nil))))) (pw_or1 (pt_not (pt_val (pe_call G_isbelow.up (hr.mono (by first | decide | omega)) rfl T.mg_isbelow T.F_isbelow.kp T.b_isbelow .nil pass1 (pa_cons (pv 2) (pa_cons (pe_meth0 (pv 0) T.cl_Cloth T.m_Clothtall G_Clothtall.up (hr.mono (by first | decide | omega)) T.b_Clothtall .nil pass1) pa_nil)))))))) (pss_one (ps_raiseK T.mg_NoCell T.x_NoCell PySem.F.excBase_ValueError rfl rfl (fun _ _ _ _ _ _ _ _ I m q => xe_new I m q) (pa_cons pe_str pa_nil))) pss_nil)), ?_⟩
    walk_at "rd"
    refine rd_methv e1 (nl (by decide +kernel)) ?_
    walk_at "rd"
    refine ⟨p, s, cs, rs, rfl, hc, ?_⟩
    walk_at "rd"
    refine ⟨x, _, rfl, ?_⟩
    by_cases hx : 0 ≤ x ∧ x < (cs.length : Int) + 1
    · rw [below_t hx]
      walk_at "rd"
      refine rd_methv e1 (nl (by decide +kernel)) ?_
      walk_at "rd"
      refine ⟨p, s, cs, rs, rfl, hc, ?_⟩
      walk_at "rd"
      refine ⟨y, _, rfl, ?_⟩
      by_cases hy : 0 ≤ y ∧ y < (rs.length : Int) + 1
      · rw [below_t hy]
        walk_at "rd"
        rcases h with ⟨_, q⟩ | ⟨n, _⟩
        · exact q
        · exact absurd ⟨hx, hy⟩ n
      · rw [below_f hy]
        walk_at "rd"
        rcases h with ⟨n, _⟩ | ⟨_, q⟩
        · exact absurd n.2 hy
        · exact ⟨by show 1 ≤ sizeLine; decide, q⟩
    · rw [below_f hx]
      walk_at "rd"
      rcases h with ⟨n, _⟩ | ⟨_, q⟩
      · exact absurd n.1 hx
      · exact ⟨by show 1 ≤ sizeLine; decide, q⟩
/-- the colour of a cell, as the program reckons it -/
def colr (s : Int) (cs rs : List Int) (x y : Int) : Int := (s + ((cs.take x.toNat).sum + (rs.take y.toNat).sum + x * y)) % 2
def spx_Clothcolour (C NC : Addr) : Sp := fun vs H Q E => ∃ (p : Addr) (x y s : Int) (cs rs : List Int), vs = [.ref p, .int x, .int y] ∧ ClothAt C H p s cs rs ∧ Bits cs ∧ Bits rs ∧
  ((inCl x y cs rs ∧ ∀ H', Same H H' → Q (.int (colr s cs rs x y)) H') ∨ (¬ inCl x y cs rs ∧ E (.ref NC) none H))
theorem okx_Clothcolour (T : Txt K mg t) : FnOk P w K mg base (CX1 P w) 4 t.f_Clothcolour t.d_Clothcolour ["self", "x", "y"] (spx_Clothcolour t.a_Cloth t.a_NoCell) := by
  have GX_needcell := okx_needcell (P := P) (w := w) (base := base) T
  refine T.F_Clothcolour.ok1 sc_Clothcolour (fun vs H Q E h => ?_) (fun cdv A outer s H vs Q E hr h => ?_)
  · obtain ⟨p, x, y, s, cs, rs, rfl, _⟩ := h; rfl
  · obtain ⟨p, x, y, s, cs, rs, rfl, hc, bc, br, h⟩ := h
    obtain ⟨dx, a, b, e1, e2, e3⟩ := hc.ob
    refine cutC (ps_expr (pe_call GX_needcell (hr.mono (by first | decide | omega)) rfl T.mg_needcell T.F_needcell.kp T.b_needcell .nil pass1 (pa_cons (pv 0) (pa_cons (pv 1) (pa_cons (pv 2) pa_nil))))) fun _ _ => cutC (ps_set (i := 3) sc_Clothcolour.nd rfl (Or.inl rfl) (pe_op op_add (pe_op op_add (pe_callB (cI_sumK K rfl rfl) rfl T.no_sum (by rfl) (pa_cons (pe_slice (sl_tupK K rfl) (pe_fldK K rfl (pv 0) rfl) po_none (po_some (pv 1))) pa_nil)) (pe_callB (cI_sumK K rfl rfl) rfl T.no_sum (by rfl) (pa_cons (pe_slice (sl_tupK K rfl) (pe_fldK K rfl (pv 0) rfl) po_none (po_some (pv 2))) pa_nil))) (pe_op op_mul (pv 1) (pv 2)))) fun _ _ => cutE (ps_ret (pe_op op_mod (pe_op op_add (pe_fldK K rfl (pv 0) rfl) (pv 3)) pe_int)) fun _ _ => ?_
    walk_at "rd"
    rcases h with ⟨i, k⟩ | ⟨n, q⟩
    · obtain ⟨⟨x0, x1⟩, y0, y1⟩ := id i
      refine ⟨p, x, y, s, cs, rs, rfl, hc, .inl ⟨i, ?_⟩⟩
      walk_at "rd"
      refine rd_fldv e1 T.cl_Cloth T.na_col_bits (cfl_c _ _ _) ?_
      walk_at "rd"
      refine rd_slT e2 fun H1 u s1 hu => ?_
      rw [cutV_take x0] at hu
      walk_at "rd"
      refine rd_sumT hu (bits_small (fun z hz => bc.2 z (List.mem_of_mem_take hz)) (by rw [List.length_take]; have := bc.1; omega)) ?_
      walk_at "rd"
      refine rd_fldv (s1 _ _ e1) T.cl_Cloth T.na_row_bits (cfl_r _ _ _) ?_
      walk_at "rd"
      refine rd_slT (s1 _ _ e3) fun H2 v s2 hv => ?_
      rw [cutV_take y0] at hv
      walk_at "rd"
      refine rd_sumT hv (bits_small (fun z hz => br.2 z (List.mem_of_mem_take hz)) (by rw [List.length_take]; have := br.1; omega)) ?_
      walk_at "rd"
      refine rd_I (.inl ⟨by omega, by have := bc.1; omega⟩) ?_
      walk_at "rd"
      refine rd_fldv (s2 _ _ (s1 _ _ e1)) T.cl_Cloth T.na_first_colour (cfl_f _ _ _) ?_
      walk_at "rd"
      refine rd_I (by decide) ?_
      exact k H2 (s1.trans s2)
    · exact ⟨p, x, y, s, cs, rs, rfl, hc, .inr ⟨n, q⟩⟩
def sp_Clothcolour (C : Addr) : Sp := fun vs H Q _ => ∃ (p : Addr) (x y s : Int) (cs rs : List Int), vs = [.ref p, .int x, .int y] ∧ ClothAt C H p s cs rs ∧ Bits cs ∧ Bits rs ∧ 0 ≤ x ∧ x < cs.length + 1 ∧ 0 ≤ y ∧ y < rs.length + 1 ∧
  ∀ H', Same H H' → Q (.int (colr s cs rs x y)) H'
theorem ok_Clothcolour (T : Txt K mg t) : FnOk P w K mg base CX0 4 t.f_Clothcolour t.d_Clothcolour ["self", "x", "y"] (sp_Clothcolour t.a_Cloth) :=
  (okx_Clothcolour T).down fun vs H Q E hh => by
    obtain ⟨p, x, y, s, cs, rs, e, hc, bc, br, x0, x1, y0, y1, k⟩ := hh
    exact ⟨p, x, y, s, cs, rs, e, hc, bc, br, .inl ⟨⟨⟨x0, x1⟩, y0, y1⟩, k⟩⟩
end

section
variable {P : Program} {w : World} {K : PySem.W.Frag} {mg : Str → Option Value} {base : Heap} {t : Ad}
/-- the line is there, its step is not -/
def NoSt (w : Str) (k st : Int) (cs rs : List Int) : Prop := ∃ bs os, IsWay w cs rs bs ∧ IsWay w rs cs os ∧ 0 ≤ k ∧ k < bs.length ∧ ¬ (0 ≤ st ∧ st < (os.length : Int) + 1)
def spx_Clothstitched (C NL NS : Addr) : Sp := fun vs H Q E => ∃ (p : Addr) (w : Str) (k st s : Int) (cs rs : List Int), vs = [.ref p, .str w, .int k, .int st] ∧ ClothAt C H p s cs rs ∧
  ((∃ bs os, IsWay w cs rs bs ∧ IsWay w rs cs os ∧ 0 ≤ k ∧ k < bs.length ∧ 0 ≤ st ∧ st < os.length + 1 ∧ Q (.bl (decide ((st + bs.getD k.toNat 0) % 2 = 1))) H) ∨ (NoLn w k cs rs ∧ E (.ref NL) none H) ∨ (NoSt w k st cs rs ∧ E (.ref NS) none H))
theorem okx_Clothstitched (T : Txt K mg t) : FnOk P w K mg base (CX1 P w) 4 t.f_Clothstitched t.d_Clothstitched ["self", "way", "k", "step"] (spx_Clothstitched t.a_Cloth t.a_NoLine t.a_NoStep) := by
  have G_isbelow := ok_isbelow (P := P) (w := w) (base := base) T
  have GX_Clothbit := okx_Clothbit (P := P) (w := w) (base := base) T
  have G_Clothwide := ok_Clothwide (P := P) (w := w) (base := base) T
  have G_Clothtall := ok_Clothtall (P := P) (w := w) (base := base) T
  refine T.F_Clothstitched.ok1 sc_Clothstitched (fun vs H Q E h => ?_) (fun cdv A outer s H vs Q E hr h => ?_)
  · obtain ⟨p, w, k, st, s, cs, rs, rfl, _⟩ := h; rfl
  · obtain ⟨p, w, k, st, s, cs, rs, rfl, hc, h⟩ := h
    obtain ⟨dx, a, b, e1, e2, e3⟩ := hc.ob
    have nl : ∀ {w h : Int} {m : Str}, NoF m → (cfl s a b w h).lookup m = none := fun x => cfl_no _ _ _ x
    refine cutC (ps_set (i := 4) sc_Clothstitched.nd rfl (Or.inl rfl) (pe_meth (pv 0) T.cl_Cloth T.m_Clothbit GX_Clothbit (hr.mono (by first | decide | omega)) T.b_Clothbit .nil pass1 (pa_cons (pv 1) (pa_cons (pv 2) pa_nil)))) fun _ _ => cutC (ps_set (i := 5) sc_Clothstitched.nd rfl (Or.inl rfl) (pe_ifExp (pt_cmpR op_eq (pv 1) pe_str (nomark _)) (pe_meth0 (pv 0) T.cl_Cloth T.m_Clothtall G_Clothtall.up (hr.mono (by first | decide | omega)) T.b_Clothtall .nil pass1) (pe_meth0 (pv 0) T.cl_Cloth T.m_Clothwide G_Clothwide.up (hr.mono (by first | decide | omega)) T.b_Clothwide .nil pass1))) fun _ _ => cutC (ps_if (pt_not (pt_val (pe_call G_isbelow.up (hr.mono (by first | decide | omega)) rfl T.mg_isbelow T.F_isbelow.kp T.b_isbelow .nil pass1 (pa_cons (pv 3) (pa_cons (pv 5) pa_nil))))) (pss_one (ps_raiseK T.mg_NoStep T.x_NoStep PySem.F.excBase_ValueError rfl rfl (fun _ _ _ _ _ _ _ _ I m q => xe_new I m q) (pa_cons pe_str pa_nil))) pss_nil) fun _ _ => cutE (ps_ret (pe_cmpR op_eq (pe_op op_mod (pe_op op_add (pv 3) (pv 4)) pe_int) pe_int (nomark _))) fun _ _ => ?_
    walk_at "rd"
    refine rd_methv e1 (nl (by decide +kernel)) ?_
    walk_at "rd"
    rcases h with ⟨bs, os, hw, ho, h0, h1, g0, g1, q⟩ | ⟨n, q⟩ | ⟨⟨bs, os, hw, ho, h0, h1, hn⟩, q⟩
    · refine ⟨p, w, k, s, cs, rs, rfl, hc, .inl ⟨bs, hw, h0, h1, ?_⟩⟩
      walk_at "rd"
      rcases ho with ⟨rfl, rfl⟩ | ⟨rfl, rfl⟩
      · rw [decide_eq_true (rfl : ("col" : Str) = "col")]
        walk_at "rd"
        refine rd_methv e1 (nl (by decide +kernel)) ?_
        walk_at "rd"
        refine ⟨p, s, cs, _, rfl, hc, ?_⟩
        walk_at "rd"
        refine ⟨st, _, rfl, ?_⟩
        rw [decide_eq_true g0, decide_eq_true g1]
        walk_at "rd"
        refine rd_I (by decide) ?_
        walk_at "rd"
        exact q
      · rw [decide_eq_false rc_ne]
        walk_at "rd"
        refine rd_methv e1 (nl (by decide +kernel)) ?_
        walk_at "rd"
        refine ⟨p, s, _, rs, rfl, hc, ?_⟩
        walk_at "rd"
        refine ⟨st, _, rfl, ?_⟩
        rw [decide_eq_true g0, decide_eq_true g1]
        walk_at "rd"
        refine rd_I (by decide) ?_
        walk_at "rd"
        exact q
    · exact ⟨p, w, k, s, cs, rs, rfl, hc, .inr ⟨n, q⟩⟩
    · refine ⟨p, w, k, s, cs, rs, rfl, hc, .inl ⟨bs, hw, h0, h1, ?_⟩⟩
      walk_at "rd"
      rcases ho with ⟨rfl, rfl⟩ | ⟨rfl, rfl⟩
      · rw [decide_eq_true (rfl : ("col" : Str) = "col")]
        walk_at "rd"
        refine rd_methv e1 (nl (by decide +kernel)) ?_
        walk_at "rd"
        refine ⟨p, s, cs, _, rfl, hc, ?_⟩
        walk_at "rd"
        refine ⟨st, _, rfl, ?_⟩
        rw [below_f hn]
        walk_at "rd"
        exact ⟨by show 1 ≤ sizeLine; decide, q⟩
      · rw [decide_eq_false rc_ne]
        walk_at "rd"
        refine rd_methv e1 (nl (by decide +kernel)) ?_
        walk_at "rd"
        refine ⟨p, s, _, rs, rfl, hc, ?_⟩
        walk_at "rd"
        refine ⟨st, _, rfl, ?_⟩
        rw [below_f hn]
        walk_at "rd"
        exact ⟨by show 1 ≤ sizeLine; decide, q⟩
def sp_Clothstitched (C : Addr) : Sp := fun vs H Q _ => ∃ (p : Addr) (w : Str) (k st s : Int) (cs rs bs os : List Int), vs = [.ref p, .str w, .int k, .int st] ∧ ClothAt C H p s cs rs ∧ IsWay w cs rs bs ∧ IsWay w rs cs os ∧ 0 ≤ k ∧ k < bs.length ∧ 0 ≤ st ∧ st < os.length + 1 ∧
  Q (.bl (decide ((st + bs.getD k.toNat 0) % 2 = 1))) H
theorem ok_Clothstitched (T : Txt K mg t) : FnOk P w K mg base CX0 4 t.f_Clothstitched t.d_Clothstitched ["self", "way", "k", "step"] (sp_Clothstitched t.a_Cloth) :=
  (okx_Clothstitched T).down fun vs H Q E hh => by
    obtain ⟨p, w, k, st, s, cs, rs, bs, os, e, hc, hw, ho, h0, h1, g0, g1, q⟩ := hh
    exact ⟨p, w, k, st, s, cs, rs, e, hc, .inl ⟨bs, os, hw, ho, h0, h1, g0, g1, q⟩⟩
end

local macro_rules | `(tactic| walk_at "rdf1") => `(tactic| first
  | ((with_reducible refine' rd_var (v := ?kv) ?ke ?kh); (case ke => exact rfl))
  | (with_reducible refine rd_seqA fun _ _ => ?_) | (with_reducible refine rd_asg ?_) | (with_reducible refine rd_name ?_) | (with_reducible refine rd_ret ?_) | (with_reducible refine rd_retN ?_) | (with_reducible refine rd_drop ?_)
  | (with_reducible refine rd_ifS ?_) | (with_reducible refine rd_tB ?_) | (with_reducible refine rd_tTest ?_) | (with_reducible refine rd_exbl ?_) | (with_reducible refine rd_c ?_) | (with_reducible refine rd_op ?_) | (with_reducible refine rd_un ?_)
  | (with_reducible refine rd_andV ?_) | (with_reducible refine rd_orV ?_) | (with_reducible refine rd_notV ?_) | (with_reducible refine rd_and ?_) | (with_reducible refine rd_or ?_) | (with_reducible refine rd_not ?_) | (with_reducible refine rd_true ?_)
  | (with_reducible refine rd_I0 ?_) | (with_reducible refine rd_U ?_) | (with_reducible refine rd_eqI ?_) | (with_reducible refine rd_neI ?_) | (with_reducible refine rd_eqS ?_) | (with_reducible refine rd_eqB ?_) | (with_reducible refine rd_neB ?_)
  | (with_reducible refine rd_chain ?_) | (with_reducible refine rd_call ?_) | (with_reducible refine rd_nil ?_) | (with_reducible refine rd_cons ?_) | (with_reducible refine rd_CB ?_) | (with_reducible refine rd_tup ?_) | (with_reducible refine rd_lst ?_)
  | (with_reducible refine rd_next ?_) | (with_reducible refine rd_try2 ?_) | (with_reducible refine rd_thawE ?_) | (with_reducible refine rd_thawS ?_) | (with_reducible refine rd_ivals ?_) | (with_reducible refine rd_iitems ?_) | ((with_reducible refine' rd_aug (x := ?kv) ?ke ?kh); (case ke => exact rfl)) | (with_reducible refine rd_ipI ?_) | (with_reducible refine rd_gcons ?_) | (with_reducible refine rd_gnil ?_) | (with_reducible refine rd_gsub ?_) | (with_reducible refine rd_sfld ?_) | (with_reducible refine rd_while ?_) | (with_reducible refine rd_comp ?_) | (with_reducible refine rd_fld ?_) | (with_reducible refine rd_meth ?_) | (with_reducible refine rd_make ?_) | (with_reducible refine rd_raise ?_) | (with_reducible refine rd_try ?_) | (with_reducible refine rd_callS ?_) | (with_reducible refine rd_methS ?_) | (with_reducible refine rd_makeS ?_) | (with_reducible refine rd_bm ?_) | (with_reducible refine rd_bm0 ?_) | (with_reducible refine rd_sl ?_) | (with_reducible refine rd_nopart ?_) | (with_reducible refine rd_part ?_) | (with_reducible refine rd_exint ?_) | (with_reducible refine rd_exref ?_)
  | (with_reducible refine rd_if ?_) | (with_reducible refine rd_augS ?_) | (with_reducible refine rd_dput ?_) | (with_reducible refine rd_din ?_) | (with_reducible refine rd_dnotin ?_) | (with_reducible refine rd_dnewT ?_) | (with_reducible refine rd_dnewK ?_) | (with_reducible refine rd_par ?_) | (with_reducible refine rd_dget ?_) | (with_reducible refine rd_disp1 ?_) | (with_reducible refine rd_dget1 ?_) | (with_reducible refine rd_dget2 ?_) | (with_reducible refine rd_dpop1 ?_) | (with_reducible refine rd_rng3 ?_) | (with_reducible refine rd_ienum ?_) | (with_reducible refine rd_abs ?_) | (with_reducible refine rd_min2 ?_) | (with_reducible refine rd_max2 ?_) | (with_reducible refine rd_intB ?_) | (with_reducible refine rd_for ?_) | (with_reducible refine rd_rng1 ?_) | (with_reducible refine rd_ilist ?_) | (with_reducible refine rd_itup ?_) | (with_reducible refine rd_izipS ?_) | (with_reducible refine iteT ?_) | (with_reducible refine iteF ?_) | (with_reducible refine if_true_do ?_) | (with_reducible refine iteNN ?_) | (with_reducible refine iteTA ?_) | (with_reducible refine iteFA ?_) | ((with_reducible refine' rd_cut (r := ?kr) ?ke ?kh); (case ke => assumption)) | (dsimp only))
local macro_rules | `(tactic| walk_at "rdf") => `(tactic| repeat walk_at "rdf1")

section
variable {P : Program} {w : World} {K : PySem.W.Frag} {mg : Str → Option Value} {base : Heap} {t : Ad}
/-! facts and strips -/
inductive Fct where
  | cell (x y c : Int)
  | line (col : Bool) (k s : Int) (b : Bool)
  deriving DecidableEq
def wyS (col : Bool) : Str := if col = true then "col" else "row"
def stS (col : Bool) (k : Int) : List Key := if col = true then sx k else sy k
def Fct.vs : Fct → List V
  | .cell x y c => [.str "cell", .int x, .int y, .int c]
  | .line col k s b => [.str (wyS col), .int k, .int s, .bl b]
def Fct.tie : Fct → Fm.Tie
  | .cell x y c => (sx x, sy y, (c + x * y) % 2)
  | .line col k s b => (stS col k, stS col (k + 1), if b = true then (s + 1) % 2 else s % 2)
/-- of what the cloth has -/
def Fct.inW (wd ht : Int) : Fct → Prop
  | .cell x y c => (0 ≤ x ∧ x < wd) ∧ (0 ≤ y ∧ y < ht) ∧ (c = 0 ∨ c = 1)
  | .line true k s _ => (0 ≤ k ∧ k < wd - 1) ∧ 0 ≤ s ∧ s < ht
  | .line false k s _ => (0 ≤ k ∧ k < ht - 1) ∧ 0 ≤ s ∧ s < wd
def PrAt (H : Hp) (T a b : Addr) (s u : List Key) : Prop := H T = some (.tup [.ref a, .ref b]) ∧ H a = some (.tup (s.map kV)) ∧ H b = some (.tup (u.map kV))
theorem rk_ne : ¬ (("row" : Str) = "col") := by decide +kernel
theorem wy_cell (col : Bool) : decide (wyS col = "cell") = false := by cases col <;> exact decide_eq_false (by decide +kernel)
theorem wy_col (col : Bool) : decide (wyS col = "col") = col := by cases col; exact decide_eq_false rk_ne; exact decide_eq_true rfl
def sp_cellstrips : Sp := fun vs H Q _ => ∃ x y, vs = [.int x, .int y] ∧ ∀ T a b H', Same H H' → PrAt H' T a b (sx x) (sy y) → Q (.ref T) H'
theorem ok_cellstrips (T : Txt K mg t) : FnOk P w K mg base CX0 1 t.f_cellstrips t.d_cellstrips ["x", "y"] sp_cellstrips := by
  refine T.F_cellstrips.ok sc_cellstrips (fun vs H Q E h => ?_) (fun cdv A outer s H vs Q E hr h => ?_)
  · obtain ⟨x, y, rfl, _⟩ := h; rfl
  · obtain ⟨x, y, rfl, k⟩ := h
    refine ⟨_, (pss_one (ps_ret (pe_tup (pa_cons (pe_tup (pa_cons pe_str (pa_cons (pv 0) pa_nil))) (pa_cons (pe_tup (pa_cons pe_str (pa_cons (pv 1) pa_nil))) pa_nil))))), ?_⟩
    walk_at "rdf"
    refine ⟨by show 2 ≤ sizeLine; decide, fun a na => ?_⟩
    have sa := Same.new (o := HO.tup [V.str (Str.ofString "x"), V.int x]) na
    have ea := upd_same (H := H) (a := a) (o := HO.tup [V.str (Str.ofString "x"), V.int x])
    generalize upd H a (HO.tup [V.str (Str.ofString "x"), V.int x]) = H1 at sa ea ⊢
    walk_at "rdf"
    refine ⟨by show 2 ≤ sizeLine; decide, fun b nb => ?_⟩
    have sb := Same.new (o := HO.tup [V.str (Str.ofString "y"), V.int y]) nb
    have eb := upd_same (H := H1) (a := b) (o := HO.tup [V.str (Str.ofString "y"), V.int y])
    generalize upd H1 b (HO.tup [V.str (Str.ofString "y"), V.int y]) = H2 at sb eb ⊢
    walk_at "rdf"
    refine ⟨by show 2 ≤ sizeLine; decide, fun c nc => ?_⟩
    have sc := Same.new (o := HO.tup [V.ref a, V.ref b]) nc
    have ec := upd_same (H := H2) (a := c) (o := HO.tup [V.ref a, V.ref b])
    generalize upd H2 c (HO.tup [V.ref a, V.ref b]) = H3 at sc ec ⊢
    walk_at "rdf"
    exact k c a b H3 ((sa.trans sb).trans sc) ⟨ec, sc _ _ (sb _ _ ea), sc _ _ eb⟩
def sp_linestrips : Sp := fun vs H Q _ => ∃ col k, vs = [.str (wyS col), .int k] ∧ ∀ T a b H', Same H H' → PrAt H' T a b (stS col k) (stS col (k + 1)) → Q (.ref T) H'
theorem ok_linestrips (T : Txt K mg t) : FnOk P w K mg base CX0 1 t.f_linestrips t.d_linestrips ["way", "k"] sp_linestrips := by
  refine T.F_linestrips.ok sc_linestrips (fun vs H Q E h => ?_) (fun cdv A outer s H vs Q E hr h => ?_)
  · obtain ⟨col, k, rfl, _⟩ := h; rfl
  · obtain ⟨col, k, rfl, q⟩ := h
    refine ⟨_, (pss_cons (ps_set (i := 2) sc_linestrips.nd rfl (Or.inl rfl) (pe_ifExp (pt_cmpR op_eq (pv 0) pe_str (nomark _)) pe_str pe_str)) (pss_one (ps_ret (pe_tup (pa_cons (pe_tup (pa_cons (pv 2) (pa_cons (pv 1) pa_nil))) (pa_cons (pe_tup (pa_cons (pv 2) (pa_cons (pe_op op_add (pv 1) pe_int) pa_nil))) pa_nil)))))), ?_⟩
    walk_at "rdf"
    rw [wy_col]
    cases col with
    | true =>
      walk_at "rdf"
      refine ⟨by show 2 ≤ sizeLine; decide, fun a na => ?_⟩
      have sa := Same.new (o := HO.tup [V.str (Str.ofString "x"), V.int k]) na
      have ea := upd_same (H := H) (a := a) (o := HO.tup [V.str (Str.ofString "x"), V.int k])
      generalize upd H a (HO.tup [V.str (Str.ofString "x"), V.int k]) = H1 at sa ea ⊢
      walk_at "rdf"
      refine ⟨by show 2 ≤ sizeLine; decide, fun b nb => ?_⟩
      have sb := Same.new (o := HO.tup [V.str (Str.ofString "x"), V.int (k + 1)]) nb
      have eb := upd_same (H := H1) (a := b) (o := HO.tup [V.str (Str.ofString "x"), V.int (k + 1)])
      generalize upd H1 b (HO.tup [V.str (Str.ofString "x"), V.int (k + 1)]) = H2 at sb eb ⊢
      walk_at "rdf"
      refine ⟨by show 2 ≤ sizeLine; decide, fun c nc => ?_⟩
      have sc := Same.new (o := HO.tup [V.ref a, V.ref b]) nc
      have ec := upd_same (H := H2) (a := c) (o := HO.tup [V.ref a, V.ref b])
      generalize upd H2 c (HO.tup [V.ref a, V.ref b]) = H3 at sc ec ⊢
      walk_at "rdf"
      exact q c a b H3 ((sa.trans sb).trans sc) ⟨ec, sc _ _ (sb _ _ ea), sc _ _ eb⟩
    | false =>
      walk_at "rdf"
      refine ⟨by show 2 ≤ sizeLine; decide, fun a na => ?_⟩
      have sa := Same.new (o := HO.tup [V.str (Str.ofString "y"), V.int k]) na
      have ea := upd_same (H := H) (a := a) (o := HO.tup [V.str (Str.ofString "y"), V.int k])
      generalize upd H a (HO.tup [V.str (Str.ofString "y"), V.int k]) = H1 at sa ea ⊢
      walk_at "rdf"
      refine ⟨by show 2 ≤ sizeLine; decide, fun b nb => ?_⟩
      have sb := Same.new (o := HO.tup [V.str (Str.ofString "y"), V.int (k + 1)]) nb
      have eb := upd_same (H := H1) (a := b) (o := HO.tup [V.str (Str.ofString "y"), V.int (k + 1)])
      generalize upd H1 b (HO.tup [V.str (Str.ofString "y"), V.int (k + 1)]) = H2 at sb eb ⊢
      walk_at "rdf"
      refine ⟨by show 2 ≤ sizeLine; decide, fun c nc => ?_⟩
      have sc := Same.new (o := HO.tup [V.ref a, V.ref b]) nc
      have ec := upd_same (H := H2) (a := c) (o := HO.tup [V.ref a, V.ref b])
      generalize upd H2 c (HO.tup [V.ref a, V.ref b]) = H3 at sc ec ⊢
      walk_at "rdf"
      exact q c a b H3 ((sa.trans sb).trans sc) ⟨ec, sc _ _ (sb _ _ ea), sc _ _ eb⟩
def sp_factstrips : Sp := fun vs H Q _ => ∃ (p : Addr) (f : Fct), vs = [.ref p] ∧ H p = some (.tup f.vs) ∧ ∀ T a b H', Same H H' → PrAt H' T a b f.tie.1 f.tie.2.1 → Q (.ref T) H'
theorem ok_factstrips (T : Txt K mg t) : FnOk P w K mg base CX0 2 t.f_factstrips t.d_factstrips ["fact"] sp_factstrips := by
  have G_cellstrips := ok_cellstrips (P := P) (w := w) (base := base) T
  have G_linestrips := ok_linestrips (P := P) (w := w) (base := base) T
  refine T.F_factstrips.ok sc_factstrips (fun vs H Q E h => ?_) (fun cdv A outer s H vs Q E hr h => ?_)
  · obtain ⟨p, f, rfl, _⟩ := h; rfl
  · obtain ⟨p, f, rfl, hp, k⟩ := h
    refine ⟨_, (pss_cons (ps_if (pt_cmpR op_eq (pe_ix (ix_tupK K rfl) (pv 0) pe_int (fun _ _ => rfl)) pe_str (nomark _)) (pss_one (ps_ret (pe_call G_cellstrips (hr.mono (by first | decide | omega)) rfl T.mg_cellstrips T.F_cellstrips.kp T.b_cellstrips .nil pass0 (pa_cons (pe_ix (ix_tupK K rfl) (pv 0) pe_int (fun _ _ => rfl)) (pa_cons (pe_ix (ix_tupK K rfl) (pv 0) pe_int (fun _ _ => rfl)) pa_nil))))) pss_nil) (pss_one (ps_ret (pe_call G_linestrips (hr.mono (by first | decide | omega)) rfl T.mg_linestrips T.F_linestrips.kp T.b_linestrips .nil pass0 (pa_cons (pe_ix (ix_tupK K rfl) (pv 0) pe_int (fun _ _ => rfl)) (pa_cons (pe_ix (ix_tupK K rfl) (pv 0) pe_int (fun _ _ => rfl)) pa_nil)))))), ?_⟩
    cases f with
    | cell x y c =>
      walk_at "rdf"
      refine rd_ixT (SqT.of hp) (v := .str "cell") rfl ?_
      walk_at "rdf"
      rw [decide_eq_true (rfl : ("cell" : Str) = "cell")]
      walk_at "rdf"
      refine rd_ixT (SqT.of hp) (v := .int x) rfl ?_
      walk_at "rdf"
      refine rd_ixT (SqT.of hp) (v := .int y) rfl ?_
      walk_at "rdf"
      exact ⟨x, y, rfl, k⟩
    | line col kk s b =>
      walk_at "rdf"
      refine rd_ixT (SqT.of hp) (v := .str (wyS col)) rfl ?_
      walk_at "rdf"
      rw [wy_cell]
      walk_at "rdf"
      refine rd_ixT (SqT.of hp) (v := .str (wyS col)) rfl ?_
      walk_at "rdf"
      refine rd_ixT (SqT.of hp) (v := .int kk) rfl ?_
      walk_at "rdf"
      exact ⟨col, kk, rfl, k⟩
def sp_factweight : Sp := fun vs H Q _ => ∃ (p : Addr) (f : Fct) (wd ht : Int), vs = [.ref p] ∧ H p = some (.tup f.vs) ∧ f.inW wd ht ∧ wd ≤ 40 ∧ ht ≤ 40 ∧ Q (.int f.tie.2.2) H
theorem ok_factweight (T : Txt K mg t) : FnOk P w K mg base CX0 1 t.f_factweight t.d_factweight ["fact"] sp_factweight := by
  refine T.F_factweight.ok sc_factweight (fun vs H Q E h => ?_) (fun cdv A outer s H vs Q E hr h => ?_)
  · obtain ⟨p, f, wd, ht, rfl, _⟩ := h; rfl
  · obtain ⟨p, f, wd, ht, rfl, hp, hi, lw, lh, k⟩ := h
    refine ⟨_, (pss_cons (ps_if (pt_cmpR op_eq (pe_ix (ix_tupK K rfl) (pv 0) pe_int (fun _ _ => rfl)) pe_str (nomark _)) (pss_one (ps_ret (pe_op op_mod (pe_op op_add (pe_ix (ix_tupK K rfl) (pv 0) pe_int (fun _ _ => rfl)) (pe_op op_mul (pe_ix (ix_tupK K rfl) (pv 0) pe_int (fun _ _ => rfl)) (pe_ix (ix_tupK K rfl) (pv 0) pe_int (fun _ _ => rfl)))) pe_int))) pss_nil) (pss_one (ps_ret (pe_ifExp (pt_val (pe_ix (ix_tupK K rfl) (pv 0) pe_int (fun _ _ => rfl))) (pe_op op_mod (pe_op op_add (pe_ix (ix_tupK K rfl) (pv 0) pe_int (fun _ _ => rfl)) pe_int) pe_int) (pe_op op_mod (pe_ix (ix_tupK K rfl) (pv 0) pe_int (fun _ _ => rfl)) pe_int))))), ?_⟩
    cases f with
    | cell x y c =>
      obtain ⟨⟨x0, x1⟩, ⟨y0, y1⟩, _⟩ := hi
      walk_at "rdf"
      refine rd_ixT (SqT.of hp) (v := .str "cell") rfl ?_
      walk_at "rdf"
      rw [decide_eq_true (rfl : ("cell" : Str) = "cell")]
      walk_at "rdf"
      refine rd_ixT (SqT.of hp) (v := .int c) rfl ?_
      walk_at "rdf"
      refine rd_ixT (SqT.of hp) (v := .int x) rfl ?_
      walk_at "rdf"
      refine rd_ixT (SqT.of hp) (v := .int y) rfl ?_
      walk_at "rdf"
      refine rd_I (.inl ⟨by omega, by omega⟩) ?_
      walk_at "rdf"
      refine rd_I (by decide) ?_
      walk_at "rdf"
      exact k
    | line col kk s b =>
      walk_at "rdf"
      refine rd_ixT (SqT.of hp) (v := .str (wyS col)) rfl ?_
      walk_at "rdf"
      rw [wy_cell]
      walk_at "rdf"
      refine rd_ixT (SqT.of hp) (v := .bl b) rfl ?_
      walk_at "rdf"
      cases b with
      | true =>
        walk_at "rdf"
        refine rd_ixT (SqT.of hp) (v := .int s) rfl ?_
        walk_at "rdf"
        refine rd_I (by decide) ?_
        walk_at "rdf"
        exact k
      | false =>
        walk_at "rdf"
        refine rd_ixT (SqT.of hp) (v := .int s) rfl ?_
        walk_at "rdf"
        refine rd_I (by decide) ?_
        walk_at "rdf"
        exact k
end

section
variable {P : Program} {w : World} {K : PySem.W.Frag} {mg : Str → Option Value} {base : Heap} {t : Ad}
/-! groups in the heap -/
def NoT (H : Hp) (S : List Addr) : Prop := ∀ x ∈ S, ∀ xs, H x ≠ some (.tup xs)
theorem but_tup {S : List Addr} {H H' : Hp} (m : ButL S H H') (n : NoT H S) {b : Addr} {xs : List V} (e : H b = some (.tup xs)) : H' b = some (.tup xs) := m b _ e fun z => n b z xs e
def stripsD (n m : Nat) : List (List Key) := (List.range n).map (fun i => sx ((i : Nat) : Int)) ++ (List.range m).map fun i => sy ((i : Nat) : Int)
theorem mem_sx {n m : Nat} {i : Int} (h0 : 0 ≤ i) (h1 : i < n) : sx i ∈ stripsD n m := List.mem_append_left _ (List.mem_map.mpr ⟨i.toNat, List.mem_range.mpr (by omega), by rw [show ((i.toNat : Nat) : Int) = i by omega]⟩)
theorem mem_sy {n m : Nat} {i : Int} (h0 : 0 ≤ i) (h1 : i < m) : sy i ∈ stripsD n m := List.mem_append_right _ (List.mem_map.mpr ⟨i.toNat, List.mem_range.mpr (by omega), by rw [show ((i.toNat : Nat) : Int) = i by omega]⟩)
theorem stripsD_mem {n m : Nat} {s : List Key} (h : s ∈ stripsD n m) : (∃ i : Nat, i < n ∧ s = sx i) ∨ ∃ i : Nat, i < m ∧ s = sy i := by
  rcases List.mem_append.mp h with h | h <;> obtain ⟨i, hi, rfl⟩ := List.mem_map.mp h <;> have hi := List.mem_range.mp hi
  · exact .inl ⟨i, hi, rfl⟩
  · exact .inr ⟨i, hi, rfl⟩
theorem stripsD_strip {n m : Nat} {s : List Key} (h : s ∈ stripsD n m) : IsStrip s := by
  rcases stripsD_mem h with ⟨i, _, e⟩ | ⟨i, _, e⟩
  · exact ⟨i, .inl e⟩
  · exact ⟨i, .inr e⟩
theorem nodup_mapr {f : Nat → List Key} (hf : ∀ i j, f i = f j → i = j) (n : Nat) : ((List.range n).map f).Nodup := List.pairwise_map.mpr (List.nodup_range.imp fun h z => h (hf _ _ z))
theorem stripsD_nodup (n m : Nat) : (stripsD n m).Nodup := by
  refine List.nodup_append.mpr ⟨nodup_mapr (fun i j h => by have := sx_inj h; omega) n, nodup_mapr (fun i j h => by have := sy_inj h; omega) m, fun a ha b hb e => ?_⟩
  obtain ⟨i, _, rfl⟩ := List.mem_map.mp ha
  obtain ⟨j, _, rfl⟩ := List.mem_map.mp hb
  exact sxy_ne e
theorem stripsD_len (n m : Nat) : (stripsD n m).length = n + m := by unfold stripsD; rw [List.length_append, List.length_map, List.length_map, List.length_range, List.length_range]
theorem Fct.inD {f : Fct} {n m : Nat} (h : f.inW n m) : f.tie.1 ∈ stripsD n m ∧ f.tie.2.1 ∈ stripsD n m := by
  cases f with
  | cell x y c => obtain ⟨⟨x0, x1⟩, ⟨y0, y1⟩, _⟩ := h; exact ⟨mem_sx x0 x1, mem_sy y0 y1⟩
  | line col k s b =>
    cases col with
    | true => obtain ⟨⟨k0, k1⟩, _⟩ := h; exact ⟨mem_sx k0 (by omega), mem_sx (by omega) (by omega)⟩
    | false => obtain ⟨⟨k0, k1⟩, _⟩ := h; exact ⟨mem_sy k0 (by omega), mem_sy (by omega) (by omega)⟩
/-- a strip's lead and weight -/
def GE (H : Hp) (kvs : List (List Key × V)) (G : List Key → List Key × Int) (s : List Key) : Prop := ∃ a b, valV kvs s = some (.ref a) ∧ H a = some (.tup [.ref b, .int (G s).2]) ∧ H b = some (.tup ((G s).1.map kV))
structure GrpAt (H : Hp) (d : Addr) (D : List (List Key)) (G : List Key → List Key × Int) : Prop where
  ob : ∃ kvs, H d = some (.dT kvs) ∧ kvs.map (·.1) = D ∧ ∀ s ∈ D, GE H kvs G s
  st : ∀ s ∈ D, IsStrip (G s).1
theorem GrpAt.but {S : List Addr} {H H' : Hp} {d : Addr} {D : List (List Key)} {G : List Key → List Key × Int} (h : GrpAt H d D G) (m : ButL S H H') (n : NoT H S) (hd : d ∉ S) : GrpAt H' d D G := by
  obtain ⟨⟨kvs, e, hk, hv⟩, st⟩ := h
  refine ⟨⟨kvs, m _ _ e hd, hk, fun s hs => ?_⟩, st⟩
  obtain ⟨a, b, h1, h2, h3⟩ := hv s hs
  exact ⟨a, b, h1, but_tup m n h2, but_tup m n h3⟩
theorem GrpAt.mono {H H' : Hp} {d : Addr} {D : List (List Key)} {G : List Key → List Key × Int} (h : GrpAt H d D G) (m : Same H H') : GrpAt H' d D G := h.but (m.butL []) (fun x hx => nomatch hx) (fun z => nomatch z)
theorem GrpAt.congr {H : Hp} {d : Addr} {D : List (List Key)} {G G' : List Key → List Key × Int} (h : GrpAt H d D G) (e : ∀ s ∈ D, G' s = G s) : GrpAt H d D G' := by
  obtain ⟨⟨kvs, e1, hk, hv⟩, st⟩ := h
  refine ⟨⟨kvs, e1, hk, fun s hs => ?_⟩, fun s hs => by rw [e s hs]; exact st s hs⟩
  unfold GE
  rw [e s hs]; exact hv s hs
theorem grp_put {H : Hp} {d a b : Addr} {D : List (List Key)} {G : List Key → List Key × Int} {kvs : List (List Key × V)} {s : List Key} (e : H d = some (.dT kvs)) (keys : (putK kvs s (.ref a)).map (·.1) = D) (hv : ∀ u ∈ D, u ≠ s → GE H kvs G u)
    (ea : H a = some (.tup [.ref b, .int (G s).2])) (eb : H b = some (.tup ((G s).1.map kV))) (st : ∀ u ∈ D, IsStrip (G u).1) : GrpAt (upd H d (.dT (putK kvs s (.ref a)))) d D G := by
  have nt : ∀ c xs, H c = some (.tup xs) → upd H d (.dT (putK kvs s (.ref a))) c = some (.tup xs) := fun c xs hc => by rw [upd_ne (ne_of hc e (fun z => nomatch z))]; exact hc
  refine ⟨⟨_, upd_same, keys, fun u hu => ?_⟩, st⟩
  by_cases hus : u = s
  · subst hus
    exact ⟨a, b, by rw [valV_put, if_pos rfl], nt _ _ ea, nt _ _ eb⟩
  · obtain ⟨a', b', h1, h2, h3⟩ := hv u hu hus
    exact ⟨a', b', by rw [valV_put, if_neg hus]; exact h1, nt _ _ h2, nt _ _ h3⟩
def sp_lonegroups : Sp := fun vs H Q _ => ∃ n m : Nat, vs = [.int n, .int m] ∧ n ≤ 40 ∧ m ≤ 40 ∧ ∀ d H', Same H H' → H d = none → GrpAt H' d (stripsD n m) Fm.lone → Q (.ref d) H'
theorem ok_lonegroups (T : Txt K mg t) : FnOk P w K mg base CX0 1 t.f_lonegroups t.d_lonegroups ["wide", "tall"] sp_lonegroups := by
  refine T.F_lonegroups.ok sc_lonegroups (fun vs H Q E h => ?_) (fun cdv A outer s H vs Q E hr h => ?_)
  · obtain ⟨n, m, rfl, _⟩ := h; rfl
  · obtain ⟨n, m, rfl, ln, lm, k⟩ := h
    refine cutC (ps_set (i := 2) sc_lonegroups.nd rfl (Or.inl rfl) pe_dnewT) fun _ _ => cutC (ps_for PassesOwn.never rfl (pi_range1 rfl T.no_range (pa_cons (pv 0) pa_nil)) (pg_name (i := 3) sc_lonegroups.nd rfl (Or.inl rfl)) (pss_one (ps_dput (hu_of hr) (pv 2) (pe_tup (pa_cons pe_str (pa_cons (pv 3) pa_nil))) (pe_tup (pa_cons (pe_tup (pa_cons pe_str (pa_cons (pv 3) pa_nil))) (pa_cons pe_int pa_nil))) rfl))) fun _ _ => cutC (ps_for PassesOwn.never rfl (pi_range1 rfl T.no_range (pa_cons (pv 1) pa_nil)) (pg_name (i := 4) sc_lonegroups.nd rfl (Or.inl rfl)) (pss_one (ps_dput (hu_of hr) (pv 2) (pe_tup (pa_cons pe_str (pa_cons (pv 4) pa_nil))) (pe_tup (pa_cons (pe_tup (pa_cons pe_str (pa_cons (pv 4) pa_nil))) (pa_cons pe_int pa_nil))) rfl))) fun _ _ => cutE (ps_ret (pv 2)) fun _ _ => ?_
    walk_at "rdf"
    refine fun d nd => ?_
    have s0 := Same.new (o := HO.dT []) nd
    have e0 : GrpAt (upd H d (HO.dT [])) d (stripsD 0 0) Fm.lone := ⟨⟨[], upd_same, rfl, fun s hs => nomatch hs⟩, fun s hs => nomatch hs⟩
    generalize upd H d (HO.dT []) = H0 at s0 e0 ⊢
    walk_at "rdf"
    refine ⟨n, rfl, by omega, by omega, ?_⟩
    rw [Int.toNat_natCast]
    refine forW_range (fun i σ' H' => ∃ o3 : Option V, σ' = [some (.int n), some (.int m), some (.ref d), o3, none] ∧ Same H H' ∧ GrpAt H' d (stripsD i 0) Fm.lone) ⟨none, rfl, s0, e0⟩ ?_ ?_
    · rintro i σ' H1 hi ⟨o3, rfl, s1, g1⟩
      rw [Int.zero_add]
      walk_at "rdf"
      refine ⟨by show 2 ≤ sizeLine; decide, fun b nb => ?_⟩
      have sb := Same.new (o := HO.tup [V.str (Str.ofString "x"), V.int (i : Nat)]) nb
      have eb := upd_same (H := H1) (a := b) (o := HO.tup [V.str (Str.ofString "x"), V.int (i : Nat)])
      generalize upd H1 b (HO.tup [V.str (Str.ofString "x"), V.int (i : Nat)]) = H2 at sb eb ⊢
      walk_at "rdf"
      refine ⟨by show 2 ≤ sizeLine; decide, fun a na => ?_⟩
      have sa := Same.new (o := HO.tup [V.ref b, V.int 0]) na
      have ea := upd_same (H := H2) (a := a) (o := HO.tup [V.ref b, V.int 0])
      generalize upd H2 a (HO.tup [V.ref b, V.int 0]) = H3 at sa ea ⊢
      walk_at "rdf"
      refine ⟨by show 2 ≤ sizeLine; decide, fun c nc => ?_⟩
      have sc := Same.new (o := HO.tup [V.str (Str.ofString "x"), V.int (i : Nat)]) nc
      have ec := upd_same (H := H3) (a := c) (o := HO.tup [V.str (Str.ofString "x"), V.int (i : Nat)])
      generalize upd H3 c (HO.tup [V.str (Str.ofString "x"), V.int (i : Nat)]) = H4 at sc ec ⊢
      walk_at "rdf"
      have g4 := ((g1.mono sb).mono sa).mono sc
      have s4 := ((s1.trans sb).trans sa).trans sc
      obtain ⟨⟨kvs, e4, hk, hv⟩, st⟩ := id g4
      have lk : kvs.length = i := by have := congrArg List.length hk; rwa [List.length_map, stripsD_len, Nat.add_zero] at this
      have nn : sx ((i : Nat) : Int) ∉ stripsD i 0 := fun z => by
        rcases stripsD_mem z with ⟨j, hj, e⟩ | ⟨j, hj, e⟩
        · have := sx_inj e; omega
        · omega
      have ek : stripsD (i + 1) 0 = stripsD i 0 ++ [sx ((i : Nat) : Int)] := by unfold stripsD; rw [List.range_succ, List.map_append, List.range_zero, List.map_nil, List.append_nil, List.append_nil]; rfl
      refine ⟨d, _, rfl, DPut.t (k := sx ((i : Nat) : Int)) e4 ec (by rw [lk]; exact small1000 (by omega)), ?_⟩
      refine ⟨_, rfl, s4.later nd, grp_put e4 ?_ (fun u hu hne => ?_) (sc _ _ ea) (sc _ _ (sa _ _ eb)) fun u hu => ?_⟩
      · rw [putK_new _ (valV_none (by rw [hk]; exact nn)), List.map_append, hk, ek]; rfl
      · rw [ek] at hu
        rcases List.mem_append.mp hu with hu | hu
        · exact hv u hu
        · exact absurd (List.mem_singleton.mp hu) hne
      · exact stripsD_strip hu
    · rintro σ' H1 ⟨o3, rfl, s1, g1⟩
      walk_at "rdf"
      refine ⟨m, rfl, by omega, by omega, ?_⟩
      rw [Int.toNat_natCast]
      refine forW_range (fun i σ' H' => ∃ o4 : Option V, σ' = [some (.int n), some (.int m), some (.ref d), o3, o4] ∧ Same H H' ∧ GrpAt H' d (stripsD n i) Fm.lone) ⟨none, rfl, s1, g1⟩ ?_ ?_
      · rintro i σ' H1 hi ⟨o4, rfl, s1, g1⟩
        rw [Int.zero_add]
        walk_at "rdf"
        refine ⟨by show 2 ≤ sizeLine; decide, fun b nb => ?_⟩
        have sb := Same.new (o := HO.tup [V.str (Str.ofString "y"), V.int (i : Nat)]) nb
        have eb := upd_same (H := H1) (a := b) (o := HO.tup [V.str (Str.ofString "y"), V.int (i : Nat)])
        generalize upd H1 b (HO.tup [V.str (Str.ofString "y"), V.int (i : Nat)]) = H2 at sb eb ⊢
        walk_at "rdf"
        refine ⟨by show 2 ≤ sizeLine; decide, fun a na => ?_⟩
        have sa := Same.new (o := HO.tup [V.ref b, V.int 0]) na
        have ea := upd_same (H := H2) (a := a) (o := HO.tup [V.ref b, V.int 0])
        generalize upd H2 a (HO.tup [V.ref b, V.int 0]) = H3 at sa ea ⊢
        walk_at "rdf"
        refine ⟨by show 2 ≤ sizeLine; decide, fun c nc => ?_⟩
        have sc := Same.new (o := HO.tup [V.str (Str.ofString "y"), V.int (i : Nat)]) nc
        have ec := upd_same (H := H3) (a := c) (o := HO.tup [V.str (Str.ofString "y"), V.int (i : Nat)])
        generalize upd H3 c (HO.tup [V.str (Str.ofString "y"), V.int (i : Nat)]) = H4 at sc ec ⊢
        walk_at "rdf"
        have g4 := ((g1.mono sb).mono sa).mono sc
        have s4 := ((s1.trans sb).trans sa).trans sc
        obtain ⟨⟨kvs, e4, hk, hv⟩, st⟩ := id g4
        have lk : kvs.length = n + i := by have := congrArg List.length hk; rwa [List.length_map, stripsD_len] at this
        have nn : sy ((i : Nat) : Int) ∉ stripsD n i := fun z => by
          rcases stripsD_mem z with ⟨j, hj, e⟩ | ⟨j, hj, e⟩
          · exact sxy_ne e.symm
          · have := sy_inj e; omega
        have ek : stripsD n (i + 1) = stripsD n i ++ [sy ((i : Nat) : Int)] := by unfold stripsD; rw [List.range_succ, List.map_append, ← List.append_assoc]; rfl
        refine ⟨d, _, rfl, DPut.t (k := sy ((i : Nat) : Int)) e4 ec (by rw [lk]; exact small1000 (by omega)), ?_⟩
        refine ⟨_, rfl, s4.later nd, grp_put e4 ?_ (fun u hu hne => ?_) (sc _ _ ea) (sc _ _ (sa _ _ eb)) fun u hu => ?_⟩
        · rw [putK_new _ (valV_none (by rw [hk]; exact nn)), List.map_append, hk, ek]; rfl
        · rw [ek] at hu
          rcases List.mem_append.mp hu with hu | hu
          · exact hv u hu
          · exact absurd (List.mem_singleton.mp hu) hne
        · exact stripsD_strip hu
      · rintro σ' H1 ⟨o4, rfl, s1, g1⟩
        walk_at "rdf"
        exact k d H1 s1 nd g1
def wtB (G : List Key → List Key × Int) (s u : List Key) : V := if (G s).1 = (G u).1 then .int (((G s).2 + (G u).2) % 2) else .non
def sp_weightbetween : Sp := fun vs H Q _ => ∃ (d T a b : Addr) (D : List (List Key)) (G : List Key → List Key × Int) (s u : List Key), vs = [.ref d, .ref T] ∧ GrpAt H d D G ∧ PrAt H T a b s u ∧ s ∈ D ∧ u ∈ D ∧ Q (wtB G s u) H
theorem ok_weightbetween (T : Txt K mg t) : FnOk P w K mg base CX0 1 t.f_weightbetween t.d_weightbetween ["groups", "strips"] sp_weightbetween := by
  refine T.F_weightbetween.ok sc_weightbetween (fun vs H Q E h => ?_) (fun cdv A outer s H vs Q E hr h => ?_)
  · obtain ⟨d, T, a, b, D, G, s, u, rfl, _⟩ := h; rfl
  · obtain ⟨d, T, a, b, D, G, s, u, rfl, ⟨⟨kvs, ed, hk, hv⟩, st⟩, ⟨eT, ea, eb⟩, hs, hu, k⟩ := h
    obtain ⟨a1, b1, h1, h2, h3⟩ := hv s hs
    obtain ⟨a2, b2, g1, g2, g3⟩ := hv u hu
    refine cutC (ps_set (i := 2) sc_weightbetween.nd rfl (Or.inl rfl) (pe_dget (hu_of hr) (pv 0) (pe_ix (ix_tupK K rfl) (pv 1) pe_int (fun _ _ => rfl)) (fun _ _ => rfl))) fun _ _ => cutC (ps_set (i := 3) sc_weightbetween.nd rfl (Or.inl rfl) (pe_dget (hu_of hr) (pv 0) (pe_ix (ix_tupK K rfl) (pv 1) pe_int (fun _ _ => rfl)) (fun _ _ => rfl))) fun _ _ => cutE (ps_ret (pe_ifExp (pt_cmpR (op_eqD hr.units) (pe_ix (ix_tupK K rfl) (pv 2) pe_int (fun _ _ => rfl)) (pe_ix (ix_tupK K rfl) (pv 3) pe_int (fun _ _ => rfl)) (nomark _)) (pe_op op_mod (pe_op op_add (pe_ix (ix_tupK K rfl) (pv 2) pe_int (fun _ _ => rfl)) (pe_ix (ix_tupK K rfl) (pv 3) pe_int (fun _ _ => rfl))) pe_int) pe_non)) fun _ _ => ?_
    walk_at "rdf"
    refine rd_ixT (SqT.of eT) (v := .ref a) rfl ?_
    walk_at "rdf"
    refine rd_dgetT ed ea h1 ?_
    walk_at "rdf"
    refine rd_ixT (SqT.of eT) (v := .ref b) rfl ?_
    walk_at "rdf"
    refine rd_dgetT ed eb g1 ?_
    walk_at "rdf"
    refine rd_ixT (SqT.of h2) (v := .ref b1) rfl ?_
    walk_at "rdf"
    refine rd_ixT (SqT.of g2) (v := .ref b2) rfl ?_
    walk_at "rdf"
    refine rd_eqK (st s hs).ok (st u hu).ok h3 g3 ?_
    unfold wtB at k
    by_cases c : (G s).1 = (G u).1
    · rw [if_pos c] at k
      rw [decide_eq_true c]
      walk_at "rdf"
      refine rd_ixT (SqT.of h2) (v := .int (G s).2) rfl ?_
      walk_at "rdf"
      refine rd_ixT (SqT.of g2) (v := .int (G u).2) rfl ?_
      walk_at "rdf"
      refine rd_I (by decide) ?_
      walk_at "rdf"
      exact k
    · rw [if_neg c] at k
      rw [decide_eq_false c]
      walk_at "rdf"
      exact k
instance memDec (a : List Key) (l : List (List Key)) : Decidable (a ∈ l) := decidable_of_iff ((l.any fun x => decide (x = a)) = true) (by
  rw [List.any_eq_true]
  exact ⟨fun ⟨x, hx, e⟩ => of_decide_eq_true e ▸ hx, fun h => ⟨a, h, decide_eq_true rfl⟩⟩)
theorem take_mem {D : List (List Key)} {i : Nat} (hi : i < D.length) {v : List Key} : v ∈ D.take (i + 1) ↔ v ∈ D.take i ∨ v = D[i] := by
  rw [List.take_add_one, List.getElem?_eq_getElem hi, List.mem_append]
  simp
theorem take_not {D : List (List Key)} (nd : D.Nodup) {i : Nat} (hi : i < D.length) : D[i] ∉ D.take i := fun h => by
  obtain ⟨j, hj, e⟩ := List.mem_iff_getElem.mp h
  rw [List.length_take] at hj
  rw [List.getElem_take] at e
  have := (List.getElem_inj nd).mp e
  omega
def sp_tie : Sp := fun vs H Q _ => ∃ (d T a b : Addr) (D : List (List Key)) (G : List Key → List Key × Int) (s u : List Key) (wt : Int), vs = [.ref d, .ref T, .int wt] ∧ GrpAt H d D G ∧ D.Nodup ∧ D.length ≤ 80 ∧ PrAt H T a b s u ∧ s ∈ D ∧ u ∈ D ∧
  ∀ H', ButL [d] H H' → GrpAt H' d D (Fm.tieG G (s, u, wt)) → Q .non H'
theorem ok_tie (T : Txt K mg t) : FnOk P w K mg base CX0 1 t.f_tie t.d_tie ["groups", "strips", "weight"] sp_tie := by
  refine T.F_tie.ok sc_tie (fun vs H Q E h => ?_) (fun cdv A outer s H vs Q E hr h => ?_)
  · obtain ⟨d, TT, a, b, D, G, s, u, wt, rfl, _⟩ := h; rfl
  · obtain ⟨d, TT, a, b, D, G, s, u, wt, rfl, gr, nd, ld, ⟨eT, ea, eb⟩, hs, hu, k⟩ := h
    obtain ⟨⟨kvs, ed, hk, hv⟩, st⟩ := id gr
    obtain ⟨a1, b1, h1, h2, h3⟩ := hv s hs
    obtain ⟨a2, b2, g1, g2, g3⟩ := hv u hu
    refine cutC (ps_set (i := 3) sc_tie.nd rfl (Or.inl rfl) (pe_dget (hu_of hr) (pv 0) (pe_ix (ix_tupK K rfl) (pv 1) pe_int (fun _ _ => rfl)) (fun _ _ => rfl))) fun _ _ => cutC (ps_set (i := 4) sc_tie.nd rfl (Or.inl rfl) (pe_dget (hu_of hr) (pv 0) (pe_ix (ix_tupK K rfl) (pv 1) pe_int (fun _ _ => rfl)) (fun _ _ => rfl))) fun _ _ => cutC (ps_if (pt_cmpR (op_eqD hr.units) (pe_ix (ix_tupK K rfl) (pv 3) pe_int (fun _ _ => rfl)) (pe_ix (ix_tupK K rfl) (pv 4) pe_int (fun _ _ => rfl)) (nomark _)) (pss_one ps_retN) pss_nil) fun _ _ => cutC (ps_set (i := 5) sc_tie.nd rfl (Or.inl rfl) (pe_op op_mod (pe_op op_add (pe_op op_add (pe_ix (ix_tupK K rfl) (pv 3) pe_int (fun _ _ => rfl)) (pe_ix (ix_tupK K rfl) (pv 4) pe_int (fun _ _ => rfl))) (pv 2)) pe_int)) fun _ _ => cutE (ps_for PassesOwn.never rfl (pi_list (pe_callTy (cI_listD rfl) rfl T.no_list (by rfl) (pa_cons (pv 0) pa_nil))) (pg_name (i := 6) sc_tie.nd rfl (Or.inl rfl)) (pss_cons (ps_set (i := 7) sc_tie.nd rfl (Or.inl rfl) (pe_dget (hu_of hr) (pv 0) (pv 6) (fun _ _ => rfl))) (pss_one (ps_if (pt_cmpR (op_eqD hr.units) (pe_ix (ix_tupK K rfl) (pv 7) pe_int (fun _ _ => rfl)) (pe_ix (ix_tupK K rfl) (pv 4) pe_int (fun _ _ => rfl)) (nomark _)) (pss_one (ps_dput (hu_of hr) (pv 0) (pv 6) (pe_tup (pa_cons (pe_ix (ix_tupK K rfl) (pv 3) pe_int (fun _ _ => rfl)) (pa_cons (pe_op op_mod (pe_op op_add (pe_ix (ix_tupK K rfl) (pv 7) pe_int (fun _ _ => rfl)) (pv 5)) pe_int) pa_nil))) rfl)) pss_nil)))) fun _ _ => ?_
    walk_at "rdf"
    refine rd_ixT (SqT.of eT) (v := .ref a) rfl ?_
    walk_at "rdf"
    refine rd_dgetT ed ea h1 ?_
    walk_at "rdf"
    refine rd_ixT (SqT.of eT) (v := .ref b) rfl ?_
    walk_at "rdf"
    refine rd_dgetT ed eb g1 ?_
    walk_at "rdf"
    refine rd_ixT (SqT.of h2) (v := .ref b1) rfl ?_
    walk_at "rdf"
    refine rd_ixT (SqT.of g2) (v := .ref b2) rfl ?_
    walk_at "rdf"
    refine rd_eqK (st s hs).ok (st u hu).ok h3 g3 ?_
    by_cases c : (G s).1 = (G u).1
    · rw [decide_eq_true c]
      walk_at "rdf"
      exact k H (ButL.refl _ _) (gr.congr fun v _ => if_pos c)
    · rw [decide_eq_false c]
      have tg : ∀ v, Fm.tieG G (s, u, wt) v = if (G v).1 = (G u).1 then ((G s).1, ((G v).2 + ((G s).2 + (G u).2 + wt) % 2) % 2) else G v := fun v => if_neg c
      walk_at "rdf"
      refine rd_ixT (SqT.of h2) (v := .int (G s).2) rfl ?_
      walk_at "rdf"
      refine rd_ixT (SqT.of g2) (v := .int (G u).2) rfl ?_
      walk_at "rdf"
      refine rd_I (by decide) ?_
      generalize hch : ((G s).2 + (G u).2 + wt) % 2 = ch at tg ⊢
      walk_at "rdf"
      refine rd_listD ed fun l ys nl pw => ?_
      rw [hk] at pw
      have s1 := Same.new (o := HO.lst ys) nl
      have el := upd_same (H := H) (a := l) (o := HO.lst ys)
      generalize upd H l (HO.lst ys) = H1 at s1 el ⊢
      have ldn : l ≠ d := ne_of el (s1 _ _ ed) (fun z => nomatch z)
      have noT : NoT H1 [d] := fun x hx xs => by rw [List.mem_singleton.mp hx, s1 _ _ ed]; intro z; cases z
      walk_at "rdf"
      refine ⟨⟨_, SqL.of el⟩, ?_⟩
      refine forW_list (K := K) (a := l) (xs := ys) (fun i σ' H' => ∃ (o6 o7 : Option V), σ' = [some (.ref d), some (.ref TT), some (.int wt), some (.ref a1), some (.ref a2), some (.int ch), o6, o7] ∧ ButL [d] H1 H' ∧ GrpAt H' d D (fun v => if v ∈ D.take i then Fm.tieG G (s, u, wt) v else G v))
        ⟨none, none, rfl, ButL.refl _ _, (gr.mono s1).congr fun v _ => by rw [List.take_zero, if_neg (fun z => nomatch z)]⟩ (fun i σ' H' _ ⟨_, _, _, m, _⟩ => SqL.of (m _ _ el (by rw [List.mem_singleton]; exact ldn))) ?_ ?_
      · rintro i v σ' H2 hvi ⟨o6, o7, rfl, m2, gi⟩
        have hi : i < D.length := by rw [← pw.1]; exact (List.getElem?_eq_some_iff.mp hvi).1
        obtain ⟨bk, rfl, ebk⟩ := pw.2 i v _ hvi (List.getElem?_eq_getElem hi)
        have tk := take_not nd hi
        have dm : D[i] ∈ D := List.getElem_mem hi
        have tm : ∀ v, v ∈ D.take (i + 1) ↔ v ∈ D.take i ∨ v = D[i] := fun v => take_mem hi
        generalize D[i] = x at tk dm tm ebk
        have up : ∀ b xs, H b = some (.tup xs) → H2 b = some (.tup xs) := fun b xs e => but_tup m2 noT (s1 _ _ e)
        obtain ⟨⟨kv2, ed2, hk2, hv2⟩, st2⟩ := id gi
        obtain ⟨ax, bx, x1, x2, x3⟩ := hv2 x dm
        have sx2 := st2 x dm
        dsimp only at x2 x3 sx2
        rw [if_neg tk] at x2 x3 sx2
        walk_at "rdf"
        refine rd_dgetT ed2 (up _ _ ebk) x1 ?_
        walk_at "rdf"
        refine rd_ixT (SqT.of x2) (v := .ref bx) rfl ?_
        walk_at "rdf"
        refine rd_ixT (SqT.of (up _ _ g2)) (v := .ref b2) rfl ?_
        walk_at "rdf"
        refine rd_eqK sx2.ok (st u hu).ok x3 (up _ _ g3) ?_
        by_cases cx : (G x).1 = (G u).1
        · rw [decide_eq_true cx]
          walk_at "rdf"
          refine rd_ixT (SqT.of (up _ _ h2)) (v := .ref b1) rfl ?_
          walk_at "rdf"
          refine rd_ixT (SqT.of x2) (v := .int (G x).2) rfl ?_
          walk_at "rdf"
          refine rd_I (by decide) ?_
          walk_at "rdf"
          refine ⟨by show 2 ≤ sizeLine; decide, fun y ny => ?_⟩
          have sy := Same.new (o := HO.tup [V.ref b1, V.int (((G x).2 + ch) % 2)]) ny
          have ey := upd_same (H := H2) (a := y) (o := HO.tup [V.ref b1, V.int (((G x).2 + ch) % 2)])
          generalize upd H2 y (HO.tup [V.ref b1, V.int (((G x).2 + ch) % 2)]) = H3 at sy ey ⊢
          walk_at "rdf"
          have tx : Fm.tieG G (s, u, wt) x = ((G s).1, ((G x).2 + ch) % 2) := by rw [tg, if_pos cx]
          refine ⟨d, _, rfl, DPut.t (k := x) (sy _ _ ed2) (sy _ _ (up _ _ ebk)) (by have := congrArg List.length hk2; rw [List.length_map] at this; exact small1000 (by omega)), ?_⟩
          refine ⟨_, _, rfl, (m2.trans (sy.butL _)).upd (List.mem_singleton.mpr rfl), grp_put (b := b1) (sy _ _ ed2) ?_ (fun v hv hne => ?_) ?_ ?_ fun v hv => ?_⟩
          · rw [putK_keys (by rw [hk2]; exact dm)]; exact hk2
          · obtain ⟨a', b', q1, q2, q3⟩ := hv2 v hv
            have em : (v ∈ D.take (i + 1)) = (v ∈ D.take i) := propext ((tm v).trans ⟨fun z => z.elim id fun z => absurd z hne, .inl⟩)
            unfold GE
            dsimp only at q2 q3 ⊢
            simp only [em]
            exact ⟨a', b', q1, sy _ _ q2, sy _ _ q3⟩
          · show _ = _
            rw [if_pos ((tm x).mpr (.inr rfl)), tx]; exact ey
          · show _ = _
            rw [if_pos ((tm x).mpr (.inr rfl)), tx]; exact sy _ _ (up _ _ h3)
          · by_cases hvx : v = x
            · subst hvx
              rw [if_pos ((tm _).mpr (.inr rfl)), tx]; exact st s hs
            · have em : (v ∈ D.take (i + 1)) = (v ∈ D.take i) := propext ((tm v).trans ⟨fun z => z.elim id fun z => absurd z hvx, .inl⟩)
              simp only [em]
              exact st2 v hv
        · rw [decide_eq_false cx]
          walk_at "rdf"
          refine ⟨_, _, rfl, m2, gi.congr fun v hv => ?_⟩
          by_cases hvx : v = x
          · subst hvx
            rw [if_pos ((tm _).mpr (.inr rfl)), if_neg tk, tg, if_neg cx]
          · have em : (v ∈ D.take (i + 1)) = (v ∈ D.take i) := propext ((tm v).trans ⟨fun z => z.elim id fun z => absurd z hvx, .inl⟩)
            simp only [em]
      · rintro σ' H2 ⟨o6, o7, rfl, m2, gi⟩
        have ly : ys.length = D.length := pw.1
        rw [ly, List.take_length] at gi
        refine k H2 (fun b o e n => m2 b o (s1 _ _ e) n) (gi.congr fun v hv => ?_)
        rw [if_pos hv]
def PwF (H : Hp) (xs : List V) (fs : List Fct) : Prop := xs.length = fs.length ∧ ∀ (i : Nat) v f, xs[i]? = some v → fs[i]? = some f → ∃ a, v = .ref a ∧ H a = some (.tup f.vs)
theorem PwF.mono {H H' : Hp} {xs : List V} {fs : List Fct} (m : Same H H') (h : PwF H xs fs) : PwF H' xs fs := ⟨h.1, fun i v f h1 h2 => let ⟨a, e, q⟩ := h.2 i v f h1 h2; ⟨a, e, m _ _ q⟩⟩
theorem Same.of_but {H H' H1 : Hp} {d : Addr} (s : Same H H1) (n : H d = none) (m : ButL [d] H1 H') : Same H H' := fun b o e => m b o (s b o e) fun z => by rw [List.mem_singleton.mp z, n] at e; cases e
end

section
variable {P : Program} {w : World} {K : PySem.W.Frag} {mg : Str → Option Value} {base : Heap} {t : Ad}
def sp_groupsof : Sp := fun vs H Q _ => ∃ (n m : Nat) (lf : Addr) (xs : List V) (fs : List Fct), vs = [.int n, .int m, .ref lf] ∧ n ≤ 40 ∧ m ≤ 40 ∧ H lf = some (.lst xs) ∧ PwF H xs fs ∧ (∀ f ∈ fs, f.inW n m) ∧
  ∀ d H', Same H H' → H d = none → GrpAt H' d (stripsD n m) (Fm.tiesG (fs.map Fct.tie) Fm.lone) → Q (.ref d) H'
theorem ok_groupsof (T : Txt K mg t) : FnOk P w K mg base CX0 3 t.f_groupsof t.d_groupsof ["wide", "tall", "facts"] sp_groupsof := by
  have G_lonegroups := ok_lonegroups (P := P) (w := w) (base := base) T
  have G_tie := ok_tie (P := P) (w := w) (base := base) T
  have G_factstrips := ok_factstrips (P := P) (w := w) (base := base) T
  have G_factweight := ok_factweight (P := P) (w := w) (base := base) T
  refine T.F_groupsof.ok sc_groupsof (fun vs H Q E h => ?_) (fun cdv A outer s H vs Q E hr h => ?_)
  · obtain ⟨n, m, lf, xs, fs, rfl, _⟩ := h; rfl
  · obtain ⟨n, m, lf, xs, fs, rfl, ln, lm, hl, pf, hin, k⟩ := h
    refine cutC (ps_set (i := 3) sc_groupsof.nd rfl (Or.inl rfl) (pe_call G_lonegroups (hr.mono (by first | decide | omega)) rfl T.mg_lonegroups T.F_lonegroups.kp T.b_lonegroups .nil pass0 (pa_cons (pv 0) (pa_cons (pv 1) pa_nil)))) fun _ _ => cutC (ps_for PassesOwn.never rfl (pi_list (pv 2)) (pg_name (i := 4) sc_groupsof.nd rfl (Or.inl rfl)) (pss_one (ps_expr (pe_call G_tie (hr.mono (by first | decide | omega)) rfl T.mg_tie T.F_tie.kp T.b_tie .nil pass0 (pa_cons (pv 3) (pa_cons (pe_call G_factstrips (hr.mono (by first | decide | omega)) rfl T.mg_factstrips T.F_factstrips.kp T.b_factstrips .nil pass0 (pa_cons (pv 4) pa_nil)) (pa_cons (pe_call G_factweight (hr.mono (by first | decide | omega)) rfl T.mg_factweight T.F_factweight.kp T.b_factweight .nil pass0 (pa_cons (pv 4) pa_nil)) pa_nil))))))) fun _ _ => cutE (ps_ret (pv 3)) fun _ _ => ?_
    walk_at "rdf"
    refine ⟨n, m, rfl, ln, lm, fun d H1 s1 nd g1 => ?_⟩
    walk_at "rdf"
    refine ⟨⟨_, SqL.of (s1 _ _ hl)⟩, ?_⟩
    refine forW_list (K := K) (a := lf) (xs := xs) (fun i σ' H' => ∃ o4 : Option V, σ' = [some (.int n), some (.int m), some (.ref lf), some (.ref d), o4] ∧ Same H H' ∧ GrpAt H' d (stripsD n m) (Fm.tiesG ((fs.take i).map Fct.tie) Fm.lone))
      ⟨none, rfl, s1, g1⟩ (fun i σ' H' _ ⟨_, _, z, _⟩ => SqL.of (z _ _ hl)) ?_ ?_
    · rintro i v σ' H2 hv ⟨o4, rfl, s2, g2⟩
      have hi : i < fs.length := by rw [← pf.1]; exact (List.getElem?_eq_some_iff.mp hv).1
      obtain ⟨p, rfl, hp⟩ := pf.2 i v _ hv (List.getElem?_eq_getElem hi)
      have fi := hin _ (List.getElem_mem hi)
      have ft : (fs.take (i + 1)).map Fct.tie = (fs.take i).map Fct.tie ++ [fs[i].tie] := by rw [List.take_add_one, List.getElem?_eq_getElem hi, List.map_append]; rfl
      have tg : ∀ G, Fm.tiesG ((fs.take i).map Fct.tie ++ [fs[i].tie]) G = Fm.tieG (Fm.tiesG ((fs.take i).map Fct.tie) G) fs[i].tie := fun G => by unfold Fm.tiesG; rw [List.foldl_append]; rfl
      rw [ft, tg]
      generalize fs[i] = f at hp fi
      have fd := Fct.inD fi
      generalize Fm.tiesG ((fs.take i).map Fct.tie) Fm.lone = G at g2
      walk_at "rdf"
      refine ⟨p, f, rfl, s2 _ _ hp, fun T1 a b H3 s3 pr => ?_⟩
      walk_at "rdf"
      refine ⟨p, f, n, m, rfl, s3 _ _ (s2 _ _ hp), fi, by omega, by omega, ?_⟩
      walk_at "rdf"
      refine ⟨d, T1, a, b, _, G, _, _, _, rfl, g2.mono s3, stripsD_nodup n m, by rw [stripsD_len]; omega, pr, fd.1, fd.2, fun H4 m4 g4 => ?_⟩
      walk_at "rdf"
      exact ⟨_, rfl, Same.of_but (s2.trans s3) nd m4, g4⟩
    · rintro σ' H2 ⟨o4, rfl, s2, g2⟩
      rw [List.take_of_length_le (by rw [pf.1]; exact Nat.le_refl _)] at g2
      walk_at "rdf"
      exact k d H2 s2 nd g2
end


section
variable {P : Program} {w : World} {K : PySem.W.Frag} {mg : Str → Option Value} {base : Heap} {t : Ad}
/-! finds -/
theorem putF_len {f : Str} {v : V} : ∀ {fs : List (Str × V)}, (fs.lookup f).isSome = true → (putF f v fs).length = fs.length
  | [], h => by cases h
  | (g, x) :: r, h => by
    unfold putF
    by_cases e : g = f
    · rw [if_pos e]; rfl
    · rw [if_neg e, List.length_cons, List.length_cons, putF_len (fs := r) ?_]
      have hb : (f == g) = false := beq_eq_false_iff_ne.mpr fun z => e z.symm
      simpa only [List.lookup, hb] using h
abbrev NoFF (m : Str) : Prop := ((¬ m = "columns_count") ∧ ¬ m = "rows_count") ∧ (¬ m = "facts") ∧ (¬ m = "next_number") ∧ ¬ m = "groups"
structure FL (fs : List (Str × V)) (wd ht : Int) (df : Addr) (n : Int) (dg : Addr) : Prop where
  w : fs.lookup ("columns_count" : Str) = some (.int wd)
  h : fs.lookup ("rows_count" : Str) = some (.int ht)
  f : fs.lookup ("facts" : Str) = some (.ref df)
  n : fs.lookup ("next_number" : Str) = some (.int n)
  g : fs.lookup ("groups" : Str) = some (.ref dg)
  no : ∀ m, NoFF m → fs.lookup m = none
  len : fs.length ≤ 5
theorem FL.next {fs : List (Str × V)} {wd ht n n' : Int} {df dg : Addr} (h : FL fs wd ht df n dg) : FL (putF "next_number" (.int n') fs) wd ht df n' dg where
  w := by rw [lookup_putF, if_neg (by decide +kernel)]; exact h.w
  h := by rw [lookup_putF, if_neg (by decide +kernel)]; exact h.h
  f := by rw [lookup_putF, if_neg (by decide +kernel)]; exact h.f
  n := by rw [lookup_putF, if_pos rfl]
  g := by rw [lookup_putF, if_neg (by decide +kernel)]; exact h.g
  no := fun m z => by rw [lookup_putF, if_neg z.2.2.1]; exact h.no m z
  len := by rw [putF_len (by rw [h.n]; rfl)]; exact h.len
theorem FL.grp {fs : List (Str × V)} {wd ht n : Int} {df dg dg' : Addr} (h : FL fs wd ht df n dg) : FL (putF "groups" (.ref dg') fs) wd ht df n dg' where
  w := by rw [lookup_putF, if_neg (by decide +kernel)]; exact h.w
  h := by rw [lookup_putF, if_neg (by decide +kernel)]; exact h.h
  f := by rw [lookup_putF, if_neg (by decide +kernel)]; exact h.f
  n := by rw [lookup_putF, if_neg (by decide +kernel)]; exact h.n
  g := by rw [lookup_putF, if_pos rfl]
  no := fun m z => by rw [lookup_putF, if_neg z.2.2.2]; exact h.no m z
  len := by rw [putF_len (by rw [h.g]; rfl)]; exact h.len
def PwN (H : Hp) (kf : List (Key × V)) (F : List (Int × Fct)) : Prop := kf.length = F.length ∧ ∀ (i : Nat) k v nf, kf[i]? = some (k, v) → F[i]? = some nf → k = .inl nf.1 ∧ ∃ a, v = .ref a ∧ H a = some (.tup nf.2.vs)
structure FdAt (C : Addr) (H : Hp) (p df dg : Addr) (wd ht : Nat) (F : List (Int × Fct)) (n : Int) (G : List Key → List Key × Int) : Prop where
  ob : ∃ dx fs, H p = some (.ins C dx fs) ∧ FL fs wd ht df n dg
  fa : ∃ kf, H df = some (.dK kf) ∧ PwN H kf F
  gr : GrpAt H dg (stripsD wd ht) G
theorem PwN.but {S : List Addr} {H H' : Hp} {kf : List (Key × V)} {F : List (Int × Fct)} (h : PwN H kf F) (m : ButL S H H') (n : NoT H S) : PwN H' kf F :=
  ⟨h.1, fun i k v nf h1 h2 => let ⟨e, a, q, r⟩ := h.2 i k v nf h1 h2; ⟨e, a, q, but_tup m n r⟩⟩
theorem PwN.keys {H : Hp} {kf : List (Key × V)} {F : List (Int × Fct)} (h : PwN H kf F) : kf.map (·.1) = F.map fun nf => Sum.inl nf.1 := by
  refine List.ext_getElem? fun i => ?_
  rw [List.getElem?_map, List.getElem?_map]
  cases e1 : kf[i]? with
  | none =>
    have : F[i]? = none := List.getElem?_eq_none (by rw [← h.1]; exact List.getElem?_eq_none_iff.mp e1)
    rw [this]; rfl
  | some kv =>
    have hl : i < F.length := by rw [← h.1]; exact (List.getElem?_eq_some_iff.mp e1).1
    rw [List.getElem?_eq_getElem hl]
    obtain ⟨k, v⟩ := kv
    have := (h.2 i k v _ e1 (List.getElem?_eq_getElem hl)).1
    simp [this]
theorem PwN.vals {H : Hp} {kf : List (Key × V)} {F : List (Int × Fct)} (h : PwN H kf F) : PwF H (kf.map (·.2)) (F.map (·.2)) := by
  refine ⟨by rw [List.length_map, List.length_map, h.1], fun i v f h1 h2 => ?_⟩
  rw [List.getElem?_map] at h1 h2
  obtain ⟨⟨k, v'⟩, e1, rfl⟩ := Option.map_eq_some_iff.mp h1
  obtain ⟨nf, e2, rfl⟩ := Option.map_eq_some_iff.mp h2
  exact (h.2 i k v' nf e1 e2).2
theorem FdAt.not {C : Addr} {H : Hp} {p df dg : Addr} {wd ht : Nat} {F : List (Int × Fct)} {n : Int} {G : List Key → List Key × Int} (h : FdAt C H p df dg wd ht F n G) : NoT H [p, df, dg] := fun x hx xs => by
  obtain ⟨dx, fs, h1, _⟩ := h.ob
  obtain ⟨kf, h2, _⟩ := h.fa
  obtain ⟨kg, h3, _⟩ := h.gr.ob
  simp only [List.mem_cons, List.not_mem_nil, or_false] at hx
  rcases hx with rfl | rfl | rfl
  · rw [h1]; intro z; cases z
  · rw [h2]; intro z; cases z
  · rw [h3]; intro z; cases z
theorem FdAt.lst {C : Addr} {H : Hp} {p df dg : Addr} {wd ht : Nat} {F : List (Int × Fct)} {n : Int} {G : List Key → List Key × Int} (h : FdAt C H p df dg wd ht F n G) {b : Addr} {xs : List V} (e : H b = some (.lst xs)) : b ∉ [p, df, dg] := fun hx => by
  obtain ⟨dx, fs, h1, _⟩ := h.ob
  obtain ⟨kf, h2, _⟩ := h.fa
  obtain ⟨kg, h3, _⟩ := h.gr.ob
  simp only [List.mem_cons, List.not_mem_nil, or_false] at hx
  rcases hx with rfl | rfl | rfl
  · rw [h1] at e; cases e
  · rw [h2] at e; cases e
  · rw [h3] at e; cases e
theorem FdAt.but {C : Addr} {S : List Addr} {H H' : Hp} {p df dg : Addr} {wd ht : Nat} {F : List (Int × Fct)} {n : Int} {G : List Key → List Key × Int} (h : FdAt C H p df dg wd ht F n G) (m : ButL S H H') (nt : NoT H S) (hp : p ∉ S) (hf : df ∉ S) (hg : dg ∉ S) : FdAt C H' p df dg wd ht F n G := by
  obtain ⟨dx, fs, h1, fl⟩ := h.ob
  obtain ⟨kf, h2, pf⟩ := h.fa
  exact ⟨⟨dx, fs, m _ _ h1 hp, fl⟩, ⟨kf, m _ _ h2 hf, pf.but m nt⟩, h.gr.but m nt hg⟩
theorem FdAt.mono {C : Addr} {H H' : Hp} {p df dg : Addr} {wd ht : Nat} {F : List (Int × Fct)} {n : Int} {G : List Key → List Key × Int} (h : FdAt C H p df dg wd ht F n G) (m : Same H H') : FdAt C H' p df dg wd ht F n G :=
  h.but (m.butL []) (fun x hx => nomatch hx) (fun z => nomatch z) (fun z => nomatch z) (fun z => nomatch z)
/-- how wide and tall alone -/
def SzAt (C : Addr) (H : Hp) (p : Addr) (wd ht : Int) : Prop := ∃ dx fs, H p = some (.ins C dx fs) ∧ fs.lookup ("columns_count" : Str) = some (.int wd) ∧ fs.lookup ("rows_count" : Str) = some (.int ht) ∧ ∀ m, NoFF m → fs.lookup m = none
theorem FdAt.sz {C : Addr} {H : Hp} {p df dg : Addr} {wd ht : Nat} {F : List (Int × Fct)} {n : Int} {G : List Key → List Key × Int} (h : FdAt C H p df dg wd ht F n G) : SzAt C H p wd ht := by
  obtain ⟨dx, fs, h1, fl⟩ := h.ob
  exact ⟨dx, fs, h1, fl.w, fl.h, fl.no⟩
theorem SzAt.mono {C : Addr} {H H' : Hp} {p : Addr} {wd ht : Int} (h : SzAt C H p wd ht) (m : Same H H') : SzAt C H' p wd ht := by
  obtain ⟨dx, fs, h1, r⟩ := h
  exact ⟨dx, fs, m _ _ h1, r⟩
def sp_Findswide (C : Addr) : Sp := fun vs H Q _ => ∃ (p : Addr) (wd ht : Int), vs = [.ref p] ∧ SzAt C H p wd ht ∧ Q (.int wd) H
theorem ok_Findswide (T : Txt K mg t) : FnOk P w K mg base CX0 1 t.f_Findswide t.d_Findswide ["self"] (sp_Findswide t.a_Finds) := by
  refine T.F_Findswide.ok sc_Findswide (fun vs H Q E h => ?_) (fun cdv A outer s H vs Q E hr h => ?_)
  · obtain ⟨p, wd, ht, rfl, _⟩ := h; rfl
  · obtain ⟨p, wd, ht, rfl, ⟨dx, fs, h1, h2, h3, _⟩, k⟩ := h
    refine ⟨_, (pss_one (ps_ret (pe_fldK K rfl (pv 0) rfl))), ?_⟩
    walk_at "rdf"
    refine rd_fldv h1 T.cl_Finds T.naF_columns_count h2 ?_
    walk_at "rdf"
    exact k
def sp_Findstall (C : Addr) : Sp := fun vs H Q _ => ∃ (p : Addr) (wd ht : Int), vs = [.ref p] ∧ SzAt C H p wd ht ∧ Q (.int ht) H
theorem ok_Findstall (T : Txt K mg t) : FnOk P w K mg base CX0 1 t.f_Findstall t.d_Findstall ["self"] (sp_Findstall t.a_Finds) := by
  refine T.F_Findstall.ok sc_Findstall (fun vs H Q E h => ?_) (fun cdv A outer s H vs Q E hr h => ?_)
  · obtain ⟨p, wd, ht, rfl, _⟩ := h; rfl
  · obtain ⟨p, wd, ht, rfl, ⟨dx, fs, h1, h2, h3, _⟩, k⟩ := h
    refine ⟨_, (pss_one (ps_ret (pe_fldK K rfl (pv 0) rfl))), ?_⟩
    walk_at "rdf"
    refine rd_fldv h1 T.cl_Finds T.naF_rows_count h3 ?_
    walk_at "rdf"
    exact k
theorem blw {x b : Int} : (decide (0 ≤ x) && decide (x < b)) = decide (0 ≤ x ∧ x < b) := by
  by_cases h1 : 0 ≤ x <;> by_cases h2 : x < b <;> simp [h1, h2]
def spx_needcellF (C NC : Addr) : Sp := fun vs H Q E => ∃ (p : Addr) (wd ht x y : Int), vs = [.ref p, .int x, .int y] ∧ SzAt C H p wd ht ∧ ((0 ≤ x ∧ x < wd) ∧ (0 ≤ y ∧ y < ht) → Q .non H) ∧ (¬ ((0 ≤ x ∧ x < wd) ∧ (0 ≤ y ∧ y < ht)) → E (.ref NC) none H)
theorem okx_needcellF (T : Txt K mg t) : FnOk P w K mg base (CX1 P w) 3 t.f_needcell t.d_needcell ["board", "x", "y"] (spx_needcellF t.a_Finds t.a_NoCell) := by
  have G_isbelow := ok_isbelow (P := P) (w := w) (base := base) T
  have G_Findswide := ok_Findswide (P := P) (w := w) (base := base) T
  have G_Findstall := ok_Findstall (P := P) (w := w) (base := base) T
  refine T.F_needcell.ok1 sc_needcell (fun vs H Q E h => ?_) (fun cdv A outer s H vs Q E hr h => ?_)
  · obtain ⟨p, wd, ht, x, y, rfl, _⟩ := h; rfl
  · obtain ⟨p, wd, ht, x, y, rfl, hz, k1, k2⟩ := h
    obtain ⟨dx, fs, h1, _, _, no⟩ := id hz
    refine ⟨_, (pss_one (ps_if (PW.pt (pw_or (pt_not (pt_val (pe_call G_isbelow.up (hr.mono (by first | decide | omega)) rfl T.mg_isbelow T.F_isbelow.kp T.b_isbelow .nil pass1 (pa_cons (pv 1) (pa_cons (pe_meth0 (pv 0) T.cl_Finds T.m_Findswide G_Findswide.up (hr.mono (by first | decide | omega)) T.b_Findswide .nil pass1) pa_nil))))) (pw_or1 (pt_not (pt_val (pe_call G_isbelow.up (hr.mono (by first | decide | omega)) rfl T.mg_isbelow T.F_isbelow.kp T.b_isbelow .nil pass1 (pa_cons (pv 2) (pa_cons (pe_meth0 (pv 0) T.cl_Finds T.m_Findstall G_Findstall.up (hr.mono (by first | decide | omega)) T.b_Findstall .nil pass1) pa_nil)))))))) (pss_one (ps_raiseK T.mg_NoCell T.x_NoCell PySem.F.excBase_ValueError rfl rfl (fun _ _ _ _ _ _ _ _ I m q => xe_new I m q) (pa_cons pe_str pa_nil))) pss_nil)), ?_⟩
    walk_at "rdf"
    refine rd_methv h1 (no _ (by decide +kernel)) ?_
    walk_at "rdf"
    refine ⟨p, wd, ht, rfl, hz, ?_⟩
    walk_at "rdf"
    refine ⟨x, wd, rfl, ?_⟩
    rw [blw]
    by_cases c1 : 0 ≤ x ∧ x < wd
    · rw [decide_eq_true c1]
      walk_at "rdf"
      refine rd_methv h1 (no _ (by decide +kernel)) ?_
      walk_at "rdf"
      refine ⟨p, wd, ht, rfl, hz, ?_⟩
      walk_at "rdf"
      refine ⟨y, ht, rfl, ?_⟩
      rw [blw]
      by_cases c2 : 0 ≤ y ∧ y < ht
      · rw [decide_eq_true c2]
        walk_at "rdf"
        exact k1 ⟨c1, c2⟩
      · rw [decide_eq_false c2]
        walk_at "rdf"
        exact ⟨by show 1 ≤ sizeLine; decide, k2 fun z => c2 z.2⟩
    · rw [decide_eq_false c1]
      walk_at "rdf"
      exact ⟨by show 1 ≤ sizeLine; decide, k2 fun z => c1 z.1⟩
/-- how many lines of a way there are -/
def sdW (col : Bool) (wd ht : Int) : Int := if col = true then wd else ht
def spx_Findsneedline (C NL : Addr) : Sp := fun vs H Q E => ∃ (p : Addr) (wd ht k : Int) (wy : Str), vs = [.ref p, .str wy, .int k] ∧ SzAt C H p wd ht ∧
  ((∃ col, wy = wyS col ∧ (0 ≤ k ∧ k < sdW col wd ht - 1) ∧ ∀ H', Same H H' → Q .non H') ∨ (((¬ wy = "col" ∧ ¬ wy = "row") ∨ ∃ col, wy = wyS col ∧ ¬ (0 ≤ k ∧ k < sdW col wd ht - 1)) ∧ ∀ H', Same H H' → E (.ref NL) none H'))
theorem okx_Findsneedline (T : Txt K mg t) : FnOk P w K mg base (CX1 P w) 3 t.f_Findsneedline t.d_Findsneedline ["self", "way", "k"] (spx_Findsneedline t.a_Finds t.a_NoLine) := by
  have G_isbelow := ok_isbelow (P := P) (w := w) (base := base) T
  have G_Findswide := ok_Findswide (P := P) (w := w) (base := base) T
  have G_Findstall := ok_Findstall (P := P) (w := w) (base := base) T
  refine T.F_Findsneedline.ok1 sc_Findsneedline (fun vs H Q E h => ?_) (fun cdv A outer s H vs Q E hr h => ?_)
  · obtain ⟨p, wd, ht, k, wy, rfl, _⟩ := h; rfl
  · obtain ⟨p, wd, ht, k, wy, rfl, hz, h⟩ := h
    refine ⟨_, (pss_cons (ps_if (pt_cmpR op_notIn_seq (pv 1) (pe_tup (pa_cons pe_str (pa_cons pe_str pa_nil))) rfl) (pss_one (ps_raiseK T.mg_NoLine T.x_NoLine PySem.F.excBase_ValueError rfl rfl (fun _ _ _ _ _ _ _ _ I m q => xe_new I m q) (pa_cons pe_str pa_nil))) pss_nil) (pss_one (ps_if (pt_not (pt_val (pe_call G_isbelow.up (hr.mono (by first | decide | omega)) rfl T.mg_isbelow T.F_isbelow.kp T.b_isbelow .nil pass1 (pa_cons (pv 2) (pa_cons (pe_op op_sub (pe_ifExp (pt_cmpR op_eq (pv 1) pe_str (nomark _)) (pe_meth0 (pv 0) T.cl_Finds T.m_Findswide G_Findswide.up (hr.mono (by first | decide | omega)) T.b_Findswide .nil pass1) (pe_meth0 (pv 0) T.cl_Finds T.m_Findstall G_Findstall.up (hr.mono (by first | decide | omega)) T.b_Findstall .nil pass1)) pe_int) pa_nil))))) (pss_one (ps_raiseK T.mg_NoLine T.x_NoLine PySem.F.excBase_ValueError rfl rfl (fun _ _ _ _ _ _ _ _ I m q => xe_new I m q) (pa_cons pe_str pa_nil))) pss_nil))), ?_⟩
    walk_at "rdf"
    refine ⟨by show 2 ≤ sizeLine; decide, fun tt ntt => ?_⟩
    have stt := Same.new (o := HO.tup [V.str (Str.ofString "col"), V.str (Str.ofString "row")]) ntt
    have ett := upd_same (H := H) (a := tt) (o := HO.tup [V.str (Str.ofString "col"), V.str (Str.ofString "row")])
    generalize upd H tt (HO.tup [V.str (Str.ofString "col"), V.str (Str.ofString "row")]) = H1 at stt ett ⊢
    walk_at "rdf"
    obtain ⟨dx, fs, h1, _, _, no⟩ := id hz
    have h11 := stt _ _ h1
    have hz1 := hz.mono stt
    refine ⟨tt, _, rfl, .inr (SqT.of ett), rfl, rfl, ?_⟩
    have hin : inV (.str wy) [V.str (Str.ofString "col"), V.str (Str.ofString "row")] = (decide (wy = "col") || decide (wy = "row")) := by
      unfold inV
      rw [List.any_cons, List.any_cons, List.any_nil, Bool.or_false]
      show (decide (Str.ofString "col" = wy) || decide (Str.ofString "row" = wy)) = _
      rw [decide_eq_decide.mpr (eq_comm (a := Str.ofString "col")), decide_eq_decide.mpr (eq_comm (a := Str.ofString "row"))]
    rw [hin, if_pos rfl]
    have fin : ∀ (col : Bool), wy = wyS col → (0 ≤ k ∧ k < sdW col wd ht - 1 → Q .non H1) → (¬ (0 ≤ k ∧ k < sdW col wd ht - 1) → E (.ref t.a_NoLine) none H1) → (decide (wy = "col") || decide (wy = "row")) = true ∧ ((0 ≤ k ∧ k < sdW col wd ht - 1 → Q .non H1) ∧ (¬ (0 ≤ k ∧ k < sdW col wd ht - 1) → E (.ref t.a_NoLine) none H1)) := fun col e a b => by
      refine ⟨?_, a, b⟩
      rw [e]; cases col <;> decide +kernel
    have cs : (∃ col, wy = wyS col ∧ (0 ≤ k ∧ k < sdW col wd ht - 1 → Q .non H1) ∧ (¬ (0 ≤ k ∧ k < sdW col wd ht - 1) → E (.ref t.a_NoLine) none H1)) ∨ (¬ wy = "col" ∧ ¬ wy = "row") ∧ E (.ref t.a_NoLine) none H1 := by
      rcases h with ⟨col, e, hk, q⟩ | ⟨n | ⟨col, e, hk⟩, q⟩
      · exact .inl ⟨col, e, fun _ => q _ stt, fun z => absurd hk z⟩
      · exact .inr ⟨n, q _ stt⟩
      · exact .inl ⟨col, e, fun z => absurd z hk, fun _ => q _ stt⟩
    rcases cs with ⟨col, e, q1, q2⟩ | ⟨⟨n1, n2⟩, q⟩
    · rw [(fin col e q1 q2).1]
      subst e
      walk_at "rdf"
      rw [wy_col]
      cases col with
      | true =>
        walk_at "rdf"
        refine rd_methv h11 (no _ (by decide +kernel)) ?_
        walk_at "rdf"
        refine ⟨p, wd, ht, rfl, hz1, ?_⟩
        walk_at "rdf"
        refine ⟨k, wd - 1, rfl, ?_⟩
        rw [blw]
        by_cases c : 0 ≤ k ∧ k < wd - 1
        · rw [decide_eq_true c]
          walk_at "rdf"
          exact q1 c
        · rw [decide_eq_false c]
          walk_at "rdf"
          exact ⟨by show 1 ≤ sizeLine; decide, q2 c⟩
      | false =>
        walk_at "rdf"
        refine rd_methv h11 (no _ (by decide +kernel)) ?_
        walk_at "rdf"
        refine ⟨p, wd, ht, rfl, hz1, ?_⟩
        walk_at "rdf"
        refine ⟨k, ht - 1, rfl, ?_⟩
        rw [blw]
        by_cases c : 0 ≤ k ∧ k < ht - 1
        · rw [decide_eq_true c]
          walk_at "rdf"
          exact q1 c
        · rw [decide_eq_false c]
          walk_at "rdf"
          exact ⟨by show 1 ≤ sizeLine; decide, q2 c⟩
    · rw [decide_eq_false n1, decide_eq_false n2]
      walk_at "rdf"
      exact ⟨by show 1 ≤ sizeLine; decide, q⟩
/-- which refusal a fact is due -/
def Fct.no (NC BB NL NS : Addr) (wd ht : Int) : Fct → Option Addr
  | .cell x y c => if (0 ≤ x ∧ x < wd) ∧ (0 ≤ y ∧ y < ht) then (if isBit c = true then none else some BB) else some NC
  | .line col k s _ => if 0 ≤ k ∧ k < sdW col wd ht - 1 then (if 0 ≤ s ∧ s < sdW col ht wd then none else some NS) else some NL
theorem isBit_iff {c : Int} : isBit c = true ↔ c = 0 ∨ c = 1 := by
  unfold isBit
  rw [Bool.and_eq_true, decide_eq_true_eq, decide_eq_true_eq]; omega
theorem Fct.no_iff {NC BB NL NS : Addr} {wd ht : Int} {f : Fct} : f.no NC BB NL NS wd ht = none ↔ f.inW wd ht := by
  cases f with
  | cell x y c =>
    show (if (0 ≤ x ∧ x < wd) ∧ (0 ≤ y ∧ y < ht) then (if isBit c = true then none else some BB) else some NC) = none ↔ (0 ≤ x ∧ x < wd) ∧ (0 ≤ y ∧ y < ht) ∧ (c = 0 ∨ c = 1)
    by_cases h : (0 ≤ x ∧ x < wd) ∧ (0 ≤ y ∧ y < ht)
    · rw [if_pos h]
      by_cases hb : isBit c = true
      · rw [if_pos hb]; exact ⟨fun _ => ⟨h.1, h.2, isBit_iff.mp hb⟩, fun _ => rfl⟩
      · rw [if_neg hb]; exact ⟨(fun z => nomatch z), fun z => absurd (isBit_iff.mpr z.2.2) hb⟩
    · rw [if_neg h]; exact ⟨(fun z => nomatch z), fun z => absurd ⟨z.1, z.2.1⟩ h⟩
  | line col k s b =>
    cases col <;> simp only [Fct.no, Fct.inW, sdW, if_true, if_false, Bool.false_eq_true]
    · by_cases h : 0 ≤ k ∧ k < ht - 1
      · rw [if_pos h]
        by_cases g : 0 ≤ s ∧ s < wd
        · rw [if_pos g]; exact ⟨fun _ => ⟨h, g⟩, fun _ => rfl⟩
        · rw [if_neg g]; exact ⟨(fun z => nomatch z), fun z => absurd z.2 g⟩
      · rw [if_neg h]; exact ⟨(fun z => nomatch z), fun z => absurd z.1 h⟩
    · by_cases h : 0 ≤ k ∧ k < wd - 1
      · rw [if_pos h]
        by_cases g : 0 ≤ s ∧ s < ht
        · rw [if_pos g]; exact ⟨fun _ => ⟨h, g⟩, fun _ => rfl⟩
        · rw [if_neg g]; exact ⟨(fun z => nomatch z), fun z => absurd z.2 g⟩
      · rw [if_neg h]; exact ⟨(fun z => nomatch z), fun z => absurd z.1 h⟩
def spx_Findsneedfact (C NC BB NL NS : Addr) : Sp := fun vs H Q E => ∃ (p a : Addr) (wd ht : Int) (f : Fct), vs = [.ref p, .ref a] ∧ SzAt C H p wd ht ∧ H a = some (.tup f.vs) ∧
  (f.no NC BB NL NS wd ht = none → ∀ H', Same H H' → Q .non H') ∧ ∀ X, f.no NC BB NL NS wd ht = some X → ∀ H', Same H H' → E (.ref X) none H'
theorem okx_Findsneedfact (T : Txt K mg t) : FnOk P w K mg base (CX1 P w) 4 t.f_Findsneedfact t.d_Findsneedfact ["self", "fact"] (spx_Findsneedfact t.a_Finds t.a_NoCell t.a_BadBit t.a_NoLine t.a_NoStep) := by
  have G_isbelow := ok_isbelow (P := P) (w := w) (base := base) T
  have G_isbit := ok_isbit (P := P) (w := w) (base := base) T
  have G_Findswide := ok_Findswide (P := P) (w := w) (base := base) T
  have G_Findstall := ok_Findstall (P := P) (w := w) (base := base) T
  have GX_needcell := okx_needcellF (P := P) (w := w) (base := base) T
  have GX_Findsneedline := okx_Findsneedline (P := P) (w := w) (base := base) T
  refine T.F_Findsneedfact.ok1 sc_Findsneedfact (fun vs H Q E h => ?_) (fun cdv A outer s H vs Q E hr h => ?_)
  · obtain ⟨p, a, wd, ht, f, rfl, _⟩ := h; rfl
  · obtain ⟨p, a, wd, ht, f, rfl, hz, ha, k1, k2⟩ := h
    obtain ⟨dx, fs, h1, _, _, no⟩ := id hz
    refine cutC (ps_if (pt_cmpR op_eq (pe_ix (ix_tupK K rfl) (pv 1) pe_int (fun _ _ => rfl)) pe_str (nomark _)) (pss_cons (ps_expr (pe_call GX_needcell (hr.mono (by first | decide | omega)) rfl T.mg_needcell T.F_needcell.kp T.b_needcell .nil pass1 (pa_cons (pv 0) (pa_cons (pe_ix (ix_tupK K rfl) (pv 1) pe_int (fun _ _ => rfl)) (pa_cons (pe_ix (ix_tupK K rfl) (pv 1) pe_int (fun _ _ => rfl)) pa_nil))))) (pss_cons (ps_if (pt_not (pt_val (pe_call G_isbit.up (hr.mono (by first | decide | omega)) rfl T.mg_isbit T.F_isbit.kp T.b_isbit .nil pass1 (pa_cons (pe_ix (ix_tupK K rfl) (pv 1) pe_int (fun _ _ => rfl)) pa_nil)))) (pss_one (ps_raiseK T.mg_BadBit T.x_BadBit PySem.F.excBase_ValueError rfl rfl (fun _ _ _ _ _ _ _ _ I m q => xe_new I m q) (pa_cons pe_str pa_nil))) pss_nil) (pss_one ps_retN))) pss_nil) fun _ _ => cutC (ps_expr (pe_meth (pv 0) T.cl_Finds T.m_Findsneedline GX_Findsneedline (hr.mono (by first | decide | omega)) T.b_Findsneedline .nil pass1 (pa_cons (pe_ix (ix_tupK K rfl) (pv 1) pe_int (fun _ _ => rfl)) (pa_cons (pe_ix (ix_tupK K rfl) (pv 1) pe_int (fun _ _ => rfl)) pa_nil)))) fun _ _ => cutE (ps_if (pt_not (pt_val (pe_call G_isbelow.up (hr.mono (by first | decide | omega)) rfl T.mg_isbelow T.F_isbelow.kp T.b_isbelow .nil pass1 (pa_cons (pe_ix (ix_tupK K rfl) (pv 1) pe_int (fun _ _ => rfl)) (pa_cons (pe_ifExp (pt_cmpR op_eq (pe_ix (ix_tupK K rfl) (pv 1) pe_int (fun _ _ => rfl)) pe_str (nomark _)) (pe_meth0 (pv 0) T.cl_Finds T.m_Findstall G_Findstall.up (hr.mono (by first | decide | omega)) T.b_Findstall .nil pass1) (pe_meth0 (pv 0) T.cl_Finds T.m_Findswide G_Findswide.up (hr.mono (by first | decide | omega)) T.b_Findswide .nil pass1)) pa_nil))))) (pss_one (ps_raiseK T.mg_NoStep T.x_NoStep PySem.F.excBase_ValueError rfl rfl (fun _ _ _ _ _ _ _ _ I m q => xe_new I m q) (pa_cons pe_str pa_nil))) pss_nil) fun _ _ => ?_
    cases f with
    | cell x y c =>
      dsimp only [Fct.no] at k1 k2
      walk_at "rdf"
      refine rd_ixT (SqT.of ha) (v := .str "cell") rfl ?_
      walk_at "rdf"
      rw [decide_eq_true (rfl : ("cell" : Str) = "cell")]
      walk_at "rdf"
      refine rd_ixT (SqT.of ha) (v := .int x) rfl ?_
      walk_at "rdf"
      refine rd_ixT (SqT.of ha) (v := .int y) rfl ?_
      walk_at "rdf"
      refine ⟨p, wd, ht, x, y, rfl, hz, fun hin => ?_, fun hin => k2 _ (if_neg hin) _ (Same.refl _)⟩
      rw [if_pos hin] at k1 k2
      walk_at "rdf"
      refine rd_ixT (SqT.of ha) (v := .int c) rfl ?_
      walk_at "rdf"
      refine ⟨c, rfl, ?_⟩
      cases hb : isBit c with
      | true =>
        rw [if_pos hb] at k1
        walk_at "rdf"
        exact k1 rfl _ (Same.refl _)
      | false =>
        walk_at "rdf"
        exact ⟨by show 1 ≤ sizeLine; decide, k2 _ (if_neg (by rw [hb]; decide)) _ (Same.refl _)⟩
    | line col kk s b =>
      dsimp only [Fct.no] at k1 k2
      walk_at "rdf"
      refine rd_ixT (SqT.of ha) (v := .str (wyS col)) rfl ?_
      walk_at "rdf"
      rw [wy_cell]
      walk_at "rdf"
      refine rd_methv h1 (no _ (by decide +kernel)) ?_
      walk_at "rdf"
      refine rd_ixT (SqT.of ha) (v := .str (wyS col)) rfl ?_
      walk_at "rdf"
      refine rd_ixT (SqT.of ha) (v := .int kk) rfl ?_
      walk_at "rdf"
      refine ⟨p, wd, ht, kk, wyS col, rfl, hz, ?_⟩
      by_cases hk : 0 ≤ kk ∧ kk < sdW col wd ht - 1
      · rw [if_pos hk] at k1 k2
        refine .inl ⟨col, rfl, hk, fun H1 s1 => ?_⟩
        have ha1 := s1 _ _ ha
        have h11 := s1 _ _ h1
        walk_at "rdf"
        refine rd_ixT (SqT.of ha1) (v := .int s) rfl ?_
        walk_at "rdf"
        refine rd_ixT (SqT.of ha1) (v := .str (wyS col)) rfl ?_
        walk_at "rdf"
        rw [wy_col]
        cases col with
        | true =>
          walk_at "rdf"
          refine rd_methv h11 (no _ (by decide +kernel)) ?_
          walk_at "rdf"
          refine ⟨p, wd, ht, rfl, hz.mono s1, ?_⟩
          walk_at "rdf"
          refine ⟨s, ht, rfl, ?_⟩
          rw [blw]
          by_cases c : 0 ≤ s ∧ s < ht
          · rw [decide_eq_true c]
            walk_at "rdf"
            exact k1 (if_pos c) _ s1
          · rw [decide_eq_false c]
            walk_at "rdf"
            exact ⟨by show 1 ≤ sizeLine; decide, k2 _ (if_neg c) _ s1⟩
        | false =>
          walk_at "rdf"
          refine rd_methv h11 (no _ (by decide +kernel)) ?_
          walk_at "rdf"
          refine ⟨p, wd, ht, rfl, hz.mono s1, ?_⟩
          walk_at "rdf"
          refine ⟨s, wd, rfl, ?_⟩
          rw [blw]
          by_cases c : 0 ≤ s ∧ s < wd
          · rw [decide_eq_true c]
            walk_at "rdf"
            exact k1 (if_pos c) _ s1
          · rw [decide_eq_false c]
            walk_at "rdf"
            exact ⟨by show 1 ≤ sizeLine; decide, k2 _ (if_neg c) _ s1⟩
      · refine .inr ⟨.inr ⟨col, rfl, hk⟩, fun H1 s1 => k2 _ (if_neg hk) _ s1⟩
end


section
variable {P : Program} {w : World} {K : PySem.W.Frag} {mg : Str → Option Value} {base : Heap} {t : Ad}
theorem FL.mk0 {wd ht n : Int} {df dg : Addr} : FL (putF "groups" (.ref dg) (putF "next_number" (.int n) (putF "facts" (.ref df) (putF "rows_count" (.int ht) (putF "columns_count" (.int wd) []))))) wd ht df n dg where
  w := by rw [lookup_putF, if_neg (by decide +kernel), lookup_putF, if_neg (by decide +kernel), lookup_putF, if_neg (by decide +kernel), lookup_putF, if_neg (by decide +kernel), lookup_putF, if_pos rfl]
  h := by rw [lookup_putF, if_neg (by decide +kernel), lookup_putF, if_neg (by decide +kernel), lookup_putF, if_neg (by decide +kernel), lookup_putF, if_pos rfl]
  f := by rw [lookup_putF, if_neg (by decide +kernel), lookup_putF, if_neg (by decide +kernel), lookup_putF, if_pos rfl]
  n := by rw [lookup_putF, if_neg (by decide +kernel), lookup_putF, if_pos rfl]
  g := by rw [lookup_putF, if_pos rfl]
  no := fun m z => by
    obtain ⟨⟨z1, z2⟩, z3, z4, z5⟩ := z
    rw [lookup_putF, if_neg z5, lookup_putF, if_neg z4, lookup_putF, if_neg z3, lookup_putF, if_neg z2, lookup_putF, if_neg z1]; rfl
  len := by
    have h1 := length_putF "groups" (.ref dg) (putF "next_number" (.int n) (putF "facts" (.ref df) (putF "rows_count" (.int ht) (putF "columns_count" (.int wd) []))))
    have h2 := length_putF "next_number" (.int n) (putF "facts" (.ref df) (putF "rows_count" (.int ht) (putF "columns_count" (.int wd) [])))
    have h3 := length_putF "facts" (.ref df) (putF "rows_count" (.int ht) (putF "columns_count" (.int wd) []))
    have h4 := length_putF "rows_count" (.int ht) (putF "columns_count" (.int wd) [])
    have h5 := length_putF "columns_count" (.int wd) []
    rw [List.length_nil] at h5
    omega
def spx_FindsInit (C BS : Addr) : Sp := fun vs H Q E => ∃ (p dx : Addr) (wd ht : Int), vs = [.ref p, .int wd, .int ht] ∧ H p = some (.ins C dx []) ∧ ((isSide wd && isSide ht) = false → E (.ref BS) none H) ∧
  ((isSide wd && isSide ht) = true → ∀ df dg H', ButL [p] H H' → H df = none → H dg = none → FdAt C H' p df dg wd.toNat ht.toNat [] 0 Fm.lone → Q .non H')
theorem okx_FindsInit (T : Txt K mg t) : FnOk P w K mg base (CX1 P w) 4 t.f_FindsInit t.d_FindsInit ["self", "wide", "tall"] (spx_FindsInit t.a_Finds t.a_BadSize) := by
  have G_isside := ok_isside (P := P) (w := w) (base := base) T
  have G_lonegroups := ok_lonegroups (P := P) (w := w) (base := base) T
  refine T.F_FindsInit.ok1 sc_FindsInit (fun vs H Q E h => ?_) (fun cdv A outer s H vs Q E hr h => ?_)
  · obtain ⟨p, dx, wd, ht, rfl, _⟩ := h; rfl
  · obtain ⟨p, dx, wd, ht, rfl, hp, k1, k2⟩ := h
    refine cutC (ps_if (pt_not (PW.pt (pw_and (pt_val (pe_call G_isside.up (hr.mono (by first | decide | omega)) rfl T.mg_isside T.F_isside.kp T.b_isside .nil pass1 (pa_cons (pv 1) pa_nil))) (pw_and1 (pt_val (pe_call G_isside.up (hr.mono (by first | decide | omega)) rfl T.mg_isside T.F_isside.kp T.b_isside .nil pass1 (pa_cons (pv 2) pa_nil))))))) (pss_one (ps_raiseK T.mg_BadSize T.x_BadSize PySem.F.excBase_ValueError rfl rfl (fun _ _ _ _ _ _ _ _ I m q => xe_new I m q) (pa_cons pe_str pa_nil))) pss_nil) fun _ _ => cutC (ps_fld (pv 0) (pv 1) rfl) fun _ _ => cutC (ps_fld (pv 0) (pv 2) rfl) fun _ _ => cutC (ps_fld (pv 0) pe_dnewK rfl) fun _ _ => cutC (ps_fld (pv 0) pe_int rfl) fun _ _ => cutE (ps_fld (pv 0) (pe_call G_lonegroups.up (hr.mono (by first | decide | omega)) rfl T.mg_lonegroups T.F_lonegroups.kp T.b_lonegroups .nil pass1 (pa_cons (pv 1) (pa_cons (pv 2) pa_nil))) rfl) fun _ _ => ?_
    walk_at "rdf"
    refine ⟨wd, rfl, ?_⟩
    cases c1 : isSide wd with
    | false =>
      walk_at "rdf"
      exact ⟨by show 1 ≤ sizeLine; decide, k1 (by rw [c1]; rfl)⟩
    | true =>
      walk_at "rdf"
      refine ⟨ht, rfl, ?_⟩
      cases c2 : isSide ht with
      | false =>
        walk_at "rdf"
        exact ⟨by show 1 ≤ sizeLine; decide, k1 (by rw [c1, c2]; rfl)⟩
      | true =>
        have k2 := k2 (by rw [c1, c2]; rfl)
        have b1 : 0 < wd ∧ wd < 41 := by unfold isSide at c1; rw [Bool.and_eq_true, decide_eq_true_eq, decide_eq_true_eq] at c1; exact c1
        have b2 : 0 < ht ∧ ht < 41 := by unfold isSide at c2; rw [Bool.and_eq_true, decide_eq_true_eq, decide_eq_true_eq] at c2; exact c2
        have ew : ((wd.toNat : Nat) : Int) = wd := by omega
        have eh : ((ht.toNat : Nat) : Int) = ht := by omega
        walk_at "rdf"
        refine rd_sfldv hp T.cl_Finds T.naF_columns_count (by show 0 < 1000; decide) ?_
        have m1 : ButL [p] H (upd H p (.ins t.a_Finds dx (putF (Str.ofString "columns_count") (.int wd) []))) := (ButL.refl _ _).upd List.mem_cons_self
        have e1 := upd_same (H := H) (a := p) (o := .ins t.a_Finds dx (putF (Str.ofString "columns_count") (.int wd) []))
        generalize upd H p (.ins t.a_Finds dx (putF (Str.ofString "columns_count") (.int wd) [])) = H1 at m1 e1 ⊢
        walk_at "rdf"
        refine rd_sfldv e1 T.cl_Finds T.naF_rows_count (Nat.lt_of_le_of_lt (length_putF _ _ _) (by show 1 < 1000; decide)) ?_
        generalize hfs2 : putF (Str.ofString "rows_count") (.int ht) (putF (Str.ofString "columns_count") (.int wd) []) = fs2
        have l2 : fs2.length ≤ 2 := by rw [← hfs2]; exact Nat.le_trans (length_putF _ _ _) (Nat.succ_le_succ (length_putF _ _ _))
        have m2 : ButL [p] H (upd H1 p (.ins t.a_Finds dx fs2)) := m1.upd List.mem_cons_self
        have e2 := upd_same (H := H1) (a := p) (o := .ins t.a_Finds dx fs2)
        generalize upd H1 p (.ins t.a_Finds dx fs2) = H2 at m2 e2 ⊢
        walk_at "rdf"
        refine fun df nf => ?_
        have nf0 : H df = none := by
          cases z : H df with
          | none => rfl
          | some o =>
            by_cases hq : df = p
            · subst hq; rw [e2] at nf; cases nf
            · have := m2 df o z (by rw [List.mem_singleton]; exact hq); rw [nf] at this; cases this
        have m3 : ButL [p] H (upd H2 df (.dK [])) := m2.new nf
        have e3 := Same.new (o := HO.dK []) nf _ _ e2
        have f3 := upd_same (H := H2) (a := df) (o := HO.dK [])
        generalize upd H2 df (HO.dK []) = H3 at m3 e3 f3 ⊢
        have npf : df ≠ p := ne_of f3 e3 (fun z => nomatch z)
        walk_at "rdf"
        refine rd_sfldv e3 T.cl_Finds T.naF_facts (by omega) ?_
        have m4 : ButL [p] H (upd H3 p (.ins t.a_Finds dx (putF (Str.ofString "facts") (.ref df) fs2))) := m3.upd List.mem_cons_self
        have f4 : upd H3 p (.ins t.a_Finds dx (putF (Str.ofString "facts") (.ref df) fs2)) df = some (.dK []) := by rw [upd_ne npf]; exact f3
        have e4 := upd_same (H := H3) (a := p) (o := .ins t.a_Finds dx (putF (Str.ofString "facts") (.ref df) fs2))
        generalize upd H3 p (.ins t.a_Finds dx (putF (Str.ofString "facts") (.ref df) fs2)) = H4 at m4 e4 f4 ⊢
        have l4 : (putF (Str.ofString "facts") (.ref df) fs2).length ≤ 3 := Nat.le_trans (length_putF _ _ _) (Nat.succ_le_succ l2)
        walk_at "rdf"
        refine rd_sfldv e4 T.cl_Finds T.naF_next_number (by omega) ?_
        generalize hfs5 : putF (Str.ofString "next_number") (.int 0) (putF (Str.ofString "facts") (.ref df) fs2) = fs5
        have l5 : fs5.length ≤ 4 := by rw [← hfs5]; exact Nat.le_trans (length_putF _ _ _) (Nat.succ_le_succ l4)
        have m5 : ButL [p] H (upd H4 p (.ins t.a_Finds dx fs5)) := m4.upd List.mem_cons_self
        have f5 : upd H4 p (.ins t.a_Finds dx fs5) df = some (.dK []) := by rw [upd_ne npf]; exact f4
        have e5 := upd_same (H := H4) (a := p) (o := .ins t.a_Finds dx fs5)
        generalize upd H4 p (.ins t.a_Finds dx fs5) = H5 at m5 e5 f5 ⊢
        walk_at "rdf"
        refine ⟨wd.toNat, ht.toNat, (by rw [ew, eh]; rfl), by omega, by omega, fun dg H6 s6 ng g6 => ?_⟩
        have ng0 : H dg = none := by
          cases z : H dg with
          | none => rfl
          | some o =>
            by_cases hq : dg = p
            · subst hq; rw [e5] at ng; cases ng
            · have := m5 dg o z (by rw [List.mem_singleton]; exact hq); rw [ng] at this; cases this
        have e6 := s6 _ _ e5
        walk_at "rdf"
        refine rd_sfldv e6 T.cl_Finds T.naF_groups (by omega) ?_
        walk_at "rdf"
        obtain ⟨⟨kg, hg, _⟩, _⟩ := id g6
        have npg : dg ≠ p := ne_of hg e6 (fun z => nomatch z)
        have mb : ButL [p] H6 (upd H6 p (.ins t.a_Finds dx (putF (Str.ofString "groups") (.ref dg) fs5))) := (ButL.refl _ _).upd List.mem_cons_self
        have nt : NoT H6 [p] := fun x hx xs => by rw [List.mem_singleton.mp hx, e6]; intro z; cases z
        refine k2 df dg _ ((m5.trans (s6.butL _)).trans mb) nf0 ng0 ⟨⟨dx, _, upd_same, ?_⟩, ⟨[], ?_, ⟨rfl, fun i k v nf h1 => by simp at h1⟩⟩, g6.but mb nt (by rw [List.mem_singleton]; exact npg)⟩
        · rw [← hfs5, ← hfs2, ew, eh]; exact FL.mk0
        · rw [upd_ne npf]; exact s6 _ _ f5
/-! facts as data -/
def Fct.dat : Fct → PyData
  | .cell x y c => .tuple [.str "cell", .int x, .int y, .int c]
  | .line col k s b => .tuple [.str (wyS col), .int k, .int s, .bool b]
theorem Fct.rep {H : Hp} {a : Addr} {f : Fct} (h : H a = some (.tup f.vs)) : Rep H f.dat (.ref a) := by
  cases f with
  | cell x y c => simp only [Fct.dat, Rep, RepL]; exact ⟨a, _, rfl, h, _, _, rfl, rfl, _, _, rfl, rfl, _, _, rfl, rfl, _, _, rfl, rfl, rfl⟩
  | line col k s b => simp only [Fct.dat, Rep, RepL]; exact ⟨a, _, rfl, h, _, _, rfl, rfl, _, _, rfl, rfl, _, _, rfl, rfl, _, _, rfl, rfl, rfl⟩
theorem wy_ok (col : Bool) : PyData.strOk (wyS col) = true := by cases col <;> decide +kernel
theorem Fct.lay (f : Fct) : f.dat.canLay0 = true ∧ f.dat.depth ≤ 60 := by
  cases f with
  | cell x y c => exact ⟨by simp only [Fct.dat, PyData.canLay0, PyData.canLayAll0]; decide +kernel, by simp only [Fct.dat, PyData.depth, PyData.depthAll]; decide⟩
  | line col k s b => exact ⟨by simp only [Fct.dat, PyData.canLay0, PyData.canLayAll0, wy_ok]; decide, by simp only [Fct.dat, PyData.depth, PyData.depthAll]; decide⟩
theorem Fct.eqv (f g : Fct) : PyData.eqv f.dat g.dat = decide (f = g) := by
  have hw : ∀ a b : Bool, (wyS a == wyS b) = (a == b) := by intro a b; cases a <;> cases b <;> decide +kernel
  cases f with
  | cell x y c =>
    cases g with
    | cell x' y' c' =>
      simp only [Fct.dat, PyData.eqv, PyData.eqvAll, Bool.and_true, beq_self_eq_true, Bool.true_and]
      by_cases h1 : x = x' <;> by_cases h2 : y = y' <;> by_cases h3 : c = c' <;> simp [h1, h2, h3]
    | line col' k' s' b' =>
      simp only [Fct.dat, PyData.eqv, PyData.eqvAll]
      rw [decide_eq_false (by intro z; cases z)]
      have : (("cell" : Str) == wyS col') = false := by cases col' <;> decide +kernel
      rw [this]; rfl
  | line col k s b =>
    cases g with
    | cell x' y' c' =>
      simp only [Fct.dat, PyData.eqv, PyData.eqvAll]
      rw [decide_eq_false (by intro z; cases z)]
      have : (wyS col == ("cell" : Str)) = false := by cases col <;> decide +kernel
      rw [this]; rfl
    | line col' k' s' b' =>
      simp only [Fct.dat, PyData.eqv, PyData.eqvAll, Bool.and_true, hw]
      by_cases h1 : col = col' <;> by_cases h2 : k = k' <;> by_cases h3 : s = s' <;> by_cases h4 : b = b' <;> simp [h1, h2, h3, h4]
theorem repL_facts {H : Hp} : ∀ {xs : List V} {fs : List Fct}, PwF H xs fs → RepL H (fs.map Fct.dat) xs
  | [], [], _ => by simp only [List.map_nil, RepL]
  | [], _ :: _, h => by have := h.1; simp at this
  | _ :: _, [], h => by have := h.1; simp at this
  | x :: xs, f :: fs, h => by
    simp only [List.map_cons, RepL]
    obtain ⟨a, rfl, ha⟩ := h.2 0 x f rfl rfl
    refine ⟨_, _, rfl, Fct.rep ha, repL_facts ⟨?_, fun i v g h1 h2 => h.2 (i + 1) v g (by simpa using h1) (by simpa using h2)⟩⟩
    have := h.1
    simpa using this
theorem lay_facts : ∀ fs : List Fct, PyData.canLayAll0 (fs.map Fct.dat) = true
  | [] => rfl
  | f :: fs => by rw [List.map_cons, PyData.canLayAll0, f.lay.1, lay_facts fs]; rfl
theorem any_facts (fs : List Fct) (f : Fct) : ((fs.map Fct.dat).any fun y => PyData.eqv y f.dat) = decide (f ∈ fs) := by
  rw [List.any_map]
  induction fs with
  | nil => rfl
  | cons g fs ih =>
    rw [List.any_cons, ih]
    show (PyData.eqv g.dat f.dat || _) = _
    rw [Fct.eqv]
    rw [show decide (g = f) = decide (f = g) from decide_eq_decide.mpr eq_comm]
    by_cases h1 : f = g <;> by_cases h2 : f ∈ fs <;> simp [h1, h2]
theorem rd_inF {H : Hp} {Q : VK} {l a : Addr} {xs : List V} {fs : List Fct} {f : Fct} (hl : H l = some (.lst xs)) (pf : PwF H xs fs) (ha : H a = some (.tup f.vs)) (q : Q (.bl (decide (f ∈ fs))) H) : rInD (.ref a) (.ref l) H Q :=
  ⟨_, _, by simp only [Rep]; exact ⟨l, xs, rfl, hl, repL_facts pf⟩, Fct.rep ha, lay_facts fs, f.lay.1, f.lay.2, by rw [any_facts]; exact q⟩
theorem rd_ninF {H : Hp} {Q : VK} {l a : Addr} {xs : List V} {fs : List Fct} {f : Fct} (hl : H l = some (.lst xs)) (pf : PwF H xs fs) (ha : H a = some (.tup f.vs)) (q : Q (.bl (!decide (f ∈ fs))) H) : rNinD (.ref a) (.ref l) H Q :=
  ⟨_, _, by simp only [Rep]; exact ⟨l, xs, rfl, hl, repL_facts pf⟩, Fct.rep ha, lay_facts fs, f.lay.1, f.lay.2, by rw [any_facts]; exact q⟩
theorem PwN.snoc {H : Hp} {kf : List (Key × V)} {F : List (Int × Fct)} {n : Int} {f : Fct} {a : Addr} (h : PwN H kf F) (ha : H a = some (.tup f.vs)) : PwN H (kf ++ [(.inl n, .ref a)]) (F ++ [(n, f)]) := by
  refine ⟨by rw [List.length_append, List.length_append, h.1]; rfl, fun i k v nf h1 h2 => ?_⟩
  by_cases hi : i < kf.length
  · rw [List.getElem?_append_left hi] at h1
    rw [List.getElem?_append_left (by rw [← h.1]; exact hi)] at h2
    exact h.2 i k v nf h1 h2
  · rw [List.getElem?_append_right (by omega)] at h1
    rw [List.getElem?_append_right (by rw [← h.1]; omega), ← h.1] at h2
    cases hk : i - kf.length with
    | zero =>
      rw [hk] at h1 h2
      simp only [List.getElem?_cons_zero, Option.some.injEq, Prod.mk.injEq] at h1 h2
      obtain ⟨rfl, rfl⟩ := h1
      subst h2
      exact ⟨rfl, a, rfl, ha⟩
    | succ k' => rw [hk] at h1; simp at h1
def spx_Findsnote (C NC BB NL NS KN : Addr) : Sp := fun vs H Q E => ∃ (p a df dg : Addr) (wd ht : Nat) (F : List (Int × Fct)) (n : Int) (G : List Key → List Key × Int) (f : Fct), vs = [.ref p, .ref a] ∧ FdAt C H p df dg wd ht F n G ∧ wd ≤ 40 ∧ ht ≤ 40 ∧ F.length ≤ 900 ∧ (∀ nf ∈ F, nf.1 < n) ∧
  H a = some (.tup f.vs) ∧ (∀ X, f.no NC BB NL NS wd ht = some X → ∀ H', Same H H' → E (.ref X) none H') ∧ (f.inW wd ht → f ∈ F.map (·.2) → ∀ H', Same H H' → E (.ref KN) none H') ∧
  (f.inW wd ht → f ∉ F.map (·.2) → (wtB G f.tie.1 f.tie.2.1 = .non ∨ wtB G f.tie.1 f.tie.2.1 = .int f.tie.2.2) ∧ ∀ H', ButL [p, df, dg] H H' → FdAt C H' p df dg wd ht (F ++ [(n, f)]) (n + 1) (Fm.tieG G f.tie) → Q (.int n) H')
theorem okx_Findsnote (T : Txt K mg t) : FnOk P w K mg base (CX1 P w) 6 t.f_Findsnote t.d_Findsnote ["self", "fact"] (spx_Findsnote t.a_Finds t.a_NoCell t.a_BadBit t.a_NoLine t.a_NoStep t.a_Known) := by
  have G_factstrips := ok_factstrips (P := P) (w := w) (base := base) T
  have G_factweight := ok_factweight (P := P) (w := w) (base := base) T
  have G_weightbetween := ok_weightbetween (P := P) (w := w) (base := base) T
  have G_tie := ok_tie (P := P) (w := w) (base := base) T
  have GX_Findsneedfact := okx_Findsneedfact (P := P) (w := w) (base := base) T
  refine T.F_Findsnote.ok1 sc_Findsnote (fun vs H Q E h => ?_) (fun cdv A outer s H vs Q E hr h => ?_)
  · obtain ⟨p, a, df, dg, wd, ht, F, n, G, f, rfl, _⟩ := h; rfl
  · obtain ⟨p, a, df, dg, wd, ht, F, n, G, f, rfl, fd, lw, lh, lF, ln, ha, k1, k2, k3⟩ := h
    obtain ⟨dx, fs, hp, fl⟩ := fd.ob
    obtain ⟨kf, hdf, pf⟩ := fd.fa
    refine cutC (ps_expr (pe_meth (pv 0) T.cl_Finds T.m_Findsneedfact GX_Findsneedfact (hr.mono (by first | decide | omega)) T.b_Findsneedfact .nil pass1 (pa_cons (pv 1) pa_nil))) fun _ _ => cutC (ps_if (pt_cmpR (op_inD hr.units) (pv 1) (pe_callTy (cI_listV rfl) rfl T.no_list (by rfl) (pa_cons (pe_bm0 PySem.F.plainAttrs_dict PySem.F.slot_dict_values PySem.F.type_dict_values mt_values (pe_fldK K rfl (pv 0) rfl)) pa_nil)) rfl) (pss_one (ps_raiseK T.mg_Known T.x_Known PySem.F.excBase_ValueError rfl rfl (fun _ _ _ _ _ _ _ _ I m q => xe_new I m q) (pa_cons pe_str pa_nil))) pss_nil) fun _ _ => cutC (ps_set (i := 2) sc_Findsnote.nd rfl (Or.inl rfl) (pe_call G_factstrips.up (hr.mono (by first | decide | omega)) rfl T.mg_factstrips T.F_factstrips.kp T.b_factstrips .nil pass1 (pa_cons (pv 1) pa_nil))) fun _ _ => cutC (ps_set (i := 3) sc_Findsnote.nd rfl (Or.inl rfl) (pe_call G_weightbetween.up (hr.mono (by first | decide | omega)) rfl T.mg_weightbetween T.F_weightbetween.kp T.b_weightbetween .nil pass1 (pa_cons (pe_fldK K rfl (pv 0) rfl) (pa_cons (pv 2) pa_nil)))) fun _ _ => cutC (ps_join (ps_if (PW.pt (pw_and (pt_cmpR op_notN (pv 3) pe_non (nomark _)) (pw_and1 (pt_cmpR op_ne (pv 3) (pe_call G_factweight.up (hr.mono (by first | decide | omega)) rfl T.mg_factweight T.F_factweight.kp T.b_factweight .nil pass1 (pa_cons (pv 1) pa_nil)) (nomark _))))) (pss_one ps_never) pss_nil)) fun _ _ => cutC (ps_expr (pe_call G_tie.up (hr.mono (by first | decide | omega)) rfl T.mg_tie T.F_tie.kp T.b_tie .nil pass1 (pa_cons (pe_fldK K rfl (pv 0) rfl) (pa_cons (pv 2) (pa_cons (pe_call G_factweight.up (hr.mono (by first | decide | omega)) rfl T.mg_factweight T.F_factweight.kp T.b_factweight .nil pass1 (pa_cons (pv 1) pa_nil)) pa_nil))))) fun _ _ => cutC (ps_set (i := 4) sc_Findsnote.nd rfl (Or.inl rfl) (pe_fldK K rfl (pv 0) rfl)) fun _ _ => cutC (ps_dput (hu_of hr) (pe_fldK K rfl (pv 0) rfl) (pv 4) (pv 1) rfl) fun _ _ => cutC (ps_fld (pv 0) (pe_op op_add (pv 4) pe_int) rfl) fun _ _ => cutE (ps_ret (pv 4)) fun _ _ => ?_
    walk_at "rdf"
    refine rd_methv hp (fl.no _ (by decide +kernel)) ?_
    walk_at "rdf"
    refine ⟨p, a, wd, ht, f, rfl, fd.sz, ha, fun hno H1 s1 => ?_, k1⟩
    have hin := Fct.no_iff.mp hno
    have k2 := k2 hin
    have k3 := k3 hin
    have fdD := Fct.inD hin
    walk_at "rdf"
    refine rd_fldv (s1 _ _ hp) T.cl_Finds T.naF_facts fl.f ?_
    walk_at "rdf"
    refine rd_bmD (s1 _ _ hdf) ?_
    refine rd_viewv (s1 _ _ hdf) fun v nv => ?_
    have sv := Same.new (o := ViewO "dict_values" v df) nv
    have ev := upd_same (H := H1) (a := v) (o := ViewO "dict_values" v df)
    generalize upd H1 v (ViewO "dict_values" v df) = H2 at sv ev ⊢
    have s2 := s1.trans sv
    walk_at "rdf"
    refine rd_listV ev (s2 _ _ hdf) fun l nl => ?_
    have sl := Same.new (o := HO.lst (kf.map (·.2))) nl
    have el := upd_same (H := H2) (a := l) (o := HO.lst (kf.map (·.2)))
    generalize upd H2 l (HO.lst (kf.map (·.2))) = H3 at sl el ⊢
    have s3 := s2.trans sl
    walk_at "rdf"
    refine rd_inF el (pf.vals.mono s3) (s3 _ _ ha) ?_
    by_cases hm : f ∈ F.map (·.2)
    · rw [decide_eq_true hm]
      walk_at "rdf"
      exact ⟨by show 1 ≤ sizeLine; decide, k2 hm _ s3⟩
    · rw [decide_eq_false hm]
      obtain ⟨cl, k3⟩ := k3 hm
      walk_at "rdf"
      refine ⟨a, f, rfl, s3 _ _ ha, fun T1 ta tb H4 s4 pr => ?_⟩
      have s4 := s3.trans s4
      have fd4 := fd.mono s4
      walk_at "rdf"
      refine rd_fldv (s4 _ _ hp) T.cl_Finds T.naF_groups fl.g ?_
      walk_at "rdf"
      refine ⟨dg, T1, ta, tb, _, G, _, _, rfl, fd4.gr, pr, fdD.1, fdD.2, ?_⟩
      walk_at "rdf"
      refine rd_join (fun σ' H' => σ' = [some (.ref p), some (.ref a), some (.ref T1), some (wtB G f.tie.1 f.tie.2.1), none] ∧ H' = H4) ?_ ?_
      · walk_at "rdf"
        refine ⟨rfl, ?_⟩
        rcases cl with e | e
        · rw [e, decide_eq_true rfl]
          walk_at "rdf"
          exact ⟨by rw [← e]; rfl, rfl⟩
        · rw [e, decide_eq_false (fun z => nomatch z)]
          walk_at "rdf"
          refine ⟨a, f, wd, ht, rfl, s4 _ _ ha, hin, by omega, by omega, ?_⟩
          walk_at "rdf"
          rw [decide_eq_true rfl]
          walk_at "rdf"
          exact ⟨by rw [← e]; rfl, rfl⟩
      · rintro σ' H' ⟨rfl, rfl⟩
        have nt4 := fd4.not
        obtain ⟨⟨kg, hkg, _⟩, _⟩ := id fd4.gr
        have hp4 := s4 _ _ hp
        have hdf4 := s4 _ _ hdf
        have pdg : p ≠ dg := ne_of hp4 hkg (fun z => nomatch z)
        have fdg : df ≠ dg := ne_of hdf4 hkg (fun z => nomatch z)
        have fp : df ≠ p := ne_of hdf4 hp4 (fun z => nomatch z)
        walk_at "rdf"
        refine rd_fldv hp4 T.cl_Finds T.naF_groups fl.g ?_
        walk_at "rdf"
        refine ⟨a, f, wd, ht, rfl, s4 _ _ ha, hin, by omega, by omega, ?_⟩
        walk_at "rdf"
        refine ⟨dg, T1, ta, tb, _, G, _, _, _, rfl, fd4.gr, stripsD_nodup wd ht, by rw [stripsD_len]; omega, pr, fdD.1, fdD.2, fun H5 m5 g5 => ?_⟩
        have nt : NoT H' [dg] := fun x hx => nt4 x (by rw [List.mem_singleton.mp hx]; simp)
        have hp5 := m5 _ _ hp4 (by rw [List.mem_singleton]; exact pdg)
        have hdf5 := m5 _ _ hdf4 (by rw [List.mem_singleton]; exact fdg)
        have ha5 := but_tup m5 nt (s4 _ _ ha)
        have pf5 := (pf.but (s4.butL []) (fun x hx => nomatch hx)).but m5 nt
        walk_at "rdf"
        refine rd_fldv hp5 T.cl_Finds T.naF_next_number fl.n ?_
        walk_at "rdf"
        refine rd_fldv hp5 T.cl_Finds T.naF_facts fl.f ?_
        walk_at "rdf"
        refine ⟨df, _, rfl, DPut.k (k := .inl n) hdf5 (by rw [pf.1]; exact small1000 (by omega)), ?_⟩
        have nk : valV kf (.inl n) = none := valV_none (by
          rw [pf.keys]
          intro z
          obtain ⟨nf, hm', e⟩ := List.mem_map.mp z
          have := ln nf hm'
          injection e with e
          omega)
        rw [putK_new _ nk]
        have ed6 := upd_same (H := H5) (a := df) (o := HO.dK (kf ++ [(.inl n, .ref a)]))
        have hp6 : upd H5 df (HO.dK (kf ++ [(.inl n, .ref a)])) p = some (.ins t.a_Finds dx fs) := by rw [upd_ne fp.symm]; exact hp5
        have m6 : ButL [p, df] H5 (upd H5 df (HO.dK (kf ++ [(.inl n, .ref a)]))) := (ButL.refl _ _).upd (by simp)
        generalize upd H5 df (HO.dK (kf ++ [(.inl n, .ref a)])) = H6 at ed6 hp6 m6 ⊢
        walk_at "rdf"
        refine rd_sfldv hp6 T.cl_Finds T.naF_next_number (by have := fl.len; omega) ?_
        walk_at "rdf"
        have m7 : ButL [p, df] H5 (upd H6 p (.ins t.a_Finds dx (putF (Str.ofString "next_number") (.int (n + 1)) fs))) := m6.upd (by simp)
        have nt5 : NoT H5 [p, df] := fun x hx xs => by
          simp only [List.mem_cons, List.not_mem_nil, or_false] at hx
          rcases hx with rfl | rfl
          · rw [hp5]; intro z; cases z
          · rw [hdf5]; intro z; cases z
        refine k3 _ (fun b o e nb => m7 b o (m5 b o (s4 _ _ e) (fun z => nb (by rw [List.mem_singleton.mp z]; simp))) (fun z => nb (by simp only [List.mem_cons, List.not_mem_nil, or_false] at z ⊢; rcases z with z | z <;> simp [z]))) ⟨⟨dx, _, upd_same, fl.next⟩, ⟨_, (by rw [upd_ne fp]; exact ed6), (pf5.snoc ha5).but m7 nt5⟩, g5.but m7 nt5 ?_⟩
        simp only [List.mem_cons, List.not_mem_nil, or_false, not_or]
        exact ⟨pdg.symm, fdg.symm⟩
theorem PwN.tail {H : Hp} {k : Key} {v : V} {kf : List (Key × V)} {nf : Int × Fct} {F : List (Int × Fct)} (h : PwN H ((k, v) :: kf) (nf :: F)) : (k = .inl nf.1 ∧ ∃ a, v = .ref a ∧ H a = some (.tup nf.2.vs)) ∧ PwN H kf F :=
  ⟨h.2 0 k v nf rfl rfl, by have := h.1; simpa using this, fun i k' v' nf' h1 h2 => h.2 (i + 1) k' v' nf' (by simpa using h1) (by simpa using h2)⟩
theorem PwN.cons {H : Hp} {k : Key} {v : V} {kf : List (Key × V)} {nf : Int × Fct} {F : List (Int × Fct)} (h1 : k = .inl nf.1 ∧ ∃ a, v = .ref a ∧ H a = some (.tup nf.2.vs)) (h : PwN H kf F) : PwN H ((k, v) :: kf) (nf :: F) := by
  refine ⟨by rw [List.length_cons, List.length_cons, h.1], fun i k' v' nf' e1 e2 => ?_⟩
  cases i with
  | zero =>
    simp only [List.getElem?_cons_zero, Option.some.injEq, Prod.mk.injEq] at e1 e2
    obtain ⟨rfl, rfl⟩ := e1
    subst e2
    exact h1
  | succ i => simp only [List.getElem?_cons_succ] at e1 e2; exact h.2 i k' v' nf' e1 e2
theorem PwN.drop {H : Hp} {j : Int} : ∀ {kf : List (Key × V)} {F : List (Int × Fct)}, PwN H kf F → PwN H (dropK kf (.inl j)) (F.filter fun nf => decide (nf.1 ≠ j))
  | [], [], _ => ⟨rfl, fun i k v nf h1 => by simp [dropK] at h1⟩
  | [], _ :: _, h => by have := h.1; simp at this
  | _ :: _, [], h => by have := h.1; simp at this
  | (k, v) :: kf, nf :: F, h => by
    obtain ⟨h1, h2⟩ := h.tail
    have ih := PwN.drop (j := j) h2
    unfold dropK at ih ⊢
    rw [List.filter_cons, List.filter_cons]
    have e : decide (k ≠ Sum.inl j) = decide (nf.1 ≠ j) := by
      rw [h1.1]
      exact decide_eq_decide.mpr (not_congr ⟨fun z => by injection z, fun z => by rw [z]⟩)
    simp only [e]
    by_cases c : nf.1 ≠ j
    · rw [if_pos (decide_eq_true c), if_pos (decide_eq_true c)]; exact PwN.cons h1 ih
    · rw [if_neg (by rw [decide_eq_false c]; decide), if_neg (by rw [decide_eq_false c]; decide)]; exact ih
def outF (F : List (Int × Fct)) (j : Int) : List (Int × Fct) := F.filter fun nf => decide (nf.1 ≠ j)
def grpF (F : List (Int × Fct)) : List Key → List Key × Int := Fm.tiesG ((F.map (·.2)).map Fct.tie) Fm.lone
end

section
variable {P : Program} {w : World} {K : PySem.W.Frag} {mg : Str → Option Value} {base : Heap} {t : Ad}
def spx_Findswithdraw (C NF : Addr) : Sp := fun vs H Q E => ∃ (p df dg : Addr) (wd ht : Nat) (F : List (Int × Fct)) (n j : Int) (G : List Key → List Key × Int), vs = [.ref p, .int j] ∧ FdAt C H p df dg wd ht F n G ∧ wd ≤ 40 ∧ ht ≤ 40 ∧ (∀ nf ∈ F, nf.2.inW wd ht) ∧
  (j ∉ F.map (·.1) → E (.ref NF) none H) ∧ (j ∈ F.map (·.1) → ∀ dg' H', ButL [p, df, dg] H H' → H dg' = none → FdAt C H' p df dg' wd ht (outF F j) n (grpF (outF F j)) → Q .non H')
theorem okx_Findswithdraw (T : Txt K mg t) : FnOk P w K mg base (CX1 P w) 5 t.f_Findswithdraw t.d_Findswithdraw ["self", "number"] (spx_Findswithdraw t.a_Finds t.a_NoFact) := by
  have G_isnumber := ok_isnumber (P := P) (w := w) (base := base) T
  have G_groupsof := ok_groupsof (P := P) (w := w) (base := base) T
  have G_Findswide := ok_Findswide (P := P) (w := w) (base := base) T
  have G_Findstall := ok_Findstall (P := P) (w := w) (base := base) T
  refine T.F_Findswithdraw.ok1 sc_Findswithdraw (fun vs H Q E h => ?_) (fun cdv A outer s H vs Q E hr h => ?_)
  · obtain ⟨p, df, dg, wd, ht, F, n, j, G, rfl, _⟩ := h; rfl
  · obtain ⟨p, df, dg, wd, ht, F, n, j, G, rfl, fd, lw, lh, hin, k1, k2⟩ := h
    obtain ⟨dx, fs, hp, fl⟩ := fd.ob
    obtain ⟨kf, hdf, pf⟩ := fd.fa
    have fp : df ≠ p := ne_of hdf hp (fun z => nomatch z)
    refine cutC (ps_if (PW.pt (pw_or (pt_not (pt_val (pe_call G_isnumber.up (hr.mono (by first | decide | omega)) rfl T.mg_isnumber T.F_isnumber.kp T.b_isnumber .nil pass1 (pa_cons (pv 1) pa_nil)))) (pw_or1 (pt_cmp (pc_dnotin (hu_of hr) (pv 1) (pe_fldK K rfl (pv 0) rfl)))))) (pss_one (ps_raiseK T.mg_NoFact T.x_NoFact PySem.F.excBase_ValueError rfl rfl (fun _ _ _ _ _ _ _ _ I m q => xe_new I m q) (pa_cons pe_str pa_nil))) pss_nil) fun _ _ => cutC (ps_expr (pe_dpop1 (pe_fldK K rfl (pv 0) rfl) (pv 1) ⟨rfl, rfl, rfl, rfl⟩)) fun _ _ => cutE (ps_fld (pv 0) (pe_call G_groupsof.up (hr.mono (by first | decide | omega)) rfl T.mg_groupsof T.F_groupsof.kp T.b_groupsof .nil pass1 (pa_cons (pe_meth0 (pv 0) T.cl_Finds T.m_Findswide G_Findswide.up (hr.mono (by first | decide | omega)) T.b_Findswide .nil pass1) (pa_cons (pe_meth0 (pv 0) T.cl_Finds T.m_Findstall G_Findstall.up (hr.mono (by first | decide | omega)) T.b_Findstall .nil pass1) (pa_cons (pe_callTy (cI_listV rfl) rfl T.no_list (by rfl) (pa_cons (pe_bm0 PySem.F.plainAttrs_dict PySem.F.slot_dict_values PySem.F.type_dict_values mt_values (pe_fldK K rfl (pv 0) rfl)) pa_nil)) pa_nil)))) rfl) fun _ _ => ?_
    walk_at "rdf"
    refine ⟨j, rfl, ?_⟩
    walk_at "rdf"
    refine rd_fldv hp T.cl_Finds T.naF_facts fl.f ?_
    walk_at "rdf"
    refine ⟨df, _, rfl, DGet.k (k := .inl j) hdf, ?_⟩
    have hmem : (valV kf (.inl j)).isSome = true ↔ j ∈ F.map (·.1) := by
      rw [valV_mem, pf.keys]
      constructor
      · intro z
        obtain ⟨nf, hm, e⟩ := List.mem_map.mp z
        injection e with e
        exact List.mem_map.mpr ⟨nf, hm, e⟩
      · intro z
        obtain ⟨nf, hm, e⟩ := List.mem_map.mp z
        exact List.mem_map.mpr ⟨nf, hm, by rw [e]⟩
    cases hv : valV kf (.inl j) with
    | none =>
      walk_at "rdf"
      exact ⟨by show 1 ≤ sizeLine; decide, k1 fun z => by have := hmem.mpr z; rw [hv] at this; cases this⟩
    | some v =>
      have k2 := k2 (hmem.mp (by rw [hv]; rfl))
      rw [Option.isSome_some]
      walk_at "rdf"
      refine rd_fldv hp T.cl_Finds T.naF_facts fl.f ?_
      refine rd_isDK hdf ?_
      walk_at "rdf"
      refine ⟨kf, .inl j, v, hdf, rfl, hv, ?_⟩
      have e1 := upd_same (H := H) (a := df) (o := HO.dK (dropK kf (.inl j)))
      have hp1 : upd H df (HO.dK (dropK kf (.inl j))) p = some (.ins t.a_Finds dx fs) := by rw [upd_ne fp.symm]; exact hp
      have m1 : ButL [p, df] H (upd H df (HO.dK (dropK kf (.inl j)))) := (ButL.refl _ _).upd (by simp)
      generalize upd H df (HO.dK (dropK kf (.inl j))) = H1 at e1 hp1 m1 ⊢
      have nt0 : NoT H [p, df] := fun x hx => fd.not x (by simp only [List.mem_cons, List.not_mem_nil, or_false] at hx ⊢; rcases hx with z | z <;> simp [z])
      have pf1 := (pf.drop (j := j)).but m1 nt0
      have sz1 : SzAt t.a_Finds H1 p wd ht := ⟨dx, fs, hp1, fl.w, fl.h, fl.no⟩
      walk_at "rdf"
      refine rd_methv hp1 (fl.no _ (by decide +kernel)) ?_
      walk_at "rdf"
      refine ⟨p, wd, ht, rfl, sz1, ?_⟩
      walk_at "rdf"
      refine rd_methv hp1 (fl.no _ (by decide +kernel)) ?_
      walk_at "rdf"
      refine ⟨p, wd, ht, rfl, sz1, ?_⟩
      walk_at "rdf"
      refine rd_fldv hp1 T.cl_Finds T.naF_facts fl.f ?_
      walk_at "rdf"
      refine rd_bmD e1 ?_
      refine rd_viewv e1 fun v nv => ?_
      have sv := Same.new (o := ViewO "dict_values" v df) nv
      have ev := upd_same (H := H1) (a := v) (o := ViewO "dict_values" v df)
      generalize upd H1 v (ViewO "dict_values" v df) = H2 at sv ev ⊢
      walk_at "rdf"
      refine rd_listV ev (sv _ _ e1) fun l nl => ?_
      have sl := Same.new (o := HO.lst ((dropK kf (.inl j)).map (·.2))) nl
      have el := upd_same (H := H2) (a := l) (o := HO.lst ((dropK kf (.inl j)).map (·.2)))
      generalize upd H2 l (HO.lst ((dropK kf (.inl j)).map (·.2))) = H3 at sl el ⊢
      have s3 := sv.trans sl
      walk_at "rdf"
      refine ⟨wd, ht, l, _, (outF F j).map (·.2), rfl, lw, lh, el, pf1.vals.mono s3, fun f hf => ?_, fun dg' H4 s4 ng g4 => ?_⟩
      · obtain ⟨nf, hm, rfl⟩ := List.mem_map.mp hf
        exact hin nf (List.mem_filter.mp hm).1
      · have s4 := s3.trans s4
        have hp4 := s4 _ _ hp1
        have ng1 : H dg' = none := by
          have z1 := (sv.trans sl).free ng
          cases z : H dg' with
          | none => rfl
          | some o =>
            by_cases hq : dg' ∈ [p, df]
            · simp only [List.mem_cons, List.not_mem_nil, or_false] at hq
              rcases hq with rfl | rfl
              · rw [hp1] at z1; cases z1
              · rw [e1] at z1; cases z1
            · have := m1 dg' o z hq; rw [z1] at this; cases this
        walk_at "rdf"
        refine rd_sfldv hp4 T.cl_Finds T.naF_groups (by have := fl.len; omega) ?_
        walk_at "rdf"
        obtain ⟨⟨kg, hkg, _⟩, _⟩ := id g4
        have pdg : dg' ≠ p := ne_of hkg hp4 (fun z => nomatch z)
        have m5 : ButL [p] H4 (upd H4 p (.ins t.a_Finds dx (putF (Str.ofString "groups") (.ref dg') fs))) := (ButL.refl _ _).upd (by simp)
        have nt4 : NoT H4 [p] := fun x hx xs => by rw [List.mem_singleton.mp hx, hp4]; intro z; cases z
        refine k2 dg' _ (fun b o e nb => m5 b o (s4 _ _ (m1 b o e (fun z => nb (by simp only [List.mem_cons, List.not_mem_nil, or_false] at z ⊢; rcases z with z | z <;> simp [z])))) (fun z => nb (by rw [List.mem_singleton.mp z]; simp))) ng1 ⟨⟨dx, _, upd_same, fl.grp⟩, ⟨_, (by rw [upd_ne fp]; exact s4 _ _ e1), (pf1.but (s4.butL []) (fun x hx => nomatch hx)).but m5 nt4⟩, g4.but m5 nt4 (by rw [List.mem_singleton]; exact pdg)⟩
end


section
variable {P : Program} {w : World} {K : PySem.W.Frag} {mg : Str → Option Value} {base : Heap} {t : Ad}
/-! the law's own helpers: what is drawn -/
def Sm (z : Int) : Prop := -1000000000000000000 < z ∧ z < 1000000000000000000
theorem sm_snoc {zs : List Int} {z : Int} (h : ∀ y ∈ zs, Sm y) (hz : Sm z) : ∀ y ∈ zs ++ [z], Sm y := fun y hy => by
  rcases List.mem_append.mp hy with q | q
  · exact h y q
  · rw [List.mem_singleton.mp q]; exact hz
theorem sm_mod (r : Int) {m : Int} (h0 : 0 < m) (h1 : m ≤ 1000003) : Sm (r % m) := by
  have := Int.emod_nonneg r (by omega : m ≠ 0)
  have := Int.emod_lt_of_pos r h0
  unfold Sm; omega
def sp_Ldraws (K : PySem.W.Frag) : Sp := fun vs H Q _ => ∃ (a : Addr) (m : Nat) (ns : List Int), vs = [.ref a, .int m] ∧ SqL K H a (ns.map V.int) ∧ ns.length ≤ 63 ∧ m ≤ 200 ∧
  ∀ (l : Addr) (zs : List Int) (H' : Hp), Same H H' → H' l = some (.lst (zs.map V.int)) → m ≤ zs.length → zs.length ≤ 300 → (∀ z ∈ zs, Sm z) → Q (.ref l) H'
theorem map_snoc (zs : List Int) (z : Int) : zs.map V.int ++ [V.int z] = (zs ++ [z]).map V.int := by simp
theorem ok_Ldraws (T : Txt K mg t) : FnOk P w K mg base CX0 1 t.f_Ldraws t.d_Ldraws ["_law_script", "_law_many"] (sp_Ldraws K) := by
  refine T.F_Ldraws.ok sc_Ldraws (fun vs H Q E h => ?_) (fun cdv A outer s H vs Q E hr h => ?_)
  · obtain ⟨a, m, ns, rfl, _⟩ := h; rfl
  · obtain ⟨a, m, ns, rfl, hS, hl, hm, k⟩ := h
    refine cutC (ps_set (i := 2) sc_Ldraws.nd rfl (Or.inl rfl) (pe_lst pa_nil)) fun _ _ => cutC (ps_set (i := 3) sc_Ldraws.nd rfl (Or.inl rfl) pe_int) fun _ _ => cutC (ps_for PassesOwn.never rfl (pi_list (pv 0)) (pg_name (i := 4) sc_Ldraws.nd rfl (Or.inl rfl)) (pss_cons (ps_set (i := 3) sc_Ldraws.nd rfl (Or.inl rfl) (pe_op op_mod (pe_op op_add (pe_op op_mul (pv 3) pe_int) (pv 4)) pe_int)) (pss_cons (ps_set (i := 5) sc_Ldraws.nd rfl (Or.inl rfl) (pe_callB cI_abs rfl T.no_abs (by rfl) (pa_cons (pv 4) pa_nil))) (pss_cons (ps_if (pt_cmpR op_lt (pv 5) (pe_op op_pow pe_int pe_int) (nomark _)) (pss_cons (ps_expr (pe_bm PySem.F.plainAttrs_list PySem.F.slot_list_append PySem.F.type_list_append mt_append (pv 2) (pa_cons (pv 4) pa_nil))) (pss_one (ps_set (i := 5) sc_Ldraws.nd rfl (Or.inl rfl) pe_int))) pss_nil) (pss_one (ps_while PassesOwn.never (PW.pt (pw_and (pt_cmpR op_gt (pv 5) pe_int (nomark _)) (pw_and1 (pt_cmpR op_lt (pe_callB (cI_lenK K rfl) rfl T.no_len (by rfl) (pa_cons (pv 2) pa_nil)) (pv 1) (nomark _))))) (pss_cons (ps_expr (pe_bm PySem.F.plainAttrs_list PySem.F.slot_list_append PySem.F.type_list_append mt_append (pv 2) (pa_cons (pe_op op_mod (pv 5) pe_int) pa_nil))) (pss_one (ps_set (i := 5) sc_Ldraws.nd rfl (Or.inl rfl) (pe_op op_fdiv (pv 5) pe_int)))))))))) fun _ _ => cutC (ps_while PassesOwn.never (pt_cmpR op_lt (pe_callB (cI_lenK K rfl) rfl T.no_len (by rfl) (pa_cons (pv 2) pa_nil)) (pv 1) (nomark _)) (pss_cons (ps_set (i := 3) sc_Ldraws.nd rfl (Or.inl rfl) (pe_op op_mod (pe_op op_add (pe_op op_mul (pv 3) pe_int) pe_int) pe_int)) (pss_one (ps_expr (pe_bm PySem.F.plainAttrs_list PySem.F.slot_list_append PySem.F.type_list_append mt_append (pv 2) (pa_cons (pe_op op_mod (pe_op op_mul (pv 3) (pv 3)) pe_int) pa_nil)))))) fun _ _ => cutE (ps_ret (pv 2)) fun _ _ => ?_
    walk_at "rd"
    refine ⟨Nat.zero_le _, fun l hn => ?_⟩
    walk_at "rd"
    have hz : ∀ {zs : List Int}, zs.length ≤ 300 → (zs.map V.int).length < sizeLine := fun h => by rw [List.length_map]; exact small1000 (by omega)
    refine ⟨⟨_, (Same.new hn).seq hS⟩, forW_list (K := K) (a := a) (xs := ns.map V.int) (fun i σ' H' => ∃ (zs : List Int) (mix : Int) (c r : Option V), σ' = [some (.ref a), some (.int m), some (.ref l), some (.int mix), c, r] ∧ Same H H' ∧ H' l = some (.lst (zs.map V.int)) ∧ zs.length ≤ i + m ∧ ∀ z ∈ zs, Sm z)
      ⟨[], 1, none, none, rfl, Same.new hn, upd_same, Nat.zero_le _, fun z hz => by cases hz⟩ (fun i σ' H' _ ⟨_, _, _, _, _, s, _⟩ => s.seq hS) ?_ ?_⟩
    · rintro i y σ' H' hi ⟨zs, mix, c, r, rfl, s1, e1, lz, sm⟩
      have hil : i < ns.length := by have := (List.getElem?_eq_some_iff.mp hi).1; rwa [List.length_map] at this
      obtain ⟨z, rfl⟩ : ∃ z, y = V.int z := by
        rw [List.getElem?_map] at hi
        cases e : ns[i]? with
        | none => rw [e] at hi; cases hi
        | some z => rw [e] at hi; exact ⟨z, (Option.some.inj hi).symm⟩
      walk_at "rd"
      refine rd_I (.inr ⟨by decide, by decide⟩) ?_
      walk_at "rd"
      refine rd_I (by decide) ?_
      walk_at "rd"
      refine rd_I ⟨by decide, by decide, by decide⟩ ?_
      walk_at "rd"
      refine ite2 (fun hc => ?_) (fun _ => ?_)
      · have hc := of_decide_eq_true hc
        have hcz : Sm z := by
          unfold Sm
          have e18 : (10 : Int) ^ 18 = 1000000000000000000 := by decide
          by_cases hz0 : z < 0
          · rw [if_pos hz0] at hc; change -z < (10 : Int) ^ 18 at hc; omega
          · rw [if_neg hz0] at hc; change z < (10 : Int) ^ 18 at hc; omega
        walk_at "rd"
        refine rd_bmL e1 ?_
        walk_at "rd"
        refine rd_append e1 (hz (by omega)) ?_
        rw [map_snoc]
        walk_at "rd"
        refine ⟨fun n σ' H' => ∃ (zs : List Int) (mix : Int) (r : Int), σ' = [some (.ref a), some (.int m), some (.ref l), some (.int mix), some (.int z), some (.int r)] ∧ Same H H' ∧ H' l = some (.lst (zs.map V.int)) ∧ zs.length ≤ i + 1 + m ∧ n = m - zs.length ∧ ∀ z ∈ zs, Sm z,
          ⟨_, zs ++ [z], _, _, rfl, s1.later hn, upd_same, by rw [List.length_append, List.length_singleton]; omega, rfl, sm_snoc sm hcz⟩, ?_⟩
        rintro n σ' H' ⟨zs, mix, r, rfl, s1, e1, lz, rfl, sm⟩
        walk_at "rd"
        refine ite2 (fun _ => ?_) (fun _ => ?_)
        · walk_at "rd"
          refine rd_lenL e1 ?_
          walk_at "rd"
          rw [List.length_map]
          refine ite2 (fun h2 => ?_) (fun h2 => ?_)
          · have h2 := of_decide_eq_true h2
            refine ⟨fun σ' H' => ∃ (zs' : List Int) (mix : Int) (r : Int), σ' = [some (.ref a), some (.int m), some (.ref l), some (.int mix), some (.int z), some (.int r)] ∧ Same H H' ∧ H' l = some (.lst (zs'.map V.int)) ∧ zs'.length = zs.length + 1 ∧ ∀ z ∈ zs', Sm z, ?_, ?_⟩
            · rintro σ' H' ⟨zs', mix, r, rfl, s1, e1, lz', sm'⟩
              exact ⟨m - zs'.length, by omega, zs', mix, r, rfl, s1, e1, by omega, rfl, sm'⟩
            · walk_at "rd"
              refine rd_bmL e1 ?_
              walk_at "rd"
              refine rd_I (by decide) ?_
              walk_at "rd"
              refine rd_append e1 (hz (by omega)) ?_
              rw [map_snoc]
              walk_at "rd"
              refine rd_I ⟨by decide, by decide⟩ ?_
              walk_at "rd"
              exact ⟨zs ++ [r % 1000003], mix, _, rfl, s1.later hn, upd_same, by rw [List.length_append, List.length_singleton], sm_snoc sm (sm_mod r (by decide) (by decide))⟩
          · walk_at "rd"
            exact ⟨zs, mix, _, _, rfl, s1, e1, lz, sm⟩
        · walk_at "rd"
          exact ⟨zs, mix, _, _, rfl, s1, e1, lz, sm⟩
      · walk_at "rd"
        refine ⟨fun n σ' H' => ∃ (zs : List Int) (mix : Int) (r : Int), σ' = [some (.ref a), some (.int m), some (.ref l), some (.int mix), some (.int z), some (.int r)] ∧ Same H H' ∧ H' l = some (.lst (zs.map V.int)) ∧ zs.length ≤ i + 1 + m ∧ n = m - zs.length ∧ ∀ z ∈ zs, Sm z,
          ⟨_, zs, _, _, rfl, s1, e1, by omega, rfl, sm⟩, ?_⟩
        rintro n σ' H' ⟨zs, mix, r, rfl, s1, e1, lz, rfl, sm⟩
        walk_at "rd"
        refine ite2 (fun _ => ?_) (fun _ => ?_)
        · walk_at "rd"
          refine rd_lenL e1 ?_
          walk_at "rd"
          rw [List.length_map]
          refine ite2 (fun h2 => ?_) (fun h2 => ?_)
          · have h2 := of_decide_eq_true h2
            refine ⟨fun σ' H' => ∃ (zs' : List Int) (mix : Int) (r : Int), σ' = [some (.ref a), some (.int m), some (.ref l), some (.int mix), some (.int z), some (.int r)] ∧ Same H H' ∧ H' l = some (.lst (zs'.map V.int)) ∧ zs'.length = zs.length + 1 ∧ ∀ z ∈ zs', Sm z, ?_, ?_⟩
            · rintro σ' H' ⟨zs', mix, r, rfl, s1, e1, lz', sm'⟩
              exact ⟨m - zs'.length, by omega, zs', mix, r, rfl, s1, e1, by omega, rfl, sm'⟩
            · walk_at "rd"
              refine rd_bmL e1 ?_
              walk_at "rd"
              refine rd_I (by decide) ?_
              walk_at "rd"
              refine rd_append e1 (hz (by omega)) ?_
              rw [map_snoc]
              walk_at "rd"
              refine rd_I ⟨by decide, by decide⟩ ?_
              walk_at "rd"
              exact ⟨zs ++ [r % 1000003], mix, _, rfl, s1.later hn, upd_same, by rw [List.length_append, List.length_singleton], sm_snoc sm (sm_mod r (by decide) (by decide))⟩
          · walk_at "rd"
            exact ⟨zs, mix, _, _, rfl, s1, e1, lz, sm⟩
        · walk_at "rd"
          exact ⟨zs, mix, _, _, rfl, s1, e1, lz, sm⟩
    · rintro σ' H' ⟨zs, mix, c, r, rfl, s1, e1, lz, sm⟩
      rw [List.length_map] at lz
      walk_at "rd"
      refine ⟨fun n σ' H' => ∃ (zs : List Int) (mix : Int), σ' = [some (.ref a), some (.int m), some (.ref l), some (.int mix), c, r] ∧ (-(2 ^ 64) < mix ∧ mix < 2 ^ 64 ∨ True) ∧ Same H H' ∧ H' l = some (.lst (zs.map V.int)) ∧ zs.length ≤ 300 ∧ n = m - zs.length ∧ ∀ z ∈ zs, Sm z,
        ⟨_, zs, mix, rfl, .inr trivial, s1, e1, by omega, rfl, sm⟩, ?_⟩
      rintro n σ' H' ⟨zs, mix, rfl, _, s1, e1, lz, rfl, sm⟩
      walk_at "rd"
      refine rd_lenL e1 ?_
      walk_at "rd"
      rw [List.length_map]
      refine ite2 (fun h2 => ?_) (fun h2 => ?_)
      · have h2 := of_decide_eq_true h2
        refine ⟨fun σ' H' => ∃ (zs' : List Int) (mix : Int), σ' = [some (.ref a), some (.int m), some (.ref l), some (.int mix), c, r] ∧ Same H H' ∧ H' l = some (.lst (zs'.map V.int)) ∧ zs'.length = zs.length + 1 ∧ ∀ z ∈ zs', Sm z, ?_, ?_⟩
        · rintro σ' H' ⟨zs', mix, rfl, s1, e1, lz', sm'⟩
          exact ⟨m - zs'.length, by omega, zs', mix, rfl, .inr trivial, s1, e1, by omega, rfl, sm'⟩
        · walk_at "rd"
          refine rd_I (.inr ⟨by decide, by decide⟩) ?_
          walk_at "rd"
          refine rd_I (by decide) ?_
          walk_at "rd"
          refine rd_bmL e1 ?_
          walk_at "rd"
          refine rd_I (.inl ⟨by omega, by omega⟩) ?_
          walk_at "rd"
          refine rd_I (by decide) ?_
          walk_at "rd"
          refine rd_append e1 (hz (by omega)) ?_
          rw [map_snoc]
          walk_at "rd"
          exact ⟨zs ++ [_], _, rfl, s1.later hn, upd_same, by rw [List.length_append, List.length_singleton], sm_snoc sm (sm_mod _ (by decide) (by decide))⟩
      · have h2 : ¬ ((zs.length : Int) < m) := fun z => h2 (decide_eq_true z)
        walk_at "rd"
        exact k l zs H' s1 e1 (by omega) (by omega) sm
end

section
variable {P : Program} {w : World} {K : PySem.W.Frag} {mg : Str → Option Value} {base : Heap} {t : Ad}
def sp_Lbits : Sp := fun vs H Q _ => ∃ (n : Int) (m : Nat), vs = [.int n, .int m] ∧ m ≤ 100 ∧ ∀ (l : Addr) (bs : List Int) (H' : Hp), Same H H' → H l = none → H' l = some (.lst (bs.map V.int)) → bs.length = m → (∀ z ∈ bs, z = 0 ∨ z = 1) → Q (.ref l) H'
theorem emod_le {a b : Int} (ha : 0 ≤ a) (hb : 0 < b) : a % b ≤ a := by
  obtain ⟨m, rfl⟩ := Int.eq_ofNat_of_zero_le ha
  obtain ⟨n, rfl⟩ := Int.eq_ofNat_of_zero_le (Int.le_of_lt hb)
  rw [← Int.natCast_emod]
  exact Int.ofNat_le.mpr (Nat.mod_le _ _)
theorem mod2 (n : Int) : n % 2 = 0 ∨ n % 2 = 1 := by omega
theorem ok_Lbits (T : Txt K mg t) : FnOk P w K mg base CX0 1 t.f_Lbits t.d_Lbits ["_law_number", "_law_many"] sp_Lbits := by
  refine T.F_Lbits.ok sc_Lbits (fun vs H Q E h => ?_) (fun cdv A outer s H vs Q E hr h => ?_)
  · obtain ⟨n, m, rfl, _⟩ := h; rfl
  · obtain ⟨n, m, rfl, hm, k⟩ := h
    refine cutC (ps_set (i := 2) sc_Lbits.nd rfl (Or.inl rfl) (pe_lst pa_nil)) fun _ _ => cutC (ps_for PassesOwn.never rfl (pi_range1 rfl T.no_range (pa_cons (pv 1) pa_nil)) (pg_name (i := 3) sc_Lbits.nd rfl (Or.inl rfl)) (pss_cons (ps_expr (pe_bm PySem.F.plainAttrs_list PySem.F.slot_list_append PySem.F.type_list_append mt_append (pv 2) (pa_cons (pe_op op_mod (pv 0) pe_int) pa_nil))) (pss_one (ps_set (i := 0) sc_Lbits.nd rfl (Or.inl rfl) (pe_op op_fdiv (pv 0) pe_int))))) fun _ _ => cutE (ps_ret (pv 2)) fun _ _ => ?_
    walk_at "rd"
    refine ⟨Nat.zero_le _, fun l hn => ?_⟩
    walk_at "rd"
    refine ⟨m, rfl, by omega, by omega, ?_⟩
    rw [Int.toNat_natCast]
    refine forW_range (fun i σ' H' => ∃ (n : Int) (bs : List Int) (c : Option V), σ' = [some (.int n), some (.int m), some (.ref l), c] ∧ Same H H' ∧ H' l = some (.lst (bs.map V.int)) ∧ bs.length = i ∧ ∀ z ∈ bs, z = 0 ∨ z = 1)
      ⟨n, [], none, rfl, Same.new hn, upd_same, rfl, fun z hz => by cases hz⟩ ?_ ?_
    · rintro i σ' H' hi ⟨n, bs, c, rfl, s1, e1, lb, hb⟩
      walk_at "rd"
      refine rd_bmL e1 ?_
      walk_at "rd"
      refine rd_I (by decide) ?_
      walk_at "rd"
      refine rd_append e1 (by rw [List.length_map]; exact small1000 (by omega)) ?_
      rw [map_snoc]
      walk_at "rd"
      refine rd_I ⟨by decide, by decide⟩ ?_
      walk_at "rd"
      refine ⟨_, bs ++ [n % 2], _, rfl, s1.later hn, upd_same, by rw [List.length_append, List.length_singleton]; omega, fun z hz => ?_⟩
      rcases List.mem_append.mp hz with h | h
      · exact hb z h
      · rw [List.mem_singleton.mp h]; exact mod2 n
    · rintro σ' H' ⟨n, bs, c, rfl, s1, e1, lb, hb⟩
      walk_at "rd"
      exact k l bs H' s1 hn e1 lb hb
def sp_Lrow : Sp := fun vs H Q _ => ∃ (a : Addr) (m : Nat) (zs : List Int), vs = [.ref a, .int m] ∧ H a = some (.lst (zs.map V.int)) ∧ 4 ≤ zs.length ∧ m ≤ 100 ∧ ∀ (l : Addr) (bs : List Int) (H' : Hp), Same H H' → H l = none → H' l = some (.lst (bs.map V.int)) → bs.length = m → (∀ z ∈ bs, z = 0 ∨ z = 1) → Q (.ref l) H'
theorem ok_Lrow (T : Txt K mg t) : FnOk P w K mg base CX0 2 t.f_Lrow t.d_Lrow ["_law_some", "_law_many"] sp_Lrow := by
  have G_Lbits := ok_Lbits (P := P) (w := w) (base := base) T
  refine T.F_Lrow.ok sc_Lrow (fun vs H Q E h => ?_) (fun cdv A outer s H vs Q E hr h => ?_)
  · obtain ⟨a, m, zs, rfl, _⟩ := h; rfl
  · obtain ⟨a, m, zs, rfl, ha, hl, hm, k⟩ := h
    refine cutC (ps_set (i := 2) sc_Lrow.nd rfl (Or.inl rfl) (pe_op op_add (pe_op op_add (pe_ix (ix_listK K rfl) (pv 0) pe_int (fun _ _ => rfl)) (pe_op op_mul pe_int (pe_ix (ix_listK K rfl) (pv 0) pe_int (fun _ _ => rfl)))) (pe_op op_mul (pe_op op_mul pe_int pe_int) (pe_ix (ix_listK K rfl) (pv 0) pe_int (fun _ _ => rfl))))) fun _ _ => cutC (ps_if (pt_cmpR op_eq (pe_op op_mod (pe_ix (ix_listK K rfl) (pv 0) pe_int (fun _ _ => rfl)) pe_int) pe_int (nomark _)) (pss_one (ps_set (i := 2) sc_Lrow.nd rfl (Or.inl rfl) (pe_un un_neg (pe_op op_mod (pe_ix (ix_listK K rfl) (pv 0) pe_int (fun _ _ => rfl)) pe_int)))) pss_nil) fun _ _ => cutC (ps_set (i := 3) sc_Lrow.nd rfl (Or.inr rfl) (pe_call G_Lbits (hr.mono (by first | decide | omega)) rfl T.mg_Lbits T.F_Lbits.kp T.b_Lbits .nil pass0 (pa_cons (pv 2) (pa_cons (pv 1) pa_nil)))) fun _ _ => cutC (ps_if (pt_cmpR op_eq (pe_op op_mod (pe_ix (ix_listK K rfl) (pv 0) pe_int (fun _ _ => rfl)) pe_int) pe_int (nomark _)) (pss_one (ps_set (i := 3) sc_Lrow.nd rfl (Or.inr rfl) (pe_comp (N := ["_law_k", "_law_row_here", "_law_some"]) (cap := [none, some 3, some 0]) rfl ⟨rfl, rfl, rfl, rfl, rfl, rfl⟩ (pi_range1 rfl T.no_range (pa_cons (pv 1) pa_nil)) (fun _ _ _ => (pg_name (i := 0) (show (["_law_k", "_law_row_here", "_law_some"] : List Str).Nodup by decide +kernel) rfl (Or.inl rfl))) (fun _ _ _ => pts_nil) (fun _ _ _ => (pe_ix (ix_listK K rfl) (pv 1) (pe_op op_mod (pv 0) (pe_op op_add pe_int (pe_op op_mod (pe_ix (ix_listK K rfl) (pv 2) pe_int (fun _ _ => rfl)) pe_int))) (fun _ _ => rfl)))))) pss_nil) fun _ _ => cutE (ps_ret (pv 3)) fun _ _ => ?_
    have I0 : atI (zs.map V.int) 0 = _ := atI_ints (by decide) (by omega)
    have I1 : atI (zs.map V.int) 1 = _ := atI_ints (by decide) (by omega)
    have I2 : atI (zs.map V.int) 2 = _ := atI_ints (by decide) (by omega)
    have I3 : atI (zs.map V.int) 3 = _ := atI_ints (by decide) (by omega)
    generalize zs.getD (0 : Int).toNat 0 = z0 at I0
    generalize zs.getD (1 : Int).toNat 0 = z1 at I1
    generalize zs.getD (2 : Int).toNat 0 = z2 at I2
    generalize zs.getD (3 : Int).toNat 0 = z3 at I3
    -- behind the raw number: the bits, and the pattern
    walk_at "rd"
    refine rd_ixL (SqL.of ha) I0 ?_
    walk_at "rd"
    refine rd_ixL (SqL.of ha) I1 ?_
    walk_at "rd"
    refine rd_I (.inl ⟨by decide, by decide⟩) ?_
    walk_at "rd"
    refine rd_I (.inl ⟨by decide, by decide⟩) ?_
    walk_at "rd"
    refine rd_ixL (SqL.of ha) I2 ?_
    walk_at "rd"
    refine rd_I (.inl ⟨by decide, by decide⟩) ?_
    walk_at "rd"
    refine rd_ixL (SqL.of ha) I3 ?_
    walk_at "rd"
    refine rd_I (by decide) ?_
    walk_at "rd"
    refine ite2 (fun _ => ?_) (fun _ => ?_)
    · walk_at "rd"
      refine rd_ixL (SqL.of ha) I0 ?_
      walk_at "rd"
      refine rd_I (by decide) ?_
      walk_at "rd"
      refine ⟨_, m, rfl, hm, fun l bs H1 s1 n1 e1 lb hb => ?_⟩
      walk_at "rd"
      refine rd_ixL (SqL.of (s1 _ _ ha)) I3 ?_
      walk_at "rd"
      refine rd_I (by decide) ?_
      walk_at "rd"
      refine ite2 (fun _ => ?_) (fun _ => ?_)
      · walk_at "rd"
        refine ⟨m, rfl, by omega, by omega, fun l2 hn => ?_⟩
        rw [Int.toNat_natCast]
        refine compW_range (fun i => .int (bs.getD (((0 : Int) + (i : Nat)) % (1 + z1 % 4)).toNat 0)) (by omega) hn (fun i o H' Q' hi s2 q => ?_) (fun H' s2 e2 => ?_)
        · walk_at "rd"
          refine rd_ixL (SqL.of (s2 _ _ (s1 _ _ ha))) I1 ?_
          walk_at "rd"
          refine rd_I (by decide) ?_
          walk_at "rd"
          have p1 : 0 < 1 + z1 % 4 := by omega
          refine rd_I p1 ?_
          walk_at "rd"
          have q0 := Int.emod_nonneg ((0 : Int) + (i : Nat)) (by omega : 1 + z1 % 4 ≠ 0)
          have q1 : ((0 : Int) + (i : Nat)) % (1 + z1 % 4) ≤ (0 : Int) + (i : Nat) := emod_le (by omega) (by omega)
          refine rd_ixL (SqL.of (s2 _ _ e1)) (atI_ints q0 (by omega)) ?_
          exact q H' (Same.refl _)
        · walk_at "rd"
          refine k l2 ((List.range m).map fun i => bs.getD (((0 : Int) + (i : Nat)) % (1 + z1 % 4)).toNat 0) H' (s1.trans s2) (s1.free hn) (by rw [e2, List.map_map]; rfl) (by rw [List.length_map, List.length_range]) fun z hz => ?_
          obtain ⟨i, hi, rfl⟩ := List.mem_map.mp hz
          have hi := List.mem_range.mp hi
          have q0 := Int.emod_nonneg ((0 : Int) + (i : Nat)) (by omega : 1 + z1 % 4 ≠ 0)
          have q1 : ((0 : Int) + (i : Nat)) % (1 + z1 % 4) ≤ (0 : Int) + (i : Nat) := emod_le (by omega) (by omega)
          exact hb _ (L2.getD_mem (by omega))
      · walk_at "rd"
        exact k l bs H1 s1 n1 e1 lb hb
    · walk_at "rd"
      refine ⟨_, m, rfl, hm, fun l bs H1 s1 n1 e1 lb hb => ?_⟩
      walk_at "rd"
      refine rd_ixL (SqL.of (s1 _ _ ha)) I3 ?_
      walk_at "rd"
      refine rd_I (by decide) ?_
      walk_at "rd"
      refine ite2 (fun _ => ?_) (fun _ => ?_)
      · walk_at "rd"
        refine ⟨m, rfl, by omega, by omega, fun l2 hn => ?_⟩
        rw [Int.toNat_natCast]
        refine compW_range (fun i => .int (bs.getD (((0 : Int) + (i : Nat)) % (1 + z1 % 4)).toNat 0)) (by omega) hn (fun i o H' Q' hi s2 q => ?_) (fun H' s2 e2 => ?_)
        · walk_at "rd"
          refine rd_ixL (SqL.of (s2 _ _ (s1 _ _ ha))) I1 ?_
          walk_at "rd"
          refine rd_I (by decide) ?_
          walk_at "rd"
          have p1 : 0 < 1 + z1 % 4 := by omega
          refine rd_I p1 ?_
          walk_at "rd"
          have q0 := Int.emod_nonneg ((0 : Int) + (i : Nat)) (by omega : 1 + z1 % 4 ≠ 0)
          have q1 : ((0 : Int) + (i : Nat)) % (1 + z1 % 4) ≤ (0 : Int) + (i : Nat) := emod_le (by omega) (by omega)
          refine rd_ixL (SqL.of (s2 _ _ e1)) (atI_ints q0 (by omega)) ?_
          exact q H' (Same.refl _)
        · walk_at "rd"
          refine k l2 ((List.range m).map fun i => bs.getD (((0 : Int) + (i : Nat)) % (1 + z1 % 4)).toNat 0) H' (s1.trans s2) (s1.free hn) (by rw [e2, List.map_map]; rfl) (by rw [List.length_map, List.length_range]) fun z hz => ?_
          obtain ⟨i, hi, rfl⟩ := List.mem_map.mp hz
          have hi := List.mem_range.mp hi
          have q0 := Int.emod_nonneg ((0 : Int) + (i : Nat)) (by omega : 1 + z1 % 4 ≠ 0)
          have q1 : ((0 : Int) + (i : Nat)) % (1 + z1 % 4) ≤ (0 : Int) + (i : Nat) := emod_le (by omega) (by omega)
          exact hb _ (L2.getD_mem (by omega))
      · walk_at "rd"
        exact k l bs H1 s1 n1 e1 lb hb
end

section
variable {P : Program} {w : World} {K : PySem.W.Frag} {mg : Str → Option Value} {base : Heap} {t : Ad}
/-- a plan: shade and two lists of bits, as a tuple or as a list -/
structure PlanAt (tupl : Bool) (H : Hp) (p : Addr) (s : Int) (cs rs : List Int) : Prop where
  ob : ∃ c r, H p = some (if tupl then .tup [.int s, .ref c, .ref r] else .lst [.int s, .ref c, .ref r]) ∧ H c = some (.lst (cs.map V.int)) ∧ H r = some (.lst (rs.map V.int))
  sh : s = 0 ∨ s = 1
  bc : Bits cs
  br : Bits rs
theorem PlanAt.mono {b : Bool} {H H' : Hp} {p : Addr} {s : Int} {cs rs : List Int} (e : Same H H') (c : PlanAt b H p s cs rs) : PlanAt b H' p s cs rs := by
  obtain ⟨⟨a, b, h1, h2, h3⟩, x, y, z⟩ := c
  exact ⟨⟨a, b, e _ _ h1, e _ _ h2, e _ _ h3⟩, x, y, z⟩
def sp_Lsmall : Sp := fun vs H Q _ => ∃ (a : Addr) (zs : List Int), vs = [.ref a] ∧ H a = some (.lst (zs.map V.int)) ∧ 12 ≤ zs.length ∧ ∀ p s cs rs H', Same H H' → PlanAt true H' p s cs rs → Q (.ref p) H'
theorem pick_a (i : Int) : 0 < ([5, 9, 16, 40, 5] : List Int).getD (i % 5).toNat 0 ∧ ([5, 9, 16, 40, 5] : List Int).getD (i % 5).toNat 0 ≤ 40 := by
  have h := L2.getD_mem (zs := ([5, 9, 16, 40, 5] : List Int)) (k := (i % 5).toNat) (d := 0) (by simp; omega)
  simp only [List.mem_cons, List.not_mem_nil, or_false] at h
  rcases h with h | h | h | h | h <;> rw [h] <;> decide
theorem pick_b (i : Int) : 0 < ([5, 9, 12, 5, 40] : List Int).getD (i % 5).toNat 0 ∧ ([5, 9, 12, 5, 40] : List Int).getD (i % 5).toNat 0 ≤ 40 := by
  have h := L2.getD_mem (zs := ([5, 9, 12, 5, 40] : List Int)) (k := (i % 5).toNat) (d := 0) (by simp; omega)
  simp only [List.mem_cons, List.not_mem_nil, or_false] at h
  rcases h with h | h | h | h | h <;> rw [h] <;> decide
theorem ok_Lsmall (T : Txt K mg t) : FnOk P w K mg base CX0 3 t.f_Lsmall t.d_Lsmall ["_law_some"] sp_Lsmall := by
  have G_Lrow := ok_Lrow (P := P) (w := w) (base := base) T
  refine T.F_Lsmall.ok sc_Lsmall (fun vs H Q E h => ?_) (fun cdv A outer s H vs Q E hr h => ?_)
  · obtain ⟨a, zs, rfl, _⟩ := h; rfl
  · obtain ⟨a, zs, rfl, ha, hl, k⟩ := h
    refine cutC (ps_set (i := 1) sc_Lsmall.nd rfl (Or.inl rfl) (pe_op op_add pe_int (pe_op op_mod (pe_ix (ix_listK K rfl) (pv 0) pe_int (fun _ _ => rfl)) (pe_ix (ix_listK K rfl) (pe_lst (pa_cons pe_int (pa_cons pe_int (pa_cons pe_int (pa_cons pe_int (pa_cons pe_int pa_nil)))))) (pe_op op_mod (pe_ix (ix_listK K rfl) (pv 0) pe_int (fun _ _ => rfl)) pe_int) (fun _ _ => rfl))))) fun _ _ => cutC (ps_set (i := 2) sc_Lsmall.nd rfl (Or.inl rfl) (pe_op op_add pe_int (pe_op op_mod (pe_ix (ix_listK K rfl) (pv 0) pe_int (fun _ _ => rfl)) (pe_ix (ix_listK K rfl) (pe_lst (pa_cons pe_int (pa_cons pe_int (pa_cons pe_int (pa_cons pe_int (pa_cons pe_int pa_nil)))))) (pe_op op_mod (pe_ix (ix_listK K rfl) (pv 0) pe_int (fun _ _ => rfl)) pe_int) (fun _ _ => rfl))))) fun _ _ => cutE (ps_ret (pe_tup (pa_cons (pe_op op_mod (pe_ix (ix_listK K rfl) (pv 0) pe_int (fun _ _ => rfl)) pe_int) (pa_cons (pe_call G_Lrow (hr.mono (by first | decide | omega)) rfl T.mg_Lrow T.F_Lrow.kp T.b_Lrow .nil pass0 (pa_cons (pe_slice (sl_listK K rfl) (pv 0) (po_some pe_int) po_none) (pa_cons (pe_op op_sub (pv 1) pe_int) pa_nil))) (pa_cons (pe_call G_Lrow (hr.mono (by first | decide | omega)) rfl T.mg_Lrow T.F_Lrow.kp T.b_Lrow .nil pass0 (pa_cons (pe_slice (sl_listK K rfl) (pv 0) (po_some pe_int) po_none) (pa_cons (pe_op op_sub (pv 2) pe_int) pa_nil))) pa_nil))))) fun _ _ => ?_
    have I0 : atI (zs.map V.int) 0 = _ := atI_ints (by decide) (by omega)
    have I1 : atI (zs.map V.int) 1 = _ := atI_ints (by decide) (by omega)
    have I2 : atI (zs.map V.int) 2 = _ := atI_ints (by decide) (by omega)
    have I3 : atI (zs.map V.int) 3 = _ := atI_ints (by decide) (by omega)
    generalize zs.getD (0 : Int).toNat 0 = z0 at I0
    generalize zs.getD (1 : Int).toNat 0 = z1 at I1
    generalize zs.getD (2 : Int).toNat 0 = z2 at I2
    generalize zs.getD (3 : Int).toNat 0 = z3 at I3
    have m0 : 0 ≤ z0 % 5 := by omega
    have m5 : z0 % 5 < 5 := by omega
    walk_at "rd"
    refine rd_ixL (SqL.of ha) I1 ?_
    walk_at "rd"
    refine ⟨by show 5 ≤ sizeLine; decide, fun l1 n1 => ?_⟩
    have s1 := Same.new (o := HO.lst (([5, 9, 16, 40, 5] : List Int).map V.int)) n1
    walk_at "rd"
    refine rd_ixL (SqL.of (s1 _ _ ha)) I0 ?_
    walk_at "rd"
    refine rd_I (by decide) ?_
    walk_at "rd"
    refine rd_ixL (SqL.of (xs := ([5, 9, 16, 40, 5] : List Int).map V.int) upd_same) (atI_ints m0 m5) ?_
    walk_at "rd"
    refine rd_I (pick_a z0).1 ?_
    walk_at "rd"
    refine rd_ixL (SqL.of (s1 _ _ ha)) I2 ?_
    walk_at "rd"
    refine ⟨by show 5 ≤ sizeLine; decide, fun l2 n2 => ?_⟩
    have s2 := Same.new (o := HO.lst (([5, 9, 12, 5, 40] : List Int).map V.int)) n2
    walk_at "rd"
    refine rd_ixL (SqL.of (s2 _ _ (s1 _ _ ha))) I0 ?_
    walk_at "rd"
    refine rd_I (by decide) ?_
    walk_at "rd"
    refine rd_ixL (SqL.of (xs := ([5, 9, 12, 5, 40] : List Int).map V.int) upd_same) (atI_ints m0 m5) ?_
    walk_at "rd"
    refine rd_I (pick_b z0).1 ?_
    walk_at "rd"
    have ha2 := s2 _ _ (s1 _ _ ha)
    refine rd_ixL (SqL.of ha2) I3 ?_
    walk_at "rd"
    refine rd_I (by decide) ?_
    walk_at "rd"
    have va := pick_a z0
    have vb := pick_b z0
    generalize ([5, 9, 16, 40, 5] : List Int).getD (z0 % 5).toNat 0 = va' at va ⊢
    generalize ([5, 9, 12, 5, 40] : List Int).getD (z0 % 5).toNat 0 = vb' at vb ⊢
    have wa0 := Int.emod_nonneg z1 (by omega : va' ≠ 0)
    have wa1 := Int.emod_lt_of_pos z1 va.1
    have wb0 := Int.emod_nonneg z2 (by omega : vb' ≠ 0)
    have wb1 := Int.emod_lt_of_pos z2 vb.1
    refine rd_slL ha2 fun l3 n3 => ?_
    have s3 := Same.new (o := HO.lst (cutV (zs.map V.int) (some 4) none)) n3
    walk_at "rd"
    refine ⟨l3, (z1 % va').toNat, zs.drop 4, (by show [V.ref l3, V.int (1 + z1 % va' - 1)] = _; rw [show (1 + z1 % va' - 1 : Int) = (((z1 % va').toNat : Nat) : Int) by omega]), by rw [upd_same]; exact congrArg (fun x => some (HO.lst x)) (cutV_drop (k := 4)), by rw [List.length_drop]; omega, by omega, fun c cs H1 s4 _ ec lc bc => ?_⟩
    walk_at "rd"
    have ha4 := s4 _ _ (s3 _ _ ha2)
    refine rd_slL ha4 fun l5 n5 => ?_
    have s5 := Same.new (o := HO.lst (cutV (zs.map V.int) (some 8) none)) n5
    walk_at "rd"
    refine ⟨l5, (z2 % vb').toNat, zs.drop 8, (by show [V.ref l5, V.int (1 + z2 % vb' - 1)] = _; rw [show (1 + z2 % vb' - 1 : Int) = (((z2 % vb').toNat : Nat) : Int) by omega]), by rw [upd_same]; exact congrArg (fun x => some (HO.lst x)) (cutV_drop (k := 8)), by rw [List.length_drop]; omega, by omega, fun r rs H2 s6 _ er lr br => ?_⟩
    walk_at "rd"
    refine ⟨by show 3 ≤ sizeLine; decide, fun p hp => ?_⟩
    have s7 := Same.new (o := HO.tup [V.int (z3 % 2), V.ref c, V.ref r]) hp
    exact k p (z3 % 2) cs rs _ (s1.trans (s2.trans (s3.trans (s4.trans (s5.trans (s6.trans s7)))))) ⟨⟨c, r, upd_same, s7 _ _ (s6 _ _ (s5 _ _ ec)), s7 _ _ er⟩, mod2 z3, ⟨by omega, bc⟩, ⟨by omega, br⟩⟩
end


section
variable {P : Program} {w : World} {K : PySem.W.Frag} {mg : Str → Option Value} {base : Heap} {t : Ad}
/-! the law's plan: lines and cells -/
def bitsOf (col : Bool) (cs rs : List Int) : List Int := if col = true then cs else rs
def sp_Lsewn : Sp := fun vs H Q _ => ∃ (q : Addr) (col : Bool) (k st s : Int) (cs rs : List Int), vs = [.ref q, .str (wyS col), .int k, .int st] ∧ PlanAt true H q s cs rs ∧ 0 ≤ k ∧ k < (bitsOf col cs rs).length ∧ Q (.bl (decide ((st + (bitsOf col cs rs).getD k.toNat 0) % 2 = 1))) H
theorem wy_row (col : Bool) : decide (wyS col = "row") = !col := by cases col <;> decide +kernel
theorem ok_Lsewn (T : Txt K mg t) : FnOk P w K mg base CX0 1 t.f_Lsewn t.d_Lsewn ["_law_plan", "_law_way", "_law_k", "_law_step"] sp_Lsewn := by
  refine T.F_Lsewn.ok sc_Lsewn (fun vs H Q E h => ?_) (fun cdv A outer s H vs Q E hr h => ?_)
  · obtain ⟨q, col, k, st, s, cs, rs, rfl, _⟩ := h; rfl
  · obtain ⟨q, col, k, st, s, cs, rs, rfl, pl, h0, h1, z⟩ := h
    obtain ⟨⟨c, r, hq, hc, hr'⟩, sh, bc, br⟩ := id pl
    refine cutC (ps_set (i := 4) sc_Lsewn.nd rfl (Or.inl rfl) (pe_ix (ix_tupK K rfl) (pv 0) pe_int (fun _ _ => rfl))) fun _ _ => cutC (ps_if (pt_cmpR op_eq (pv 1) pe_str (nomark _)) (pss_one (ps_set (i := 4) sc_Lsewn.nd rfl (Or.inl rfl) (pe_ix (ix_tupK K rfl) (pv 0) pe_int (fun _ _ => rfl)))) pss_nil) fun _ _ => cutE (ps_ret (pe_cmpR op_eq (pe_op op_mod (pe_op op_add (pv 3) (pe_ix (ix_listK K rfl) (pv 4) (pv 2) (fun _ _ => rfl))) pe_int) pe_int (nomark _))) fun _ _ => ?_
    walk_at "rdf"
    refine rd_ixT (SqT.of hq) (v := .ref c) rfl ?_
    walk_at "rdf"
    rw [wy_row]
    cases col with
    | true =>
      walk_at "rdf"
      refine rd_ixL (SqL.of hc) (atI_ints h0 h1) ?_
      walk_at "rdf"
      refine rd_I (by decide) ?_
      walk_at "rdf"
      exact z
    | false =>
      walk_at "rdf"
      refine rd_ixT (SqT.of hq) (v := .ref r) rfl ?_
      walk_at "rdf"
      refine rd_ixL (SqL.of hr') (atI_ints h0 h1) ?_
      walk_at "rdf"
      refine rd_I (by decide) ?_
      walk_at "rdf"
      exact z
def valC (s : Int) (cs rs : List Int) (x y : Int) : Int := (s + (cs.take x.toNat).sum + ((rs.take y.toNat).sum + x * y)) % 2
def sp_Lvalue : Sp := fun vs H Q _ => ∃ (q : Addr) (x y s : Int) (cs rs : List Int), vs = [.ref q, .int x, .int y] ∧ PlanAt true H q s cs rs ∧ 0 ≤ x ∧ x ≤ 40 ∧ 0 ≤ y ∧ ∀ H', Same H H' → Q (.int (valC s cs rs x y)) H'
theorem ok_Lvalue (T : Txt K mg t) : FnOk P w K mg base CX0 1 t.f_Lvalue t.d_Lvalue ["_law_plan", "_law_x", "_law_y"] sp_Lvalue := by
  refine T.F_Lvalue.ok sc_Lvalue (fun vs H Q E h => ?_) (fun cdv A outer s H vs Q E hr h => ?_)
  · obtain ⟨q, x, y, s, cs, rs, rfl, _⟩ := h; rfl
  · obtain ⟨q, x, y, s, cs, rs, rfl, pl, x0, x1, y0, z⟩ := h
    obtain ⟨⟨c, r, hq, hc, hr'⟩, sh, bc, br⟩ := id pl
    have bs1 := bits_small (l := cs.take x.toNat) (fun z hz => bc.2 z (List.mem_of_mem_take hz)) (by rw [List.length_take]; have := bc.1; omega)
    have bs2 := bits_small (l := rs.take y.toNat) (fun z hz => br.2 z (List.mem_of_mem_take hz)) (by rw [List.length_take]; have := br.1; omega)
    refine cutC (ps_set (i := 3) sc_Lvalue.nd rfl (Or.inl rfl) (pe_op op_add (pe_ix (ix_tupK K rfl) (pv 0) pe_int (fun _ _ => rfl)) (pe_callB (cI_sumK K rfl rfl) rfl T.no_sum (by rfl) (pa_cons (pe_slice (sl_listK K rfl) (pe_ix (ix_tupK K rfl) (pv 0) pe_int (fun _ _ => rfl)) po_none (po_some (pv 1))) pa_nil)))) fun _ _ => cutC (ps_aug (i := 3) sc_Lvalue.nd rfl (Or.inl rfl) (pe_op op_add (pe_callB (cI_sumK K rfl rfl) rfl T.no_sum (by rfl) (pa_cons (pe_slice (sl_listK K rfl) (pe_ix (ix_tupK K rfl) (pv 0) pe_int (fun _ _ => rfl)) po_none (po_some (pv 2))) pa_nil)) (pe_op op_mul (pv 1) (pv 2))) ip_add) fun _ _ => cutE (ps_ret (pe_op op_mod (pv 3) pe_int)) fun _ _ => ?_
    walk_at "rdf"
    refine rd_ixT (SqT.of hq) (v := .int s) rfl ?_
    walk_at "rdf"
    refine rd_ixT (SqT.of hq) (v := .ref c) rfl ?_
    walk_at "rdf"
    refine rd_slL hc fun l1 n1 => ?_
    rw [cutV_take x0]
    have s1 := Same.new (o := HO.lst ((cs.take x.toNat).map V.int)) n1
    have e1 := upd_same (H := H) (a := l1) (o := HO.lst ((cs.take x.toNat).map V.int))
    generalize upd H l1 (HO.lst ((cs.take x.toNat).map V.int)) = H1 at s1 e1 ⊢
    walk_at "rdf"
    refine rd_sumL e1 bs1 ?_
    walk_at "rdf"
    refine rd_ixT (SqT.of (s1 _ _ hq)) (v := .ref r) rfl ?_
    walk_at "rdf"
    refine rd_slL (s1 _ _ hr') fun l2 n2 => ?_
    rw [cutV_take y0]
    have s2 := Same.new (o := HO.lst ((rs.take y.toNat).map V.int)) n2
    have e2 := upd_same (H := H1) (a := l2) (o := HO.lst ((rs.take y.toNat).map V.int))
    generalize upd H1 l2 (HO.lst ((rs.take y.toNat).map V.int)) = H2 at s2 e2 ⊢
    walk_at "rdf"
    refine rd_sumL e2 bs2 ?_
    walk_at "rdf"
    refine rd_I (.inl ⟨by omega, by omega⟩) ?_
    walk_at "rdf"
    refine rd_I (by decide) ?_
    walk_at "rdf"
    exact z H2 (s1.trans s2)
/-! what the strips stand for -/
def vP (s : Int) (cs rs : List Int) : List Key → Int
  | [.inr c, .inl i] => if c = "x" then s + (cs.take i.toNat).sum else (rs.take i.toNat).sum
  | _ => 0
theorem vP_x {s : Int} {cs rs : List Int} {i : Int} : vP s cs rs (sx i) = s + (cs.take i.toNat).sum := by show (if ("x" : Str) = "x" then s + (cs.take i.toNat).sum else (rs.take i.toNat).sum) = _; rw [if_pos rfl]
theorem vP_y {s : Int} {cs rs : List Int} {i : Int} : vP s cs rs (sy i) = (rs.take i.toNat).sum := by show (if ("y" : Str) = "x" then s + (cs.take i.toNat).sum else (rs.take i.toNat).sum) = _; rw [if_neg (by decide +kernel)]
def Tr (v : List Key → Int) (f : Fct) : Prop := f.tie.2.2 = (v f.tie.1 + v f.tie.2.1) % 2
theorem sum_take1 {l : List Int} {k : Nat} (h : k < l.length) : (l.take (k + 1)).sum = (l.take k).sum + l.getD k 0 := by
  rw [List.take_add_one, List.getElem?_eq_getElem h, List.sum_append, List.getD_eq_getElem?_getD, List.getElem?_eq_getElem h]
  simp
theorem tr_cell {s : Int} {cs rs : List Int} {x y : Int} : Tr (vP s cs rs) (.cell x y (valC s cs rs x y)) := by
  show (valC s cs rs x y + x * y) % 2 = (vP s cs rs (sx x) + vP s cs rs (sy y)) % 2
  rw [vP_x, vP_y]
  unfold valC
  generalize x * y = m
  omega
theorem tr_line {s : Int} {cs rs : List Int} (bc : Bits cs) (br : Bits rs) {col : Bool} {k st : Int} (h0 : 0 ≤ k) (h1 : k < (bitsOf col cs rs).length) : Tr (vP s cs rs) (.line col k st (decide ((st + (bitsOf col cs rs).getD k.toNat 0) % 2 = 1))) := by
  have bit : (bitsOf col cs rs).getD k.toNat 0 = 0 ∨ (bitsOf col cs rs).getD k.toNat 0 = 1 := by
    have hm := L2.getD_mem (zs := bitsOf col cs rs) (k := k.toNat) (d := 0) (by omega)
    cases col with
    | true => exact bc.2 _ hm
    | false => exact br.2 _ hm
  have hs : (vP s cs rs (stS col k) + vP s cs rs (stS col (k + 1))) % 2 = (bitsOf col cs rs).getD k.toNat 0 := by
    have e1 : (k + 1).toNat = k.toNat + 1 := by omega
    cases col with
    | true =>
      show (vP s cs rs (sx k) + vP s cs rs (sx (k + 1))) % 2 = _
      rw [vP_x, vP_x, e1, sum_take1 (show k.toNat < cs.length by have : (bitsOf true cs rs).length = cs.length := rfl; omega)]
      show _ = cs.getD k.toNat 0
      have : cs.getD k.toNat 0 = 0 ∨ cs.getD k.toNat 0 = 1 := bit
      omega
    | false =>
      show (vP s cs rs (sy k) + vP s cs rs (sy (k + 1))) % 2 = _
      rw [vP_y, vP_y, e1, sum_take1 (show k.toNat < rs.length by have : (bitsOf false cs rs).length = rs.length := rfl; omega)]
      show _ = rs.getD k.toNat 0
      have : rs.getD k.toNat 0 = 0 ∨ rs.getD k.toNat 0 = 1 := bit
      omega
  show (if decide ((st + (bitsOf col cs rs).getD k.toNat 0) % 2 = 1) = true then (st + 1) % 2 else st % 2) = (vP s cs rs (stS col k) + vP s cs rs (stS col (k + 1))) % 2
  rw [hs]
  generalize (bitsOf col cs rs).getD k.toNat 0 = b at bit
  by_cases c : (st + b) % 2 = 1
  · rw [if_pos (decide_eq_true c)]; omega
  · rw [if_neg (by rw [decide_eq_false c]; decide)]; omega
def sp_Lfact : Sp := fun vs H Q _ => ∃ (q : Addr) (i j l s : Int) (cs rs : List Int), vs = [.ref q, .int i, .int j, .int l] ∧ PlanAt true H q s cs rs ∧ ∀ a f H', Same H H' → H' a = some (.tup f.vs) → f.inW ((cs.length : Nat) + 1 : Nat) ((rs.length : Nat) + 1 : Nat) → Tr (vP s cs rs) f → Q (.ref a) H'
theorem valC_bit {s : Int} {cs rs : List Int} {x y : Int} : valC s cs rs x y = 0 ∨ valC s cs rs x y = 1 := by unfold valC; omega
theorem ok_Lfact (T : Txt K mg t) : FnOk P w K mg base CX0 2 t.f_Lfact t.d_Lfact ["_law_plan", "_law_one", "_law_two", "_law_three"] sp_Lfact := by
  have G_Lsewn := ok_Lsewn (P := P) (w := w) (base := base) T
  have G_Lvalue := ok_Lvalue (P := P) (w := w) (base := base) T
  refine T.F_Lfact.ok sc_Lfact (fun vs H Q E h => ?_) (fun cdv A outer s H vs Q E hr h => ?_)
  · obtain ⟨q, i, j, l, s, cs, rs, rfl, _⟩ := h; rfl
  · obtain ⟨q, i, j, l, s, cs, rs, rfl, pl, z⟩ := h
    obtain ⟨⟨c, r, hq, hc, hr'⟩, sh, bc, br⟩ := id pl
    have lc := bc.1
    have lr := br.1
    refine cutC (ps_set (i := 4) sc_Lfact.nd rfl (Or.inl rfl) (pe_op op_add (pe_callB (cI_lenK K rfl) rfl T.no_len (by rfl) (pa_cons (pe_ix (ix_tupK K rfl) (pv 0) pe_int (fun _ _ => rfl)) pa_nil)) pe_int)) fun _ _ => cutC (ps_set (i := 5) sc_Lfact.nd rfl (Or.inl rfl) (pe_op op_add (pe_callB (cI_lenK K rfl) rfl T.no_len (by rfl) (pa_cons (pe_ix (ix_tupK K rfl) (pv 0) pe_int (fun _ _ => rfl)) pa_nil)) pe_int)) fun _ _ => cutC (ps_join (ps_if (PW.pt (pw_and (pt_cmpR op_eq (pe_op op_mod (pv 1) pe_int) pe_int (nomark _)) (pw_and1 (pt_cmpR op_gt (pv 4) pe_int (nomark _))))) (pss_cons (ps_par (i := 6) (j := 7) rfl sc_Lfact.nd rfl rfl (by decide) rfl rfl (pa_cons (pe_op op_mod (pv 2) (pe_op op_sub (pv 4) pe_int)) (pa_cons (pe_op op_mod (pv 3) (pv 5)) pa_nil)) (by rfl)) (pss_one (ps_ret (pe_tup (pa_cons pe_str (pa_cons (pv 6) (pa_cons (pv 7) (pa_cons (pe_call G_Lsewn (hr.mono (by first | decide | omega)) rfl T.mg_Lsewn T.F_Lsewn.kp T.b_Lsewn .nil pass0 (pa_cons (pv 0) (pa_cons pe_str (pa_cons (pv 6) (pa_cons (pv 7) pa_nil))))) pa_nil)))))))) pss_nil)) fun _ _ => cutC (ps_join (ps_if (PW.pt (pw_and (pt_cmpR op_eq (pe_op op_mod (pv 1) pe_int) pe_int (nomark _)) (pw_and1 (pt_cmpR op_gt (pv 5) pe_int (nomark _))))) (pss_cons (ps_par (i := 6) (j := 7) rfl sc_Lfact.nd rfl rfl (by decide) rfl rfl (pa_cons (pe_op op_mod (pv 2) (pe_op op_sub (pv 5) pe_int)) (pa_cons (pe_op op_mod (pv 3) (pv 4)) pa_nil)) (by rfl)) (pss_one (ps_ret (pe_tup (pa_cons pe_str (pa_cons (pv 6) (pa_cons (pv 7) (pa_cons (pe_call G_Lsewn (hr.mono (by first | decide | omega)) rfl T.mg_Lsewn T.F_Lsewn.kp T.b_Lsewn .nil pass0 (pa_cons (pv 0) (pa_cons pe_str (pa_cons (pv 6) (pa_cons (pv 7) pa_nil))))) pa_nil)))))))) pss_nil)) fun _ _ => cutC (ps_par (i := 8) (j := 9) rfl sc_Lfact.nd rfl rfl (by decide) rfl rfl (pa_cons (pe_op op_mod (pv 2) (pv 4)) (pa_cons (pe_op op_mod (pv 3) (pv 5)) pa_nil)) (by rfl)) fun _ _ => cutE (ps_ret (pe_tup (pa_cons pe_str (pa_cons (pv 8) (pa_cons (pv 9) (pa_cons (pe_call G_Lvalue (hr.mono (by first | decide | omega)) rfl T.mg_Lvalue T.F_Lvalue.kp T.b_Lvalue .nil pass0 (pa_cons (pv 0) (pa_cons (pv 8) (pa_cons (pv 9) pa_nil)))) pa_nil)))))) fun _ _ => ?_
    walk_at "rdf"
    refine rd_ixT (SqT.of hq) (v := .ref c) rfl ?_
    walk_at "rdf"
    refine rd_lenL hc ?_
    rw [List.length_map]
    walk_at "rdf"
    refine rd_ixT (SqT.of hq) (v := .ref r) rfl ?_
    walk_at "rdf"
    refine rd_lenL hr' ?_
    rw [List.length_map]
    walk_at "rdf"
    have ec : ((cs.length : Nat) : Int) + 1 = (((cs.length + 1 : Nat)) : Int) := by omega
    have er : ((rs.length : Nat) : Int) + 1 = (((rs.length + 1 : Nat)) : Int) := by omega
    refine rd_join (fun σ' H' => σ' = [some (.ref q), some (.int i), some (.int j), some (.int l), some (.int ((cs.length : Nat) + 1)), some (.int ((rs.length : Nat) + 1)), none, none, none, none] ∧ H = H') ?_ ?_
    · walk_at "rdf"
      refine rd_I (by decide) ?_
      walk_at "rdf"
      refine ite2 (fun _ => ?_) (fun _ => ?_)
      · walk_at "rdf"
        refine ite2 (fun c1 => ?_) (fun _ => ?_)
        · have c1 := of_decide_eq_true c1
          walk_at "rdf"
          refine rd_I (show (0 : Int) < (cs.length : Nat) + 1 - 1 by omega) ?_
          walk_at "rdf"
          refine rd_I (show (0 : Int) < (rs.length : Nat) + 1 by omega) ?_
          refine ⟨_, _, rfl, ?_⟩
          have k0 := Int.emod_nonneg j (show ((cs.length : Nat) + 1 - 1 : Int) ≠ 0 by omega)
          have k1 := Int.emod_lt_of_pos j (show (0 : Int) < (cs.length : Nat) + 1 - 1 by omega)
          have t0 := Int.emod_nonneg l (show ((rs.length : Nat) + 1 : Int) ≠ 0 by omega)
          have t1 := Int.emod_lt_of_pos l (show (0 : Int) < (rs.length : Nat) + 1 by omega)
          generalize j % ((cs.length : Nat) + 1 - 1 : Int) = kk at k0 k1 ⊢
          generalize l % ((rs.length : Nat) + 1 : Int) = st at t0 t1 ⊢
          have kl : kk < (bitsOf true cs rs).length := by show kk < cs.length; omega
          walk_at "rdf"
          refine ⟨q, true, kk, st, s, cs, rs, rfl, pl, k0, kl, ?_⟩
          walk_at "rdf"
          refine ⟨by show 4 ≤ sizeLine; decide, fun a na => ?_⟩
          have sa := Same.new (o := HO.tup [V.str (Str.ofString "col"), V.int kk, V.int st, V.bl (decide ((st + (bitsOf true cs rs).getD kk.toNat 0) % 2 = 1))]) na
          have ea := upd_same (H := H) (a := a) (o := HO.tup [V.str (Str.ofString "col"), V.int kk, V.int st, V.bl (decide ((st + (bitsOf true cs rs).getD kk.toNat 0) % 2 = 1))])
          generalize upd H a (HO.tup [V.str (Str.ofString "col"), V.int kk, V.int st, V.bl (decide ((st + (bitsOf true cs rs).getD kk.toNat 0) % 2 = 1))]) = H1 at sa ea ⊢
          walk_at "rdf"
          exact z a (.line true kk st _) H1 sa ea ⟨⟨k0, by omega⟩, t0, by omega⟩ (tr_line bc br k0 kl)
        · walk_at "rdf"
          exact ⟨rfl, rfl⟩
      · walk_at "rdf"
        exact ⟨rfl, rfl⟩
    · rintro σ' H' ⟨rfl, rfl⟩
      walk_at "rdf"
      refine rd_join (fun σ' H' => σ' = [some (.ref q), some (.int i), some (.int j), some (.int l), some (.int ((cs.length : Nat) + 1)), some (.int ((rs.length : Nat) + 1)), none, none, none, none] ∧ H = H') ?_ ?_
      · walk_at "rdf"
        refine rd_I (by decide) ?_
        walk_at "rdf"
        refine ite2 (fun _ => ?_) (fun _ => ?_)
        · walk_at "rdf"
          refine ite2 (fun c1 => ?_) (fun _ => ?_)
          · have c1 := of_decide_eq_true c1
            walk_at "rdf"
            refine rd_I (show (0 : Int) < (rs.length : Nat) + 1 - 1 by omega) ?_
            walk_at "rdf"
            refine rd_I (show (0 : Int) < (cs.length : Nat) + 1 by omega) ?_
            refine ⟨_, _, rfl, ?_⟩
            have k0 := Int.emod_nonneg j (show ((rs.length : Nat) + 1 - 1 : Int) ≠ 0 by omega)
            have k1 := Int.emod_lt_of_pos j (show (0 : Int) < (rs.length : Nat) + 1 - 1 by omega)
            have t0 := Int.emod_nonneg l (show ((cs.length : Nat) + 1 : Int) ≠ 0 by omega)
            have t1 := Int.emod_lt_of_pos l (show (0 : Int) < (cs.length : Nat) + 1 by omega)
            generalize j % ((rs.length : Nat) + 1 - 1 : Int) = kk at k0 k1 ⊢
            generalize l % ((cs.length : Nat) + 1 : Int) = st at t0 t1 ⊢
            have kl : kk < (bitsOf false cs rs).length := by show kk < rs.length; omega
            walk_at "rdf"
            refine ⟨q, false, kk, st, s, cs, rs, rfl, pl, k0, kl, ?_⟩
            walk_at "rdf"
            refine ⟨by show 4 ≤ sizeLine; decide, fun a na => ?_⟩
            have sa := Same.new (o := HO.tup [V.str (Str.ofString "row"), V.int kk, V.int st, V.bl (decide ((st + (bitsOf false cs rs).getD kk.toNat 0) % 2 = 1))]) na
            have ea := upd_same (H := H) (a := a) (o := HO.tup [V.str (Str.ofString "row"), V.int kk, V.int st, V.bl (decide ((st + (bitsOf false cs rs).getD kk.toNat 0) % 2 = 1))])
            generalize upd H a (HO.tup [V.str (Str.ofString "row"), V.int kk, V.int st, V.bl (decide ((st + (bitsOf false cs rs).getD kk.toNat 0) % 2 = 1))]) = H1 at sa ea ⊢
            walk_at "rdf"
            exact z a (.line false kk st _) H1 sa ea ⟨⟨k0, by omega⟩, t0, by omega⟩ (tr_line bc br k0 kl)
          · walk_at "rdf"
            exact ⟨rfl, rfl⟩
        · walk_at "rdf"
          exact ⟨rfl, rfl⟩
      · rintro σ' H' ⟨rfl, rfl⟩
        walk_at "rdf"
        refine rd_I (show (0 : Int) < (cs.length : Nat) + 1 by omega) ?_
        walk_at "rdf"
        refine rd_I (show (0 : Int) < (rs.length : Nat) + 1 by omega) ?_
        refine ⟨_, _, rfl, ?_⟩
        have k0 := Int.emod_nonneg j (show ((cs.length : Nat) + 1 : Int) ≠ 0 by omega)
        have k1 := Int.emod_lt_of_pos j (show (0 : Int) < (cs.length : Nat) + 1 by omega)
        have t0 := Int.emod_nonneg l (show ((rs.length : Nat) + 1 : Int) ≠ 0 by omega)
        have t1 := Int.emod_lt_of_pos l (show (0 : Int) < (rs.length : Nat) + 1 by omega)
        generalize j % ((cs.length : Nat) + 1 : Int) = x at k0 k1 ⊢
        generalize l % ((rs.length : Nat) + 1 : Int) = y at t0 t1 ⊢
        walk_at "rdf"
        refine ⟨q, x, y, s, cs, rs, rfl, pl, k0, by omega, t0, fun H2 s2 => ?_⟩
        walk_at "rdf"
        refine ⟨by show 4 ≤ sizeLine; decide, fun a na => ?_⟩
        have sa := Same.new (o := HO.tup [V.str (Str.ofString "cell"), V.int x, V.int y, V.int (valC s cs rs x y)]) na
        have ea := upd_same (H := H2) (a := a) (o := HO.tup [V.str (Str.ofString "cell"), V.int x, V.int y, V.int (valC s cs rs x y)])
        generalize upd H2 a (HO.tup [V.str (Str.ofString "cell"), V.int x, V.int y, V.int (valC s cs rs x y)]) = H3 at sa ea ⊢
        walk_at "rdf"
        exact z a (.cell x y (valC s cs rs x y)) H3 (s2.trans sa) ea ⟨⟨k0, by omega⟩, ⟨t0, by omega⟩, valC_bit⟩ tr_cell
end


section
variable {P : Program} {w : World} {K : PySem.W.Frag} {mg : Str → Option Value} {base : Heap} {t : Ad}
/-! finds with true facts -/
def tiesOf (F : List (Int × Fct)) : List Fm.Tie := F.map fun nf => nf.2.tie
structure FOk (v : List Key → Int) (wd ht : Nat) (F : List (Int × Fct)) (n : Int) (G : List Key → List Key × Int) : Prop where
  inw : ∀ nf ∈ F, nf.2.inW wd ht
  tr : ∀ nf ∈ F, Tr v nf.2
  lt : ∀ nf ∈ F, nf.1 < n
  nd : (F.map (·.1)).Nodup
  gr : Fm.GrOk (stripsD wd ht) (tiesOf F) v G
theorem FOk.nil {v : List Key → Int} {wd ht : Nat} : FOk v wd ht [] 0 Fm.lone := ⟨(fun _ h => nomatch h), (fun _ h => nomatch h), (fun _ h => nomatch h), List.nodup_nil, Fm.GrOk.lone⟩
theorem FOk.snoc {v : List Key → Int} {wd ht : Nat} {F : List (Int × Fct)} {n : Int} {G : List Key → List Key × Int} (h : FOk v wd ht F n G) {f : Fct} (hi : f.inW wd ht) (ht' : Tr v f) : FOk v wd ht (F ++ [(n, f)]) (n + 1) (Fm.tieG G f.tie) := by
  have sp : ∀ nf ∈ F ++ [(n, f)], nf ∈ F ∨ nf = (n, f) := fun nf hm => by
    rcases List.mem_append.mp hm with z | z
    · exact .inl z
    · exact .inr (List.mem_singleton.mp z)
  refine ⟨fun nf hm => ?_, fun nf hm => ?_, fun nf hm => ?_, ?_, ?_⟩
  · rcases sp nf hm with z | rfl
    · exact h.inw nf z
    · exact hi
  · rcases sp nf hm with z | rfl
    · exact h.tr nf z
    · exact ht'
  · rcases sp nf hm with z | rfl
    · have := h.lt nf z; omega
    · show n < n + 1; omega
  · rw [List.map_append, List.nodup_append]
    refine ⟨h.nd, by simp, fun a ha b hb e => ?_⟩
    obtain ⟨nf, hm, rfl⟩ := List.mem_map.mp ha
    have := h.lt nf hm
    simp only [List.map_cons, List.map_nil, List.mem_singleton] at hb
    omega
  · unfold tiesOf
    rw [List.map_append]
    exact h.gr.tie (Fct.inD hi).1 (Fct.inD hi).2 ht'
theorem FOk.out {v : List Key → Int} {wd ht : Nat} {F : List (Int × Fct)} {n : Int} {G : List Key → List Key × Int} (h : FOk v wd ht F n G) (j : Int) : FOk v wd ht (outF F j) n (grpF (outF F j)) := by
  have sub : ∀ nf ∈ outF F j, nf ∈ F := fun nf hm => (List.mem_filter.mp hm).1
  have ei : (outF F j |>.map (·.2)).map Fct.tie = tiesOf (outF F j) := by rw [List.map_map]; rfl
  refine ⟨fun nf hm => h.inw nf (sub nf hm), fun nf hm => h.tr nf (sub nf hm), fun nf hm => h.lt nf (sub nf hm), ?_, ?_⟩
  · exact h.nd.sublist (List.Sublist.map _ List.filter_sublist)
  · unfold grpF
    rw [ei]
    refine Fm.GrOk.of (fun e he => ?_) fun e he => ?_
    · obtain ⟨nf, hm, rfl⟩ := List.mem_map.mp he
      exact Fct.inD (h.inw nf (sub nf hm))
    · obtain ⟨nf, hm, rfl⟩ := List.mem_map.mp he
      exact h.tr nf (sub nf hm)
theorem FOk.cl {v : List Key → Int} {wd ht : Nat} {F : List (Int × Fct)} {n : Int} {G : List Key → List Key × Int} (h : FOk v wd ht F n G) {f : Fct} (hi : f.inW wd ht) (ht' : Tr v f) : wtB G f.tie.1 f.tie.2.1 = .non ∨ wtB G f.tie.1 f.tie.2.1 = .int f.tie.2.2 := by
  obtain ⟨d1, d2⟩ := Fct.inD hi
  unfold wtB
  by_cases c : (G f.tie.1).1 = (G f.tie.2.1).1
  · rw [if_pos c, h.gr.wt _ d1 _ d2 ((h.gr.lead _ d1 _ d2).mp c), ← ht']; exact .inr rfl
  · rw [if_neg c]; exact .inl rfl
def sp_Findsnote (C : Addr) : Sp := fun vs H Q _ => ∃ (p a df dg : Addr) (wd ht : Nat) (F : List (Int × Fct)) (n : Int) (G : List Key → List Key × Int) (f : Fct) (v : List Key → Int), vs = [.ref p, .ref a] ∧ FdAt C H p df dg wd ht F n G ∧ FOk v wd ht F n G ∧ wd ≤ 40 ∧ ht ≤ 40 ∧ F.length ≤ 900 ∧
  H a = some (.tup f.vs) ∧ f.inW wd ht ∧ Tr v f ∧ f ∉ F.map (·.2) ∧ ∀ H', ButL [p, df, dg] H H' → FdAt C H' p df dg wd ht (F ++ [(n, f)]) (n + 1) (Fm.tieG G f.tie) → FOk v wd ht (F ++ [(n, f)]) (n + 1) (Fm.tieG G f.tie) → Q (.int n) H'
theorem ok_Findsnote (T : Txt K mg t) : FnOk P w K mg base CX0 6 t.f_Findsnote t.d_Findsnote ["self", "fact"] (sp_Findsnote t.a_Finds) :=
  (okx_Findsnote T).down fun vs H Q E hh => by
    obtain ⟨p, a, df, dg, wd, ht, F, n, G, f, v, e, fd, fo, lw, lh, lF, ha, hi, htr, hm, k⟩ := hh
    refine ⟨p, a, df, dg, wd, ht, F, n, G, f, e, fd, lw, lh, lF, fo.lt, ha, fun X hX => ?_, fun _ z => absurd z hm, fun _ _ => ⟨fo.cl hi htr, fun H' m f' => k H' m f' (fo.snoc hi htr)⟩⟩
    rw [Fct.no_iff.mpr hi] at hX; cases hX
/-- neither lists nor tuples -/
def OutS (H : Hp) (S : List Addr) : Prop := ∀ b ∈ S, ∀ xs, H b ≠ some (.tup xs) ∧ H b ≠ some (.lst xs)
theorem OutS.noT {H : Hp} {S : List Addr} (h : OutS H S) : NoT H S := fun b hb xs => (h b hb xs).1
theorem but_lst {S : List Addr} {H H' : Hp} (m : ButL S H H') (o : OutS H S) {b : Addr} {xs : List V} (e : H b = some (.lst xs)) : H' b = some (.lst xs) := m b _ e fun z => (o b z xs).2 e
theorem FdAt.outS {C : Addr} {H : Hp} {p df dg : Addr} {wd ht : Nat} {F : List (Int × Fct)} {n : Int} {G : List Key → List Key × Int} (h : FdAt C H p df dg wd ht F n G) : OutS H [p, df, dg] := fun b hb xs => ⟨h.not b hb xs, fun e => h.lst e hb⟩
theorem PlanAt.but {S : List Addr} {H H' : Hp} {q : Addr} {s : Int} {cs rs : List Int} (h : PlanAt true H q s cs rs) (m : ButL S H H') (o : OutS H S) : PlanAt true H' q s cs rs := by
  obtain ⟨⟨a, b, h1, h2, h3⟩, x, y, z⟩ := h
  exact ⟨⟨a, b, but_tup m o.noT h1, but_lst m o h2, but_lst m o h3⟩, x, y, z⟩
/-- the law's rows: pairs of a number and a fact -/
def PwP (H : Hp) (xs : List V) (F : List (Int × Fct)) : Prop := xs.length = F.length ∧ ∀ (i : Nat) v nf, xs[i]? = some v → F[i]? = some nf → ∃ b a, v = .ref b ∧ H b = some (.tup [.int nf.1, .ref a]) ∧ H a = some (.tup nf.2.vs)
theorem PwP.but {S : List Addr} {H H' : Hp} {xs : List V} {F : List (Int × Fct)} (h : PwP H xs F) (m : ButL S H H') (n : NoT H S) : PwP H' xs F :=
  ⟨h.1, fun i v nf h1 h2 => let ⟨b, a, e, q, r⟩ := h.2 i v nf h1 h2; ⟨b, a, e, but_tup m n q, but_tup m n r⟩⟩
theorem PwP.mono {H H' : Hp} {xs : List V} {F : List (Int × Fct)} (h : PwP H xs F) (m : Same H H') : PwP H' xs F := h.but (m.butL []) (fun x hx => nomatch hx)
theorem PwP.snoc {H : Hp} {xs : List V} {F : List (Int × Fct)} {n : Int} {f : Fct} {b a : Addr} (h : PwP H xs F) (hb : H b = some (.tup [.int n, .ref a])) (ha : H a = some (.tup f.vs)) : PwP H (xs ++ [.ref b]) (F ++ [(n, f)]) := by
  refine ⟨by rw [List.length_append, List.length_append, h.1]; rfl, fun i v nf h1 h2 => ?_⟩
  by_cases hi : i < xs.length
  · rw [List.getElem?_append_left hi] at h1
    rw [List.getElem?_append_left (by rw [← h.1]; exact hi)] at h2
    exact h.2 i v nf h1 h2
  · rw [List.getElem?_append_right (by omega)] at h1
    rw [List.getElem?_append_right (by rw [← h.1]; omega), ← h.1] at h2
    cases hk : i - xs.length with
    | zero =>
      rw [hk] at h1 h2
      simp only [List.getElem?_cons_zero, Option.some.injEq] at h1 h2
      subst h1 h2
      exact ⟨b, a, rfl, hb, ha⟩
    | succ k' => rw [hk] at h1; simp at h1
/-- a pair's second item -/
def sndOf (H : Hp) : V → V
  | .ref b => match H b with
    | some (.tup [_, x]) => x
    | _ => .non
  | _ => .non
theorem PwP.snds {H : Hp} {xs : List V} {F : List (Int × Fct)} (h : PwP H xs F) : PwF H (xs.map (sndOf H)) (F.map (·.2)) := by
  refine ⟨by rw [List.length_map, List.length_map, h.1], fun i v f h1 h2 => ?_⟩
  rw [List.getElem?_map] at h1 h2
  obtain ⟨x, e1, rfl⟩ := Option.map_eq_some_iff.mp h1
  obtain ⟨nf, e2, rfl⟩ := Option.map_eq_some_iff.mp h2
  obtain ⟨b, a, rfl, hb, ha⟩ := h.2 i x nf e1 e2
  exact ⟨a, by simp only [sndOf, hb], ha⟩
theorem PwP.mem {H : Hp} {xs : List V} {F : List (Int × Fct)} (h : PwP H xs F) {x : V} (hx : x ∈ xs) : ∃ b a nf, x = .ref b ∧ nf ∈ F ∧ H b = some (.tup [.int nf.1, .ref a]) ∧ H a = some (.tup nf.2.vs) := by
  obtain ⟨i, hi⟩ := List.mem_iff_getElem?.mp hx
  have hl : i < F.length := by rw [← h.1]; exact (List.getElem?_eq_some_iff.mp hi).1
  obtain ⟨b, a, e, q, r⟩ := h.2 i x _ hi (List.getElem?_eq_getElem hl)
  exact ⟨b, a, _, e, List.getElem_mem hl, q, r⟩
def sp_Lfilled (C : Addr) : Sp := fun vs H Q _ => ∃ (p q ls df dg : Addr) (m : Nat) (zs : List Int) (s : Int) (cs rs : List Int), vs = [.ref p, .ref q, .ref ls, .int m] ∧ PlanAt true H q s cs rs ∧ FdAt C H p df dg (cs.length + 1) (rs.length + 1) [] 0 Fm.lone ∧
  H ls = some (.lst (zs.map V.int)) ∧ m ≤ 100 ∧ 3 * m ≤ zs.length ∧ ∀ l xs F n G H', ButL [p, df, dg] H H' → H l = none → H' l = some (.lst xs) → PwP H' xs F → FdAt C H' p df dg (cs.length + 1) (rs.length + 1) F n G → FOk (vP s cs rs) (cs.length + 1) (rs.length + 1) F n G → F.length ≤ m → n = (F.length : Int) → Q (.ref l) H'
theorem ok_Lfilled (T : Txt K mg t) : FnOk P w K mg base CX0 7 t.f_Lfilled t.d_Lfilled ["_law_finds", "_law_plan", "_law_some", "_law_many"] (sp_Lfilled t.a_Finds) := by
  have G_Lfact := ok_Lfact (P := P) (w := w) (base := base) T
  have G_Findsnote := ok_Findsnote (P := P) (w := w) (base := base) T
  refine T.F_Lfilled.ok sc_Lfilled (fun vs H Q E h => ?_) (fun cdv A outer s H vs Q E hr h => ?_)
  · obtain ⟨p, q, ls, df, dg, m, zs, s, cs, rs, rfl, _⟩ := h; rfl
  · obtain ⟨p, q, ls, df, dg, m, zs, s, cs, rs, rfl, pl, fd, hls, lm, lz, k⟩ := h
    have lc := pl.bc.1
    have lr := pl.br.1
    have os := fd.outS
    refine cutC (ps_set (i := 4) sc_Lfilled.nd rfl (Or.inl rfl) (pe_lst pa_nil)) fun _ _ => cutC (ps_for PassesOwn.never rfl (pi_range1 rfl T.no_range (pa_cons (pv 3) pa_nil)) (pg_name (i := 5) sc_Lfilled.nd rfl (Or.inl rfl)) (pss_cons (ps_set (i := 6) sc_Lfilled.nd rfl (Or.inl rfl) (pe_call G_Lfact (hr.mono (by first | decide | omega)) rfl T.mg_Lfact T.F_Lfact.kp T.b_Lfact .nil pass0 (pa_cons (pv 1) (pa_cons (pe_ix (ix_listK K rfl) (pv 2) (pe_op op_mul pe_int (pv 5)) (fun _ _ => rfl)) (pa_cons (pe_ix (ix_listK K rfl) (pv 2) (pe_op op_add (pe_op op_mul pe_int (pv 5)) pe_int) (fun _ _ => rfl)) (pa_cons (pe_ix (ix_listK K rfl) (pv 2) (pe_op op_add (pe_op op_mul pe_int (pv 5)) pe_int) (fun _ _ => rfl)) pa_nil)))))) (pss_one (ps_if (pt_cmpR (op_ninD hr.units) (pv 6) (pe_comp (N := ["_law_row_here"]) (cap := [none]) rfl ⟨rfl, rfl, rfl, rfl, rfl, rfl⟩ (pi_list (pv 4)) (fun _ _ _ => (pg_name (i := 0) (show (["_law_row_here"] : List Str).Nodup by decide +kernel) rfl (Or.inl rfl))) (fun _ _ _ => pts_nil) (fun _ _ _ => (pe_ix (ix_tupK K rfl) (pv 0) pe_int (fun _ _ => rfl)))) rfl) (pss_one (ps_expr (pe_bm PySem.F.plainAttrs_list PySem.F.slot_list_append PySem.F.type_list_append mt_append (pv 4) (pa_cons (pe_tup (pa_cons (pe_meth (pv 0) T.cl_Finds T.m_Findsnote G_Findsnote (hr.mono (by first | decide | omega)) T.b_Findsnote .nil pass0 (pa_cons (pv 6) pa_nil)) (pa_cons (pv 6) pa_nil))) pa_nil)))) pss_nil)))) fun _ _ => cutE (ps_ret (pv 4)) fun _ _ => ?_
    walk_at "rdf"
    refine ⟨Nat.zero_le _, fun l nl => ?_⟩
    have s0 := Same.new (o := HO.lst []) nl
    have e0 := upd_same (H := H) (a := l) (o := HO.lst [])
    generalize upd H l (HO.lst []) = H0 at s0 e0 ⊢
    walk_at "rdf"
    refine ⟨m, rfl, by omega, by omega, ?_⟩
    rw [Int.toNat_natCast]
    refine forW_range (fun i σ' H' => ∃ (o5 o6 : Option V) (xs : List V) (F : List (Int × Fct)) (n : Int) (G : List Key → List Key × Int), σ' = [some (.ref p), some (.ref q), some (.ref ls), some (.int m), some (.ref l), o5, o6] ∧ ButL [p, df, dg] H H' ∧ H' l = some (.lst xs) ∧ PwP H' xs F ∧
        FdAt t.a_Finds H' p df dg (cs.length + 1) (rs.length + 1) F n G ∧ FOk (vP s cs rs) (cs.length + 1) (rs.length + 1) F n G ∧ F.length ≤ i ∧ n = (F.length : Int))
      ⟨none, none, [], [], 0, Fm.lone, rfl, s0.butL _, e0, ⟨rfl, fun i v nf h1 => by simp at h1⟩, fd.mono s0, FOk.nil, Nat.le_refl _, rfl⟩ ?_ ?_
    · rintro i σ' H1 hi ⟨o5, o6, xs, F, n, G, rfl, m1, e1, pw, f1, fo, lF, hn⟩
      have pl1 := pl.but m1 os
      have hls1 := but_lst m1 os hls
      rw [Int.zero_add]
      walk_at "rdf"
      refine rd_I (.inl ⟨by decide, by decide⟩) ?_
      walk_at "rdf"
      refine rd_ixL (SqL.of hls1) (atI_ints (by omega) (by omega)) ?_
      walk_at "rdf"
      refine rd_I (.inl ⟨by decide, by decide⟩) ?_
      walk_at "rdf"
      refine rd_ixL (SqL.of hls1) (atI_ints (by omega) (by omega)) ?_
      walk_at "rdf"
      refine rd_I (.inl ⟨by decide, by decide⟩) ?_
      walk_at "rdf"
      refine rd_ixL (SqL.of hls1) (atI_ints (by omega) (by omega)) ?_
      walk_at "rdf"
      refine ⟨q, _, _, _, s, cs, rs, rfl, pl1, fun a f H2 s2 ha hin htr => ?_⟩
      have e2 := s2 _ _ e1
      have pw2 := pw.mono s2
      have f2 := f1.mono s2
      have m2 := m1.trans (s2.butL _)
      walk_at "rdf"
      refine ⟨⟨_, SqL.of e2⟩, fun l3 n3 => ?_⟩
      refine compW_list (sndOf H2) (SqL.of e2) (by rw [pw2.1]; omega) n3 (fun x o H' Q' hx s3 q' => ?_) (fun H3 s3 e3 => ?_)
      · obtain ⟨b, a', nf, rfl, _, hb, _⟩ := pw2.mem hx
        walk_at "rdf"
        refine rd_ixT (SqT.of (s3 _ _ hb)) (v := .ref a') rfl ?_
        have es : sndOf H2 (.ref b) = .ref a' := by simp only [sndOf, hb]
        rw [es] at q'
        exact q' H' (Same.refl _)
      · have e23 := s3 _ _ e2
        have pw3 := pw2.mono s3
        have f3 := f2.mono s3
        have ha3 := s3 _ _ ha
        have m3 := m2.trans (s3.butL _)
        walk_at "rdf"
        refine rd_ninF e3 (pw2.snds.mono s3) ha3 ?_
        by_cases hm : f ∈ F.map (·.2)
        · rw [decide_eq_true hm]
          walk_at "rdf"
          exact ⟨_, _, xs, F, n, G, rfl, m3, e23, pw3, f3, fo, by omega, hn⟩
        · rw [decide_eq_false hm]
          walk_at "rdf"
          refine rd_bmL e23 ?_
          obtain ⟨dx, fs, hp, fl⟩ := f3.ob
          walk_at "rdf"
          refine rd_methv hp (fl.no _ (by decide +kernel)) ?_
          walk_at "rdf"
          refine ⟨p, a, df, dg, _, _, F, n, G, f, _, rfl, f3, fo, by omega, by omega, by omega, ha3, hin, htr, hm, fun H4 m4 f4 fo4 => ?_⟩
          have e4 := but_lst m4 f3.outS e23
          have pw4 := pw3.but m4 f3.not
          have ha4 := but_tup m4 f3.not ha3
          walk_at "rdf"
          refine ⟨by show 2 ≤ sizeLine; decide, fun b nb => ?_⟩
          have sb := Same.new (o := HO.tup [V.int n, V.ref a]) nb
          have eb := upd_same (H := H4) (a := b) (o := HO.tup [V.int n, V.ref a])
          generalize upd H4 b (HO.tup [V.int n, V.ref a]) = H5 at sb eb ⊢
          walk_at "rdf"
          refine rd_append (sb _ _ e4) (by rw [pw.1]; exact small1000 (by omega)) ?_
          have f5 := f4.mono sb
          have nl5 := f5.lst (sb _ _ e4)
          have mu : ButL [l] H5 (upd H5 l (.lst (xs ++ [.ref b]))) := (ButL.refl _ _).upd (by simp)
          have nt : NoT H5 [l] := fun x hx ys => by rw [List.mem_singleton.mp hx, sb _ _ e4]; intro z; cases z
          have m5 := (m3.trans m4).trans (sb.butL _)
          have np : ∀ x, x ∈ [p, df, dg] → x ∉ [l] := fun x hx z => nl5 (by rw [← List.mem_singleton.mp z]; exact hx)
          refine ⟨_, _, _, _, _, _, rfl, fun c o ec nc => ?_, upd_same, ((pw4.mono sb).snoc eb (sb _ _ ha4)).but mu nt, f5.but mu nt (np _ (by simp)) (np _ (by simp)) (np _ (by simp)), fo4, by rw [List.length_append]; show F.length + 1 ≤ _; omega, by rw [List.length_append, hn]; show _ = ((F.length + 1 : Nat) : Int); omega⟩
          rw [upd_ne (ne_of_none ec nl)]; exact m5 c o ec nc
    · rintro σ' H1 ⟨o5, o6, xs, F, n, G, rfl, m1, e1, pw, f1, fo, lF, hn⟩
      walk_at "rdf"
      exact k l xs F n G H1 m1 nl e1 pw f1 fo lF hn
end


section
variable {P : Program} {w : World} {K : PySem.W.Frag} {mg : Str → Option Value} {base : Heap} {t : Ad}
def Scal (d : PyData) : Prop := (∃ i, d = .int i) ∨ (∃ b, d = .bool b) ∨ d = .none
def OkS (S : PyData → Prop) (d : PyData) : Prop := Scal d ∨ (∃ ds, d = .list ds ∧ ds.length ≤ 1000 ∧ ∀ e ∈ ds, S e) ∨ ∃ ds, d = .tuple ds ∧ ds.length ≤ 1000 ∧ ∀ e ∈ ds, S e
def sp_same (S : PyData → Prop) : Sp := fun vs H Q _ => ∃ (x y : V) (d : PyData), vs = [x, y] ∧ S d ∧ Rep H d x ∧ Rep H d y ∧ ∀ H', Same H H' → Q (.bl true) H'
theorem same_step {S : PyData → Prop} {n : Nat} (T : Txt K mg t) (G_Lsame : FnOk P w K mg base CX0 n t.f_Lsame t.d_Lsame ["_law_told", "_law_due"] (sp_same S)) : FnOk P w K mg base CX0 (n + 1) t.f_Lsame t.d_Lsame ["_law_told", "_law_due"] (sp_same (OkS S)) := by
  refine T.F_Lsame.ok sc_Lsame (fun vs H Q E h => ?_) (fun cdv A outer s H vs Q E hr h => ?_)
  · obtain ⟨x, y, d, rfl, _⟩ := h; rfl
  · obtain ⟨x, y, d, rfl, ok, rx, ry, k⟩ := h
    refine cutC (ps_if (PW.pt (pw_or (pt_cmpR op_ne (pe_callB (cI_isinstK K rfl) rfl T.no_isinstance (by rfl) (pa_cons (pv 0) (pa_cons (pe_bltn (v := .ty "bool") rfl T.no_bool (by rfl : bootBuiltins "bool" = some (.type "bool")) rfl) pa_nil))) (pe_callB (cI_isinstK K rfl) rfl T.no_isinstance (by rfl) (pa_cons (pv 1) (pa_cons (pe_bltn (v := .ty "bool") rfl T.no_bool (by rfl : bootBuiltins "bool" = some (.type "bool")) rfl) pa_nil))) (nomark _)) (pw_or1 (pt_cmpR op_ne (pe_callB (cI_isinstK K rfl) rfl T.no_isinstance (by rfl) (pa_cons (pv 0) (pa_cons (pe_bltn (v := .ty "int") rfl T.no_int (by rfl : bootBuiltins "int" = some (.type "int")) rfl) pa_nil))) (pe_callB (cI_isinstK K rfl) rfl T.no_isinstance (by rfl) (pa_cons (pv 1) (pa_cons (pe_bltn (v := .ty "int") rfl T.no_int (by rfl : bootBuiltins "int" = some (.type "int")) rfl) pa_nil))) (nomark _))))) (pss_one (ps_ret pe_bl)) pss_nil) fun _ _ => cutC (ps_if (PW.pt (pw_or (pt_cmpR op_ne (pe_callB (cI_isinstK K rfl) rfl T.no_isinstance (by rfl) (pa_cons (pv 0) (pa_cons (pe_bltn (v := .ty "list") rfl T.no_list (by rfl : bootBuiltins "list" = some (.type "list")) rfl) pa_nil))) (pe_callB (cI_isinstK K rfl) rfl T.no_isinstance (by rfl) (pa_cons (pv 1) (pa_cons (pe_bltn (v := .ty "list") rfl T.no_list (by rfl : bootBuiltins "list" = some (.type "list")) rfl) pa_nil))) (nomark _)) (pw_or1 (pt_cmpR op_ne (pe_callB (cI_isinstK K rfl) rfl T.no_isinstance (by rfl) (pa_cons (pv 0) (pa_cons (pe_bltn (v := .ty "tuple") rfl T.no_tuple (by rfl : bootBuiltins "tuple" = some (.type "tuple")) rfl) pa_nil))) (pe_callB (cI_isinstK K rfl) rfl T.no_isinstance (by rfl) (pa_cons (pv 1) (pa_cons (pe_bltn (v := .ty "tuple") rfl T.no_tuple (by rfl : bootBuiltins "tuple" = some (.type "tuple")) rfl) pa_nil))) (nomark _))))) (pss_one (ps_ret pe_bl)) pss_nil) fun _ _ => cutC (ps_if (PW.pt (pw_and (pt_not (pt_val (pe_callB (cI_isinstK K rfl) rfl T.no_isinstance (by rfl) (pa_cons (pv 1) (pa_cons (pe_bltn (v := .ty "list") rfl T.no_list (by rfl : bootBuiltins "list" = some (.type "list")) rfl) pa_nil))))) (pw_and1 (pt_not (pt_val (pe_callB (cI_isinstK K rfl) rfl T.no_isinstance (by rfl) (pa_cons (pv 1) (pa_cons (pe_bltn (v := .ty "tuple") rfl T.no_tuple (by rfl : bootBuiltins "tuple" = some (.type "tuple")) rfl) pa_nil)))))))) (pss_one (ps_ret (pe_and (pe_cmpR op_eq (pe_callB (cI_isinstK K rfl) rfl T.no_isinstance (by rfl) (pa_cons (pv 0) (pa_cons (pe_bltn (v := .ty "str") rfl T.no_str (by rfl : bootBuiltins "str" = some (.type "str")) rfl) pa_nil))) (pe_callB (cI_isinstK K rfl) rfl T.no_isinstance (by rfl) (pa_cons (pv 1) (pa_cons (pe_bltn (v := .ty "str") rfl T.no_str (by rfl : bootBuiltins "str" = some (.type "str")) rfl) pa_nil))) (nomark _)) (pe_one (pe_cmpR (op_eqD hr.units) (pv 0) (pv 1) (nomark _)))))) pss_nil) fun _ _ => cutE (ps_ret (pe_and (pe_cmpR op_eq (pe_callB (cI_lenK K rfl) rfl T.no_len (by rfl) (pa_cons (pv 0) pa_nil)) (pe_callB (cI_lenK K rfl) rfl T.no_len (by rfl) (pa_cons (pv 1) pa_nil)) (nomark _)) (pe_one (pe_callB (cI_allK K rfl rfl) rfl T.no_all (by rfl) (pa_cons (pe_comp (N := ["_law_one", "_law_other"]) (cap := [none, none]) rfl ⟨rfl, rfl, rfl, rfl, rfl, rfl⟩ (pi_zipS rfl T.no_zip (pa_cons (pv 0) (pa_cons (pv 1) pa_nil))) (fun _ _ _ => (pg_tupK (n := 2) K rfl rfl (pgs_cons (pg_name (i := 0) (show (["_law_one", "_law_other"] : List Str).Nodup by decide +kernel) rfl (Or.inl rfl)) (pgs_cons (pg_name (i := 1) (show (["_law_one", "_law_other"] : List Str).Nodup by decide +kernel) rfl (Or.inl rfl)) pgs_nil)))) (fun _ _ _ => pts_nil) (fun _ _ _ => (pe_call G_Lsame (hr.mono (by first | decide | omega)) rfl T.mg_Lsame T.F_Lsame.kp T.b_Lsame .nil pass0 (pa_cons (pv 0) (pa_cons (pv 1) pa_nil))))) pa_nil))))) fun _ _ => ?_
    walk_at "rdf"
    refine rd_isi rx.ty (kit_bool d) ?_
    walk_at "rdf"
    refine rd_isi ry.ty (kit_bool d) ?_
    walk_at "rdf"
    rw [decide_eq_true rfl]
    walk_at "rdf"
    refine rd_isi rx.ty (kit_int d) ?_
    walk_at "rdf"
    refine rd_isi ry.ty (kit_int d) ?_
    walk_at "rdf"
    rw [decide_eq_true rfl]
    walk_at "rdf"
    refine rd_isi rx.ty (kit_list d) ?_
    walk_at "rdf"
    refine rd_isi ry.ty (kit_list d) ?_
    walk_at "rdf"
    rw [decide_eq_true rfl]
    walk_at "rdf"
    refine rd_isi rx.ty (kit_tuple d) ?_
    walk_at "rdf"
    refine rd_isi ry.ty (kit_tuple d) ?_
    walk_at "rdf"
    rw [decide_eq_true rfl]
    walk_at "rdf"
    refine rd_isi ry.ty (kit_list d) ?_
    walk_at "rdf"
    rcases ok with sc | ⟨ds, rfl, hl, hS⟩ | ⟨ds, rfl, hl, hS⟩
    · have e1 : isD "list" d = false := by rcases sc with ⟨i, rfl⟩ | ⟨b, rfl⟩ | rfl <;> simp [isD]
      have e2 : isD "tuple" d = false := by rcases sc with ⟨i, rfl⟩ | ⟨b, rfl⟩ | rfl <;> simp [isD]
      rw [e1]
      walk_at "rdf"
      refine rd_isi ry.ty (kit_tuple d) ?_
      rw [e2]
      walk_at "rdf"
      refine rd_isi rx.ty (kit_str d) ?_
      walk_at "rdf"
      refine rd_isi ry.ty (kit_str d) ?_
      walk_at "rdf"
      rw [decide_eq_true rfl]
      walk_at "rdf"
      have sd : SeqAt.shaped d = true := by rcases sc with ⟨i, rfl⟩ | ⟨b, rfl⟩ | rfl <;> rfl
      refine ⟨d, d, rx, ry, sd, sd, ?_⟩
      have e3 : PyData.eqv d d = true := by rcases sc with ⟨i, rfl⟩ | ⟨b, rfl⟩ | rfl <;> simp [PyData.eqv]
      rw [e3]
      exact k _ (Same.refl _)
    · have e1 : isD "list" (.list ds) = true := by simp [isD]
      rw [e1]
      simp only [Rep] at rx ry
      obtain ⟨a, xs, rfl, ha, ra⟩ := rx
      obtain ⟨b, ys, rfl, hb, rb⟩ := ry
      obtain ⟨l1, g1⟩ := repL_get ra
      obtain ⟨l2, g2⟩ := repL_get rb
      walk_at "rdf"
      refine rd_lenL ha ?_
      walk_at "rdf"
      refine rd_lenL hb ?_
      walk_at "rdf"
      rw [decide_eq_true (by omega : (xs.length : Int) = ys.length)]
      walk_at "rdf"
      refine ⟨a, b, rfl, .inl ⟨⟨_, SqL.of ha⟩, ⟨_, SqL.of hb⟩, fun l hn => ?_⟩⟩
      refine compW_zip (fun _ => .bl true) ha hb (by omega) (by omega) hn (fun i x y H' Q' ex ey s1 q => ?_) (fun H' s1 e => ?_)
      · walk_at "rdf"
        obtain ⟨d, hd, rd⟩ := g1 i x ex
        obtain ⟨d', hd', rd'⟩ := g2 i y ey
        rw [hd] at hd'
        cases hd'
        exact ⟨x, y, d, rfl, hS d (List.mem_of_getElem? hd), rd.mono s1, rd'.mono s1, q⟩
      · walk_at "rdf"
        have e' : H' l = some (.lst (((List.range xs.length).map fun _ => true).map V.bl)) := by rw [e, List.map_map]; rfl
        refine rd_all e' ?_
        have e4 : ((List.range xs.length).map fun _ => true).all id = true := by simp
        rw [e4]
        exact k H' s1
    · have e1 : isD "list" (.tuple ds) = false := by simp [isD]
      have e2 : isD "tuple" (.tuple ds) = true := by simp [isD]
      rw [e1]
      walk_at "rdf"
      refine rd_isi ry.ty (kit_tuple _) ?_
      rw [e2]
      simp only [Rep] at rx ry
      obtain ⟨a, xs, rfl, ha, ra⟩ := rx
      obtain ⟨b, ys, rfl, hb, rb⟩ := ry
      obtain ⟨l1, g1⟩ := repL_get ra
      obtain ⟨l2, g2⟩ := repL_get rb
      walk_at "rdf"
      refine rd_lenT ha ?_
      walk_at "rdf"
      refine rd_lenT hb ?_
      walk_at "rdf"
      rw [decide_eq_true (by omega : (xs.length : Int) = ys.length)]
      walk_at "rdf"
      refine ⟨a, b, rfl, .inr ⟨⟨_, SqT.of ha⟩, ⟨_, SqT.of hb⟩, fun l hn => ?_⟩⟩
      refine compW_zipT (fun _ => .bl true) ha hb (by omega) (by omega) hn (fun i x y H' Q' ex ey s1 q => ?_) (fun H' s1 e => ?_)
      · walk_at "rdf"
        obtain ⟨d, hd, rd⟩ := g1 i x ex
        obtain ⟨d', hd', rd'⟩ := g2 i y ey
        rw [hd] at hd'
        cases hd'
        exact ⟨x, y, d, rfl, hS d (List.mem_of_getElem? hd), rd.mono s1, rd'.mono s1, q⟩
      · walk_at "rdf"
        have e' : H' l = some (.lst (((List.range xs.length).map fun _ => true).map V.bl)) := by rw [e, List.map_map]; rfl
        refine rd_all e' ?_
        have e4 : ((List.range xs.length).map fun _ => true).all id = true := by simp
        rw [e4]
        exact k H' s1
/-- data three deep -/
def Ok3 : PyData → Prop := OkS (OkS (OkS fun _ => False))
theorem ok_Lsame (T : Txt K mg t) : FnOk P w K mg base CX0 3 t.f_Lsame t.d_Lsame ["_law_told", "_law_due"] (sp_same Ok3) :=
  same_step T (same_step T (same_step T ⟨fun vs H Q E h => (by obtain ⟨_, _, _, _, h, _⟩ := h; exact h.elim), fun A outer s H args us vs Q E _ _ _ _ h => (by obtain ⟨_, _, _, _, h, _⟩ := h; exact h.elim)⟩))
theorem okS_bool {S : PyData → Prop} (i : Bool) : OkS S (.bool i) := .inl (.inr (.inl ⟨i, rfl⟩))
end

section
variable {P : Program} {w : World} {K : PySem.W.Frag} {mg : Str → Option Value} {base : Heap} {t : Ad}
def sp_FindsInit (C : Addr) : Sp := fun vs H Q _ => ∃ (p dx : Addr) (wd ht : Nat), vs = [.ref p, .int wd, .int ht] ∧ H p = some (.ins C dx []) ∧ (1 ≤ wd ∧ wd ≤ 40) ∧ (1 ≤ ht ∧ ht ≤ 40) ∧
  ∀ df dg H', ButL [p] H H' → H df = none → H dg = none → FdAt C H' p df dg wd ht [] 0 Fm.lone → Q .non H'
theorem ok_FindsInit (T : Txt K mg t) : FnOk P w K mg base CX0 4 t.f_FindsInit t.d_FindsInit ["self", "wide", "tall"] (sp_FindsInit t.a_Finds) :=
  (okx_FindsInit T).down fun vs H Q E hh => by
    obtain ⟨p, dx, wd, ht, e, hp, hw, hh', k⟩ := hh
    have s1 : isSide ((wd : Nat) : Int) = true := by unfold isSide; rw [decide_eq_true (by omega), decide_eq_true (by omega)]; rfl
    have s2 : isSide ((ht : Nat) : Int) = true := by unfold isSide; rw [decide_eq_true (by omega), decide_eq_true (by omega)]; rfl
    refine ⟨p, dx, wd, ht, e, hp, fun z => (by rw [s1, s2] at z; cases z), fun _ df dg H' m n1 n2 f => ?_⟩
    rw [Int.toNat_natCast, Int.toNat_natCast] at f
    exact k df dg H' m n1 n2 f
/-! the law's rows as data -/
def rowD (nf : Int × Fct) : PyData := .tuple [.int nf.1, nf.2.dat]
/-- the row that stands at a value -/
def rowOf (H : Hp) (F : List (Int × Fct)) (xs : List V) (x : V) : Bool := true
end

section
variable {P : Program} {w : World} {K : PySem.W.Frag} {mg : Str → Option Value} {base : Heap} {t : Ad}
def sp_Findswithdraw (C : Addr) : Sp := fun vs H Q _ => ∃ (p df dg : Addr) (wd ht : Nat) (F : List (Int × Fct)) (n j : Int) (G : List Key → List Key × Int) (v : List Key → Int), vs = [.ref p, .int j] ∧ FdAt C H p df dg wd ht F n G ∧ FOk v wd ht F n G ∧ wd ≤ 40 ∧ ht ≤ 40 ∧ j ∈ F.map (·.1) ∧
  ∀ dg' G' H', ButL [p, df, dg] H H' → H dg' = none → FdAt C H' p df dg' wd ht (outF F j) n G' → FOk v wd ht (outF F j) n G' → Q .non H'
theorem ok_Findswithdraw (T : Txt K mg t) : FnOk P w K mg base CX0 5 t.f_Findswithdraw t.d_Findswithdraw ["self", "number"] (sp_Findswithdraw t.a_Finds) :=
  (okx_Findswithdraw T).down fun vs H Q E hh => by
    obtain ⟨p, df, dg, wd, ht, F, n, j, G, v, e, fd, fo, lw, lh, hj, k⟩ := hh
    exact ⟨p, df, dg, wd, ht, F, n, j, G, e, fd, lw, lh, fo.inw, fun z => absurd hj z, fun _ dg' H' m nd f => k dg' _ H' m nd f (fo.out j)⟩
end


section
variable {P : Program} {w : World} {K : PySem.W.Frag} {mg : Str → Option Value} {base : Heap} {t : Ad}
/-! whether a cloth shows a fact -/
def hold (s : Int) (cs rs : List Int) : Fct → Bool
  | .cell x y c => decide (valC s cs rs x y = c)
  | .line col k st b => decide (decide ((st + (bitsOf col cs rs).getD k.toNat 0) % 2 = 1) = b)
def Fct.neg : Fct → Fct
  | .cell x y c => .cell x y (1 - c)
  | .line col k st b => .line col k st (!b)
theorem Fct.inW_neg {f : Fct} {wd ht : Int} (h : f.inW wd ht) : f.neg.inW wd ht := by
  cases f with
  | cell x y c =>
    obtain ⟨h1, h2, h3⟩ := h
    exact ⟨h1, h2, by omega⟩
  | line col k st b => cases col <;> exact h
theorem hold_neg {s : Int} {cs rs : List Int} {f : Fct} {wd ht : Int} (h : f.inW wd ht) : hold s cs rs f.neg = !hold s cs rs f := by
  cases f with
  | cell x y c =>
    obtain ⟨_, _, hc⟩ := h
    have hv := valC_bit (s := s) (cs := cs) (rs := rs) (x := x) (y := y)
    show decide (valC s cs rs x y = 1 - c) = !decide (valC s cs rs x y = c)
    rw [Bool.eq_iff_iff, decide_eq_true_eq, Bool.not_eq_true', decide_eq_false_iff_not]
    omega
  | line col k st b =>
    show decide (_ = !b) = !decide (_ = b)
    cases b <;> cases decide ((st + (bitsOf col cs rs).getD k.toNat 0) % 2 = 1) <;> rfl
theorem tr_hold {s : Int} {cs rs : List Int} (bc : Bits cs) (br : Bits rs) {f : Fct} (hi : f.inW ((cs.length : Int) + 1) ((rs.length : Int) + 1)) (ht : Tr (vP s cs rs) f) : hold s cs rs f = true := by
  cases f with
  | cell x y c =>
    obtain ⟨_, _, hc⟩ := hi
    have h2 := tr_cell (s := s) (cs := cs) (rs := rs) (x := x) (y := y)
    have hv := valC_bit (s := s) (cs := cs) (rs := rs) (x := x) (y := y)
    have e : (c + x * y) % 2 = (valC s cs rs x y + x * y) % 2 := ht.trans h2.symm
    refine decide_eq_true ?_
    generalize valC s cs rs x y = z at e hv
    generalize x * y = m at e
    omega
  | line col k st b =>
    have hk : 0 ≤ k ∧ k < (bitsOf col cs rs).length := by
      cases col
      · obtain ⟨⟨a, b⟩, _⟩ := hi; exact ⟨a, by show k < (rs.length : Int); omega⟩
      · obtain ⟨⟨a, b⟩, _⟩ := hi; exact ⟨a, by show k < (cs.length : Int); omega⟩
    have h2 := tr_line (s := s) bc br (col := col) (st := st) hk.1 hk.2
    refine decide_eq_true ?_
    generalize decide ((st + (bitsOf col cs rs).getD k.toNat 0) % 2 = 1) = b0 at h2
    have e : (if b = true then (st + 1) % 2 else st % 2) = (if b0 = true then (st + 1) % 2 else st % 2) := ht.trans h2.symm
    cases b <;> cases b0
    · rfl
    · simp at e; omega
    · simp at e; omega
    · rfl
theorem isWay_of (col : Bool) (cs rs : List Int) : IsWay (wyS col) cs rs (bitsOf col cs rs) := by
  cases col
  · exact .inr ⟨rfl, rfl⟩
  · exact .inl ⟨rfl, rfl⟩
theorem colr_val {s : Int} {cs rs : List Int} {x y : Int} : colr s cs rs x y = valC s cs rs x y := by
  unfold colr valC
  congr 1
  omega
def sp_shows (C : Addr) : Sp := fun vs H Q _ => ∃ (x p : Addr) (s : Int) (cs rs : List Int) (f : Fct), vs = [.ref x, .ref p] ∧ ClothAt C H x s cs rs ∧ Bits cs ∧ Bits rs ∧ H p = some (.tup f.vs) ∧ f.inW ((cs.length : Int) + 1) ((rs.length : Int) + 1) ∧ ∀ H', Same H H' → Q (.bl (hold s cs rs f)) H'
theorem ok_shows (T : Txt K mg t) : FnOk P w K mg base CX0 5 t.f_shows t.d_shows ["cloth", "fact"] (sp_shows t.a_Cloth) := by
  have G_Clothcolour := ok_Clothcolour (P := P) (w := w) (base := base) T
  have G_Clothstitched := ok_Clothstitched (P := P) (w := w) (base := base) T
  refine T.F_shows.ok sc_shows (fun vs H Q E h => ?_) (fun cdv A outer s H vs Q E hr h => ?_)
  · obtain ⟨x, p, s, cs, rs, f, rfl, _⟩ := h; rfl
  · obtain ⟨xx, p, s, cs, rs, f, rfl, hx, bc, br, hp, hi, k⟩ := h
    obtain ⟨dx, a, b, e1, e2, e3⟩ := hx.ob
    have nl : ∀ {w h : Int} {m : Str}, NoF m → (cfl s a b w h).lookup m = none := fun x => cfl_no _ _ _ x
    refine ⟨_, (pss_cons (ps_if (pt_cmpR op_eq (pe_ix (ix_tupK K rfl) (pv 1) pe_int (fun _ _ => rfl)) pe_str (nomark _)) (pss_one (ps_ret (pe_cmpR op_eq (pe_meth (pv 0) T.cl_Cloth T.m_Clothcolour G_Clothcolour (hr.mono (by first | decide | omega)) T.b_Clothcolour .nil pass0 (pa_cons (pe_ix (ix_tupK K rfl) (pv 1) pe_int (fun _ _ => rfl)) (pa_cons (pe_ix (ix_tupK K rfl) (pv 1) pe_int (fun _ _ => rfl)) pa_nil))) (pe_ix (ix_tupK K rfl) (pv 1) pe_int (fun _ _ => rfl)) (nomark _)))) pss_nil) (pss_one (ps_ret (pe_cmpR op_eq (pe_meth (pv 0) T.cl_Cloth T.m_Clothstitched G_Clothstitched (hr.mono (by first | decide | omega)) T.b_Clothstitched .nil pass0 (pa_cons (pe_ix (ix_tupK K rfl) (pv 1) pe_int (fun _ _ => rfl)) (pa_cons (pe_ix (ix_tupK K rfl) (pv 1) pe_int (fun _ _ => rfl)) (pa_cons (pe_ix (ix_tupK K rfl) (pv 1) pe_int (fun _ _ => rfl)) pa_nil)))) (pe_ix (ix_tupK K rfl) (pv 1) pe_int (fun _ _ => rfl)) (nomark _))))), ?_⟩
    cases f with
    | cell x y c =>
      obtain ⟨⟨x0, x1⟩, ⟨y0, y1⟩, _⟩ := hi
      walk_at "rdf"
      refine rd_ixT (SqT.of hp) (v := .str "cell") rfl ?_
      walk_at "rdf"
      rw [decide_eq_true (rfl : ("cell" : Str) = "cell")]
      walk_at "rdf"
      refine rd_methv e1 (nl (by decide +kernel)) ?_
      walk_at "rdf"
      refine rd_ixT (SqT.of hp) (v := .int x) rfl ?_
      walk_at "rdf"
      refine rd_ixT (SqT.of hp) (v := .int y) rfl ?_
      walk_at "rdf"
      refine ⟨xx, x, y, s, cs, rs, rfl, hx, bc, br, x0, x1, y0, y1, fun H1 s1 => ?_⟩
      walk_at "rdf"
      refine rd_ixT (SqT.of (s1 _ _ hp)) (v := .int c) rfl ?_
      walk_at "rdf"
      rw [colr_val]
      exact k H1 s1
    | line col kk st b =>
      have hk : (0 ≤ kk ∧ kk < (bitsOf col cs rs).length) ∧ 0 ≤ st ∧ st < ((bitsOf col rs cs).length : Int) + 1 := by
        cases col
        · obtain ⟨⟨u1, u2⟩, u3, u4⟩ := hi; exact ⟨⟨u1, by show kk < (rs.length : Int); omega⟩, u3, u4⟩
        · obtain ⟨⟨u1, u2⟩, u3, u4⟩ := hi; exact ⟨⟨u1, by show kk < (cs.length : Int); omega⟩, u3, u4⟩
      walk_at "rdf"
      refine rd_ixT (SqT.of hp) (v := .str (wyS col)) rfl ?_
      walk_at "rdf"
      rw [wy_cell]
      walk_at "rdf"
      refine rd_methv e1 (nl (by decide +kernel)) ?_
      walk_at "rdf"
      refine rd_ixT (SqT.of hp) (v := .str (wyS col)) rfl ?_
      walk_at "rdf"
      refine rd_ixT (SqT.of hp) (v := .int kk) rfl ?_
      walk_at "rdf"
      refine rd_ixT (SqT.of hp) (v := .int st) rfl ?_
      walk_at "rdf"
      refine ⟨xx, wyS col, kk, st, s, cs, rs, bitsOf col cs rs, bitsOf col rs cs, rfl, hx, isWay_of col cs rs, isWay_of col rs cs, hk.1.1, hk.1.2, hk.2.1, hk.2.2, ?_⟩
      walk_at "rdf"
      refine rd_ixT (SqT.of hp) (v := .bl b) rfl ?_
      walk_at "rdf"
      exact k H (Same.refl _)
def fitB (s : Int) (cs rs : List Int) (wd ht : Nat) (F : List (Int × Fct)) : Bool := decide (cs.length + 1 = wd ∧ rs.length + 1 = ht) && F.all fun nf => hold s cs rs nf.2
def sp_Findsfits (C D : Addr) : Sp := fun vs H Q _ => ∃ (p x df dg : Addr) (wd ht : Nat) (F : List (Int × Fct)) (n : Int) (G : List Key → List Key × Int) (s : Int) (cs rs : List Int), vs = [.ref p, .ref x] ∧ FdAt C H p df dg wd ht F n G ∧ (∀ nf ∈ F, nf.2.inW wd ht) ∧ F.length ≤ 900 ∧
  ClothAt D H x s cs rs ∧ Bits cs ∧ Bits rs ∧ ∀ H', Same H H' → Q (.bl (fitB s cs rs wd ht F)) H'
theorem ok_Findsfits (T : Txt K mg t) : FnOk P w K mg base CX0 6 t.f_Findsfits t.d_Findsfits ["self", "cloth"] (sp_Findsfits t.a_Finds t.a_Cloth) := by
  have G_Findswide := ok_Findswide (P := P) (w := w) (base := base) T
  have G_Findstall := ok_Findstall (P := P) (w := w) (base := base) T
  have G_Clothwide := ok_Clothwide (P := P) (w := w) (base := base) T
  have G_Clothtall := ok_Clothtall (P := P) (w := w) (base := base) T
  have G_shows := ok_shows (P := P) (w := w) (base := base) T
  refine T.F_Findsfits.ok sc_Findsfits (fun vs H Q E h => ?_) (fun cdv A outer s H vs Q E hr h => ?_)
  · obtain ⟨p, x, df, dg, wd, ht, F, n, G, s, cs, rs, rfl, _⟩ := h; rfl
  · obtain ⟨p, x, df, dg, wd, ht, F, n, G, s, cs, rs, rfl, fd, hin, lF, hx, bc, br, k⟩ := h
    obtain ⟨dx, a, b, e1, e2, e3⟩ := hx.ob
    have nl : ∀ {w h : Int} {m : Str}, NoF m → (cfl s a b w h).lookup m = none := fun x => cfl_no _ _ _ x
    obtain ⟨dx', fs, hp, fl⟩ := fd.ob
    obtain ⟨kf, hdf, pn⟩ := fd.fa
    refine ⟨_, (pss_cons (ps_if (PW.pt (pw_or (pt_cmpR op_ne (pe_meth0 (pv 1) T.cl_Cloth T.m_Clothwide G_Clothwide (hr.mono (by first | decide | omega)) T.b_Clothwide .nil pass0) (pe_meth0 (pv 0) T.cl_Finds T.m_Findswide G_Findswide (hr.mono (by first | decide | omega)) T.b_Findswide .nil pass0) (nomark _)) (pw_or1 (pt_cmpR op_ne (pe_meth0 (pv 1) T.cl_Cloth T.m_Clothtall G_Clothtall (hr.mono (by first | decide | omega)) T.b_Clothtall .nil pass0) (pe_meth0 (pv 0) T.cl_Finds T.m_Findstall G_Findstall (hr.mono (by first | decide | omega)) T.b_Findstall .nil pass0) (nomark _))))) (pss_one (ps_ret pe_bl)) pss_nil) (pss_one (ps_ret (pe_callB (cI_allK K rfl rfl) rfl T.no_all (by rfl) (pa_cons (pe_thaw (pe_comp (N := ["fact", "cloth"]) (cap := [none, some 1]) rfl ⟨rfl, rfl, rfl, rfl, rfl, rfl⟩ (pi_vals (pe_bm0 PySem.F.plainAttrs_dict PySem.F.slot_dict_values PySem.F.type_dict_values mt_values (pe_fldK K rfl (pv 0) rfl))) (fun _ _ _ => (pg_name (i := 0) (show (["fact", "cloth"] : List Str).Nodup by decide +kernel) rfl (Or.inl rfl))) (fun _ _ _ => pts_nil) (fun _ _ _ => (pe_call G_shows (hr.mono (by first | decide | omega)) rfl T.mg_shows T.F_shows.kp T.b_shows .nil pass0 (pa_cons (pv 1) (pa_cons (pv 0) pa_nil)))))) pa_nil))))), ?_⟩
    walk_at "rdf"
    refine rd_methv e1 (nl (by decide +kernel)) ?_
    walk_at "rdf"
    refine ⟨x, s, cs, rs, rfl, hx, ?_⟩
    walk_at "rdf"
    refine rd_methv hp (fl.no _ (by decide +kernel)) ?_
    walk_at "rdf"
    refine ⟨p, wd, ht, rfl, fd.sz, ?_⟩
    walk_at "rdf"
    by_cases c1 : cs.length + 1 = wd
    · rw [decide_eq_true (by omega : ((cs.length : Nat) : Int) + 1 = (wd : Int))]
      walk_at "rdf"
      refine rd_methv e1 (nl (by decide +kernel)) ?_
      walk_at "rdf"
      refine ⟨x, s, cs, rs, rfl, hx, ?_⟩
      walk_at "rdf"
      refine rd_methv hp (fl.no _ (by decide +kernel)) ?_
      walk_at "rdf"
      refine ⟨p, wd, ht, rfl, fd.sz, ?_⟩
      walk_at "rdf"
      by_cases c2 : rs.length + 1 = ht
      · rw [decide_eq_true (by omega : ((rs.length : Nat) : Int) + 1 = (ht : Int))]
        walk_at "rdf"
        refine rd_fldv hp T.cl_Finds T.naF_facts fl.f ?_
        walk_at "rdf"
        refine rd_bmD hdf ?_
        refine rd_viewv hdf fun v nv => ?_
        have sv := Same.new (o := ViewO "dict_values" v df) nv
        have ev := upd_same (H := H) (a := v) (o := ViewO "dict_values" v df)
        generalize upd H v (ViewO "dict_values" v df) = H1 at sv ev ⊢
        have hd1 := sv _ _ hdf
        refine ⟨v, df, kf, rfl, ev, hd1, fun FF hFF => ?_⟩
        obtain ⟨φ, rfl⟩ := hFF.ext
        have s2 : ∀ b o, H1 b = some o → b ≠ df → upd H1 df (.ext φ) b = some o := fun b o e hb => by rw [upd_ne hb]; exact e
        have e2' := upd_same (H := H1) (a := df) (o := HO.ext φ)
        generalize upd H1 df (.ext φ) = H2 at s2 e2' ⊢
        have nT : ∀ {c : Addr} {vs : List V}, H1 c = some (.tup vs) → H2 c = some (.tup vs) := fun {c vs} h => s2 _ _ h (fun z => by rw [z, hd1] at h; cases h)
        have hx2 : ClothAt t.a_Cloth H2 x s cs rs := by
          have hx1 := hx.mono sv
          obtain ⟨dx, a, b, q1, q2, q3⟩ := hx1.ob
          exact ⟨⟨dx, a, b, s2 _ _ q1 (fun z => by rw [z, hd1] at q1; cases q1), nT q2, nT q3⟩⟩
        walk_at "rdf"
        intro l nl2
        refine compW_valsL (F.map fun nf => V.bl (hold s cs rs nf.2)) (by rw [List.length_map, pn.1]) e2' (by rw [pn.1]; omega) nl2 (fun i kk xv y o H' Q' hk hy s3 q => ?_) (fun H3 s3 e3' => ?_)
        · rw [List.getElem?_map] at hy
          obtain ⟨nf, hnf, rfl⟩ := Option.map_eq_some_iff.mp hy
          obtain ⟨_, a', rfl, ha'⟩ := pn.2 i kk xv nf hk hnf
          walk_at "rdf"
          refine ⟨x, a', s, cs, rs, nf.2, rfl, hx2.mono s3, bc, br, s3 _ _ (nT (sv _ _ ha')), ?_, fun H4 s4 => ?_⟩
          · have := hin nf (List.mem_of_getElem? hnf)
            rw [← c1, ← c2] at this
            exact this
          · exact q H4 s4
        · have fin : Same H (upd H3 df (.dK kf)) := fun b o e => by
            by_cases hb : b = df
            · subst hb
              rw [upd_same, ← hdf, e]
            · rw [upd_ne hb]
              exact s3 _ _ (s2 _ _ (sv _ _ e) hb)
          refine ⟨_, ⟨df, kf, _, hFF, s3 _ _ e2', rfl⟩, ?_⟩
          have el : upd H3 df (.dK kf) l = some (.lst ((F.map fun nf => hold s cs rs nf.2).map V.bl)) := by
            rw [upd_ne (ne_of_none e2' nl2).symm, e3', List.map_map]; rfl
          generalize upd H3 df (.dK kf) = H4 at fin el ⊢
          walk_at "rdf"
          refine rd_all el ?_
          have := k H4 fin
          unfold fitB at this
          rw [decide_eq_true ⟨c1, c2⟩, Bool.true_and] at this
          rw [List.all_map]
          exact this
      · rw [decide_eq_false (by omega : ¬ ((rs.length : Nat) : Int) + 1 = (ht : Int))]
        walk_at "rdf"
        have := k H (Same.refl _)
        unfold fitB at this
        rw [decide_eq_false (fun z => c2 z.2), Bool.false_and] at this
        exact this
    · rw [decide_eq_false (by omega : ¬ ((cs.length : Nat) : Int) + 1 = (wd : Int))]
      walk_at "rdf"
      have := k H (Same.refl _)
      unfold fitB at this
      rw [decide_eq_false (fun z => c1 z.1), Bool.false_and] at this
      exact this
end


section
variable {P : Program} {w : World} {K : PySem.W.Frag} {mg : Str → Option Value} {base : Heap} {t : Ad}
def sp_Lmade (C : Addr) : Sp := fun vs H Q _ => ∃ (p : Addr) (s : Int) (cs rs : List Int), vs = [.ref p] ∧ PlanAt true H p s cs rs ∧ ∀ x H', Same H H' → ClothAt C H' x s cs rs → Q (.ref x) H'
theorem ok_Lmade (T : Txt K mg t) : FnOk P w K mg base CX0 8 t.f_Lmade t.d_Lmade ["_law_plan"] (sp_Lmade t.a_Cloth) := by
  have G_ClothInit := ok_ClothInit (P := P) (w := w) (base := base) T
  refine T.F_Lmade.ok sc_Lmade (fun vs H Q E h => ?_) (fun cdv A outer s H vs Q E hr h => ?_)
  · obtain ⟨p, s, cs, rs, rfl, _⟩ := h; rfl
  · obtain ⟨p, s, cs, rs, rfl, pl, k⟩ := h
    obtain ⟨⟨c, r, hp, hc, hr'⟩, sh, bc, br⟩ := id pl
    refine ⟨_, (pss_one (ps_ret (pe_make T.mk_Cloth G_ClothInit (hr.mono (by first | decide | omega)) rfl T.mg_Cloth T.b_ClothInit .nil pass0 (pa_cons (pe_ix (ix_tupK K rfl) (pv 0) pe_int (fun _ _ => rfl)) (pa_cons (pe_callTy (cI_listK K rfl) rfl T.no_list (by rfl) (pa_cons (pe_ix (ix_tupK K rfl) (pv 0) pe_int (fun _ _ => rfl)) pa_nil)) (pa_cons (pe_callTy (cI_listK K rfl) rfl T.no_list (by rfl) (pa_cons (pe_ix (ix_tupK K rfl) (pv 0) pe_int (fun _ _ => rfl)) pa_nil)) pa_nil)))))), ?_⟩
    walk_at "rdf"
    refine rd_ixT (SqT.of hp) (v := .int s) rfl ?_
    walk_at "rdf"
    refine rd_ixT (SqT.of hp) (v := .ref c) rfl ?_
    walk_at "rdf"
    refine rd_listL hc fun l1 n1 => ?_
    have s1 := Same.new (o := HO.lst (cs.map V.int)) n1
    walk_at "rdf"
    refine rd_ixT (SqT.of (s1 _ _ hp)) (v := .ref r) rfl ?_
    walk_at "rdf"
    refine rd_listL (s1 _ _ hr') fun l2 n2 => ?_
    have s2 := Same.new (o := HO.lst (rs.map V.int)) n2
    walk_at "rdf"
    intro x dx nx ndx nex
    have s12 := s1.trans s2
    have h1 : upd (upd H l1 (.lst (cs.map V.int))) l2 (.lst (rs.map V.int)) l1 = some (.lst (cs.map V.int)) := s2 _ _ upd_same
    have h2 : upd (upd H l1 (.lst (cs.map V.int))) l2 (.lst (rs.map V.int)) l2 = some (.lst (rs.map V.int)) := upd_same
    generalize upd (upd H l1 (.lst (cs.map V.int))) l2 (.lst (rs.map V.int)) = H3 at h1 h2 s12 nx ndx ⊢
    have s3 : Same H3 (upd (upd H3 dx (.own x)) x (.ins t.a_Cloth dx [])) := (Same.new ndx).later nx
    refine ⟨x, dx, l1, l2, s, cs, rs, rfl, upd_same, s3 _ _ h1, s3 _ _ h2, sh, bc, br, fun H4 kp hC => ⟨rfl, ?_⟩⟩
    exact k x H4 (fun b o e => kp b o (s3 b o (s12 b o e)) (ne_of_none (s12 b o e) nx)) hC
def sp_Lfalse : Sp := fun vs H Q _ => ∃ (p : Addr) (f : Fct), vs = [.ref p] ∧ H p = some (.tup f.vs) ∧ ∀ a H', Same H H' → H' a = some (.tup f.neg.vs) → Q (.ref a) H'
theorem ok_Lfalse (T : Txt K mg t) : FnOk P w K mg base CX0 1 t.f_Lfalse t.d_Lfalse ["_law_fact_here"] sp_Lfalse := by
  refine T.F_Lfalse.ok sc_Lfalse (fun vs H Q E h => ?_) (fun cdv A outer s H vs Q E hr h => ?_)
  · obtain ⟨p, f, rfl, _⟩ := h; rfl
  · obtain ⟨p, f, rfl, hp, k⟩ := h
    refine ⟨_, (pss_cons (ps_if (pt_cmpR op_eq (pe_ix (ix_tupK K rfl) (pv 0) pe_int (fun _ _ => rfl)) pe_str (nomark _)) (pss_one (ps_ret (pe_op (op_catTK K rfl) (pe_slice (sl_tupK K rfl) (pv 0) po_none (po_some pe_int)) (pe_tup (pa_cons (pe_op op_sub pe_int (pe_ix (ix_tupK K rfl) (pv 0) pe_int (fun _ _ => rfl))) pa_nil))))) pss_nil) (pss_one (ps_ret (pe_op (op_catTK K rfl) (pe_slice (sl_tupK K rfl) (pv 0) po_none (po_some pe_int)) (pe_tup (pa_cons (pe_not (pe_ix (ix_tupK K rfl) (pv 0) pe_int (fun _ _ => rfl))) pa_nil)))))), ?_⟩
    cases f with
    | cell x y c =>
      walk_at "rdf"
      refine rd_ixT (SqT.of hp) (v := .str "cell") rfl ?_
      walk_at "rdf"
      rw [decide_eq_true (rfl : ("cell" : Str) = "cell")]
      walk_at "rdf"
      refine rd_slT hp fun H1 u s1 hu => ?_
      replace hu : H1 u = some (.tup [V.str "cell", V.int x, V.int y]) := hu
      walk_at "rdf"
      refine rd_ixT (SqT.of (s1 _ _ hp)) (v := .int c) rfl ?_
      walk_at "rdf"
      refine ⟨by show 1 ≤ sizeLine; decide, fun u2 nu2 => ?_⟩
      have su2 := Same.new (o := HO.tup [V.int (1 - c)]) nu2
      have eu2 := upd_same (H := H1) (a := u2) (o := HO.tup [V.int (1 - c)])
      generalize upd H1 u2 (HO.tup [V.int (1 - c)]) = H2 at su2 eu2 ⊢
      refine rd_catT (su2 _ _ hu) eu2 (by simp) (by simp) (by show 3 + 1 ≤ sizeLine; decide) fun a na => ?_
      exact k a _ (s1.trans (su2.trans (Same.new na))) upd_same
    | line col kk st b =>
      walk_at "rdf"
      refine rd_ixT (SqT.of hp) (v := .str (wyS col)) rfl ?_
      walk_at "rdf"
      rw [wy_cell]
      walk_at "rdf"
      refine rd_slT hp fun H1 u s1 hu => ?_
      replace hu : H1 u = some (.tup [V.str (wyS col), V.int kk, V.int st]) := hu
      walk_at "rdf"
      refine rd_ixT (SqT.of (s1 _ _ hp)) (v := .bl b) rfl ?_
      walk_at "rdf"
      refine ⟨by show 1 ≤ sizeLine; decide, fun u2 nu2 => ?_⟩
      have su2 := Same.new (o := HO.tup [V.bl (!b)]) nu2
      have eu2 := upd_same (H := H1) (a := u2) (o := HO.tup [V.bl (!b)])
      generalize upd H1 u2 (HO.tup [V.bl (!b)]) = H2 at su2 eu2 ⊢
      refine rd_catT (su2 _ _ hu) eu2 (by simp) (by simp) (by show 3 + 1 ≤ sizeLine; decide) fun a na => ?_
      exact k a _ (s1.trans (su2.trans (Same.new na))) upd_same
def sp_Lholds : Sp := fun vs H Q _ => ∃ (q p : Addr) (s : Int) (cs rs : List Int) (f : Fct), vs = [.ref q, .ref p] ∧ PlanAt true H q s cs rs ∧ H p = some (.tup f.vs) ∧ f.inW ((cs.length : Int) + 1) ((rs.length : Int) + 1) ∧ ∀ H', Same H H' → Q (.bl (hold s cs rs f)) H'
theorem ok_Lholds (T : Txt K mg t) : FnOk P w K mg base CX0 2 t.f_Lholds t.d_Lholds ["_law_plan", "_law_fact_here"] sp_Lholds := by
  have G_Lvalue := ok_Lvalue (P := P) (w := w) (base := base) T
  have G_Lsewn := ok_Lsewn (P := P) (w := w) (base := base) T
  refine T.F_Lholds.ok sc_Lholds (fun vs H Q E h => ?_) (fun cdv A outer s H vs Q E hr h => ?_)
  · obtain ⟨q, p, s, cs, rs, f, rfl, _⟩ := h; rfl
  · obtain ⟨q, p, s, cs, rs, f, rfl, pl, hp, hi, k⟩ := h
    have lc := pl.bc.1
    refine ⟨_, (pss_cons (ps_if (pt_cmpR op_eq (pe_ix (ix_tupK K rfl) (pv 1) pe_int (fun _ _ => rfl)) pe_str (nomark _)) (pss_one (ps_ret (pe_cmpR op_eq (pe_call G_Lvalue (hr.mono (by first | decide | omega)) rfl T.mg_Lvalue T.F_Lvalue.kp T.b_Lvalue .nil pass0 (pa_cons (pv 0) (pa_cons (pe_ix (ix_tupK K rfl) (pv 1) pe_int (fun _ _ => rfl)) (pa_cons (pe_ix (ix_tupK K rfl) (pv 1) pe_int (fun _ _ => rfl)) pa_nil)))) (pe_ix (ix_tupK K rfl) (pv 1) pe_int (fun _ _ => rfl)) (nomark _)))) pss_nil) (pss_one (ps_ret (pe_cmpR op_eq (pe_call G_Lsewn (hr.mono (by first | decide | omega)) rfl T.mg_Lsewn T.F_Lsewn.kp T.b_Lsewn .nil pass0 (pa_cons (pv 0) (pa_cons (pe_ix (ix_tupK K rfl) (pv 1) pe_int (fun _ _ => rfl)) (pa_cons (pe_ix (ix_tupK K rfl) (pv 1) pe_int (fun _ _ => rfl)) (pa_cons (pe_ix (ix_tupK K rfl) (pv 1) pe_int (fun _ _ => rfl)) pa_nil))))) (pe_ix (ix_tupK K rfl) (pv 1) pe_int (fun _ _ => rfl)) (nomark _))))), ?_⟩
    cases f with
    | cell x y c =>
      obtain ⟨⟨x0, x1⟩, ⟨y0, y1⟩, _⟩ := hi
      walk_at "rdf"
      refine rd_ixT (SqT.of hp) (v := .str "cell") rfl ?_
      walk_at "rdf"
      rw [decide_eq_true (rfl : ("cell" : Str) = "cell")]
      walk_at "rdf"
      refine rd_ixT (SqT.of hp) (v := .int x) rfl ?_
      walk_at "rdf"
      refine rd_ixT (SqT.of hp) (v := .int y) rfl ?_
      walk_at "rdf"
      refine ⟨q, x, y, s, cs, rs, rfl, pl, x0, by omega, y0, fun H1 s1 => ?_⟩
      walk_at "rdf"
      refine rd_ixT (SqT.of (s1 _ _ hp)) (v := .int c) rfl ?_
      walk_at "rdf"
      exact k H1 s1
    | line col kk st b =>
      have hk : 0 ≤ kk ∧ kk < (bitsOf col cs rs).length := by
        cases col
        · obtain ⟨⟨u1, u2⟩, u3, u4⟩ := hi; exact ⟨u1, by show kk < (rs.length : Int); omega⟩
        · obtain ⟨⟨u1, u2⟩, u3, u4⟩ := hi; exact ⟨u1, by show kk < (cs.length : Int); omega⟩
      walk_at "rdf"
      refine rd_ixT (SqT.of hp) (v := .str (wyS col)) rfl ?_
      walk_at "rdf"
      rw [wy_cell]
      walk_at "rdf"
      refine rd_ixT (SqT.of hp) (v := .str (wyS col)) rfl ?_
      walk_at "rdf"
      refine rd_ixT (SqT.of hp) (v := .int kk) rfl ?_
      walk_at "rdf"
      refine rd_ixT (SqT.of hp) (v := .int st) rfl ?_
      walk_at "rdf"
      refine ⟨q, col, kk, st, s, cs, rs, rfl, pl, hk.1, hk.2, ?_⟩
      walk_at "rdf"
      refine rd_ixT (SqT.of hp) (v := .bl b) rfl ?_
      walk_at "rdf"
      exact k H (Same.refl _)
/-! other plans -/
def flipA (cs : List Int) (i : Nat) : List Int := cs.take i ++ [1 - cs.getD i 0] ++ cs.drop (i + 1)
theorem flipA_len {cs : List Int} {i : Nat} (h : i < cs.length) : (flipA cs i).length = cs.length := by
  unfold flipA
  simp only [List.length_append, List.length_take, List.length_drop, List.length_cons, List.length_nil]
  omega
theorem flipA_bits {cs : List Int} {i : Nat} (h : i < cs.length) (b : Bits cs) : Bits (flipA cs i) := by
  refine ⟨by rw [flipA_len h]; exact b.1, fun z hz => ?_⟩
  unfold flipA at hz
  rcases List.mem_append.mp hz with hz | hz
  · rcases List.mem_append.mp hz with hz | hz
    · exact b.2 z (List.mem_of_mem_take hz)
    · have e := List.mem_singleton.mp hz
      have g : cs.getD i 0 = 0 ∨ cs.getD i 0 = 1 := by
        rw [List.getD_eq_getElem?_getD, List.getElem?_eq_getElem h]
        exact b.2 _ (List.getElem_mem h)
      omega
  · exact b.2 z (List.mem_of_mem_drop hz)
def OthAt (H : Hp) (ps : List V) (m n : Nat) : Prop := ∀ v ∈ ps, ∃ a s' cs' rs', v = .ref a ∧ PlanAt true H a s' cs' rs' ∧ cs'.length = m ∧ rs'.length = n
theorem OthAt.mono {H H' : Hp} {ps : List V} {m n : Nat} (h : OthAt H ps m n) (s : Same H H') : OthAt H' ps m n := fun v hv =>
  let ⟨a, s', cs', rs', e, p, q⟩ := h v hv; ⟨a, s', cs', rs', e, p.mono s, q⟩
/-- all but the list at l stays -/
theorem OthAt.upd {H : Hp} {l : Addr} {xs ys : List V} {ps : List V} {m n : Nat} (h : OthAt H ps m n) (e : H l = some (.lst xs)) (nl : ∀ v ∈ ps, ∀ a s' cs' rs', v = .ref a → PlanAt true H a s' cs' rs' → ∀ c r, H a = some (.tup [.int s', .ref c, .ref r]) → c ≠ l ∧ r ≠ l) : OthAt (L2.upd H l (.lst ys)) ps m n := fun v hv => by
  obtain ⟨a, s', cs', rs', e1, p, q⟩ := h v hv
  obtain ⟨⟨c, r, h1, h2, h3⟩, x, y, z⟩ := id p
  have nn := nl v hv a s' cs' rs' e1 p c r h1
  refine ⟨a, s', cs', rs', e1, ⟨⟨c, r, ?_, ?_, ?_⟩, x, y, z⟩, q⟩
  · rw [upd_ne (fun z => by rw [z, e] at h1; cases h1)]; exact h1
  · rw [upd_ne nn.1]; exact h2
  · rw [upd_ne nn.2]; exact h3
end


section
variable {P : Program} {w : World} {K : PySem.W.Frag} {mg : Str → Option Value} {base : Heap} {t : Ad}
/-- a list that is new to H, with other plans in it -/
def OthL (H0 H : Hp) (l : Addr) (k m n : Nat) : Prop := ∃ ps, H0 l = none ∧ H l = some (.lst ps) ∧ ps.length ≤ k ∧ OthAt H ps m n ∧ ∀ v ∈ ps, ∀ a, v = .ref a → ∀ s' c r, H a = some (.tup [.int s', .ref c, .ref r]) → c ≠ l ∧ r ≠ l
theorem OthL.mono {H0 H H' : Hp} {l : Addr} {k m n : Nat} (h : OthL H0 H l k m n) (s : Same H H') : OthL H0 H' l k m n := by
  obtain ⟨ps, h1, h2, h3, h4, h5⟩ := h
  refine ⟨ps, h1, s _ _ h2, h3, h4.mono s, fun v hv a e s' c r ha => ?_⟩
  obtain ⟨a', s'', cs', rs', e', ⟨⟨c', r', q1, _⟩, _⟩, _⟩ := h4 v hv
  rw [e] at e'
  cases e'
  have q2 := s _ _ q1
  rw [ha] at q2
  cases q2
  exact h5 v hv a e _ c r q1
theorem OthL.snoc {H0 H : Hp} {l b c r : Addr} {ps : List V} {k m n : Nat} {s : Int} {cs rs : List Int} (n0 : H0 l = none) (e : H l = some (.lst ps)) (lk : ps.length ≤ k) (o : OthAt H ps m n) (nl : ∀ v ∈ ps, ∀ a, v = .ref a → ∀ s' c r, H a = some (.tup [.int s', .ref c, .ref r]) → c ≠ l ∧ r ≠ l)
    (hb : H b = some (.tup [.int s, .ref c, .ref r])) (hc : H c = some (.lst (cs.map V.int))) (hr : H r = some (.lst (rs.map V.int))) (cl : c ≠ l) (rl : r ≠ l) (sh : s = 0 ∨ s = 1) (bc : Bits cs) (br : Bits rs) (lc : cs.length = m) (lr : rs.length = n) :
    OthL H0 (L2.upd H l (.lst (ps ++ [.ref b]))) l (k + 1) m n := by
  have bl : b ≠ l := fun z => by rw [z, e] at hb; cases hb
  refine ⟨_, n0, upd_same, by rw [List.length_append]; show ps.length + 1 ≤ _; omega, fun v hv => ?_, fun v hv a ea s' c' r' ha => ?_⟩
  · rcases List.mem_append.mp hv with hv | hv
    · exact (o.upd (ys := ps ++ [.ref b]) e fun v hv a s' cs' rs' ea p c r h => nl v hv a ea s' c r h) v hv
    · rw [List.mem_singleton.mp hv]
      refine ⟨b, s, cs, rs, rfl, ⟨⟨c, r, ?_, ?_, ?_⟩, sh, bc, br⟩, lc, lr⟩
      · rw [upd_ne bl]; exact hb
      · rw [upd_ne cl]; exact hc
      · rw [upd_ne rl]; exact hr
  · have al : a ≠ l := fun z => by rw [z, upd_same] at ha; cases ha
    rw [upd_ne al] at ha
    rcases List.mem_append.mp hv with hv | hv
    · exact nl v hv a ea s' c' r' ha
    · have := List.mem_singleton.mp hv
      rw [ea] at this
      cases this
      rw [hb] at ha
      cases ha
      exact ⟨cl, rl⟩
def sp_Lothers : Sp := fun vs H Q _ => ∃ (q a : Addr) (zs : List Int) (s : Int) (cs rs : List Int), vs = [.ref q, .ref a] ∧ PlanAt true H q s cs rs ∧ H a = some (.lst (zs.map V.int)) ∧ 2 ≤ zs.length ∧ ∀ l H', Same H H' → OthL H H' l 3 cs.length rs.length → Q (.ref l) H'
theorem ok_Lothers (T : Txt K mg t) : FnOk P w K mg base CX0 1 t.f_Lothers t.d_Lothers ["_law_plan", "_law_some"] sp_Lothers := by
  refine T.F_Lothers.ok sc_Lothers (fun vs H Q E h => ?_) (fun cdv A outer s H vs Q E hr h => ?_)
  · obtain ⟨q, a, zs, s, cs, rs, rfl, _⟩ := h; rfl
  · obtain ⟨q, a, zs, s, cs, rs, rfl, pl, ha, lz, k⟩ := h
    obtain ⟨⟨c, r, hq, hc, hr'⟩, sh, bc, br⟩ := id pl
    have lc := bc.1
    have lr := br.1
    refine cutC (ps_set (i := 2) sc_Lothers.nd rfl (Or.inl rfl) (pe_lst (pa_cons (pe_tup (pa_cons (pe_op op_sub pe_int (pe_ix (ix_tupK K rfl) (pv 0) pe_int (fun _ _ => rfl))) (pa_cons (pe_ix (ix_tupK K rfl) (pv 0) pe_int (fun _ _ => rfl)) (pa_cons (pe_ix (ix_tupK K rfl) (pv 0) pe_int (fun _ _ => rfl)) pa_nil)))) pa_nil))) fun _ _ => cutC (ps_join (ps_if (pt_cmpR (op_neD hr.units) (pe_ix (ix_tupK K rfl) (pv 0) pe_int (fun _ _ => rfl)) (pe_lst pa_nil) (nomark _)) (pss_cons (ps_set (i := 3) sc_Lothers.nd rfl (Or.inl rfl) (pe_op op_mod (pe_ix (ix_listK K rfl) (pv 1) pe_int (fun _ _ => rfl)) (pe_callB (cI_lenK K rfl) rfl T.no_len (by rfl) (pa_cons (pe_ix (ix_tupK K rfl) (pv 0) pe_int (fun _ _ => rfl)) pa_nil)))) (pss_one (ps_expr (pe_bm PySem.F.plainAttrs_list PySem.F.slot_list_append PySem.F.type_list_append mt_append (pv 2) (pa_cons (pe_tup (pa_cons (pe_ix (ix_tupK K rfl) (pv 0) pe_int (fun _ _ => rfl)) (pa_cons (pe_op op_cat (pe_op op_cat (pe_slice (sl_listK K rfl) (pe_ix (ix_tupK K rfl) (pv 0) pe_int (fun _ _ => rfl)) po_none (po_some (pv 3))) (pe_lst (pa_cons (pe_op op_sub pe_int (pe_ix (ix_listK K rfl) (pe_ix (ix_tupK K rfl) (pv 0) pe_int (fun _ _ => rfl)) (pv 3) (fun _ _ => rfl))) pa_nil))) (pe_slice (sl_listK K rfl) (pe_ix (ix_tupK K rfl) (pv 0) pe_int (fun _ _ => rfl)) (po_some (pe_op op_add (pv 3) pe_int)) po_none)) (pa_cons (pe_ix (ix_tupK K rfl) (pv 0) pe_int (fun _ _ => rfl)) pa_nil)))) pa_nil))))) pss_nil)) fun _ _ => cutC (ps_if (pt_cmpR (op_neD hr.units) (pe_ix (ix_tupK K rfl) (pv 0) pe_int (fun _ _ => rfl)) (pe_lst pa_nil) (nomark _)) (pss_cons (ps_set (i := 3) sc_Lothers.nd rfl (Or.inl rfl) (pe_op op_mod (pe_ix (ix_listK K rfl) (pv 1) pe_int (fun _ _ => rfl)) (pe_callB (cI_lenK K rfl) rfl T.no_len (by rfl) (pa_cons (pe_ix (ix_tupK K rfl) (pv 0) pe_int (fun _ _ => rfl)) pa_nil)))) (pss_one (ps_expr (pe_bm PySem.F.plainAttrs_list PySem.F.slot_list_append PySem.F.type_list_append mt_append (pv 2) (pa_cons (pe_tup (pa_cons (pe_ix (ix_tupK K rfl) (pv 0) pe_int (fun _ _ => rfl)) (pa_cons (pe_ix (ix_tupK K rfl) (pv 0) pe_int (fun _ _ => rfl)) (pa_cons (pe_op op_cat (pe_op op_cat (pe_slice (sl_listK K rfl) (pe_ix (ix_tupK K rfl) (pv 0) pe_int (fun _ _ => rfl)) po_none (po_some (pv 3))) (pe_lst (pa_cons (pe_op op_sub pe_int (pe_ix (ix_listK K rfl) (pe_ix (ix_tupK K rfl) (pv 0) pe_int (fun _ _ => rfl)) (pv 3) (fun _ _ => rfl))) pa_nil))) (pe_slice (sl_listK K rfl) (pe_ix (ix_tupK K rfl) (pv 0) pe_int (fun _ _ => rfl)) (po_some (pe_op op_add (pv 3) pe_int)) po_none)) pa_nil)))) pa_nil))))) pss_nil) fun _ _ => cutE (ps_ret (pv 2)) fun _ _ => ?_
    walk_at "rdf"
    refine rd_ixT (SqT.of hq) (v := .int s) rfl ?_
    walk_at "rdf"
    refine rd_ixT (SqT.of hq) (v := .ref c) rfl ?_
    walk_at "rdf"
    refine rd_ixT (SqT.of hq) (v := .ref r) rfl ?_
    walk_at "rdf"
    refine ⟨by show 3 ≤ sizeLine; decide, fun p1 np1 => ?_⟩
    have sp1 := Same.new (o := HO.tup [V.int (1 - s), V.ref c, V.ref r]) np1
    have ep1 := upd_same (H := H) (a := p1) (o := HO.tup [V.int (1 - s), V.ref c, V.ref r])
    generalize upd H p1 (HO.tup [V.int (1 - s), V.ref c, V.ref r]) = H1 at sp1 ep1 ⊢
    walk_at "rdf"
    refine ⟨by show 1 ≤ sizeLine; decide, fun l nl => ?_⟩
    have sl := Same.new (o := HO.lst [V.ref p1]) nl
    have el := upd_same (H := H1) (a := l) (o := HO.lst [V.ref p1])
    generalize upd H1 l (HO.lst [V.ref p1]) = H2 at sl el ⊢
    have s2 : Same H H2 := sp1.trans sl
    have nlH : H l = none := sp1.free nl
    have ol2 : OthL H H2 l 1 cs.length rs.length := by
      refine ⟨_, nlH, el, Nat.le_refl _, fun v hv => ?_, fun v hv a' ea s' c' r' h' => ?_⟩
      · rw [List.mem_singleton.mp hv]
        exact ⟨p1, 1 - s, cs, rs, rfl, ⟨⟨c, r, sl _ _ ep1, s2 _ _ hc, s2 _ _ hr'⟩, by omega, bc, br⟩, rfl, rfl⟩
      · have := List.mem_singleton.mp hv
        rw [ea] at this
        cases this
        rw [sl _ _ ep1] at h'
        cases h'
        exact ⟨ne_of_none hc nlH, ne_of_none hr' nlH⟩
    clear el ep1 sp1 np1 nl sl
    walk_at "rdf"
    refine rd_join (fun σ' H' => ∃ (o3 : Option V), σ' = [some (.ref q), some (.ref a), some (.ref l), o3] ∧ Same H H' ∧ OthL H H' l 2 cs.length rs.length) ?_ ?_
    · walk_at "rdf"
      refine rd_ixT (SqT.of (s2 _ _ hq)) (v := .ref c) rfl ?_
      walk_at "rdf"
      refine ⟨by show 0 ≤ sizeLine; decide, fun l3 nl3 => ?_⟩
      have sl3 := Same.new (o := HO.lst []) nl3
      have el3 := upd_same (H := H2) (a := l3) (o := HO.lst [])
      generalize upd H2 l3 (HO.lst []) = H3 at sl3 el3 ⊢
      have s3 := s2.trans sl3
      refine rd_neInts (ms := []) (s3 _ _ hc) el3 ?_
      have ol3 := ol2.mono sl3
      by_cases e0 : cs = []
      · rw [decide_eq_true e0]
        walk_at "rdf"
        obtain ⟨ps, h1, h2, h3, h4, h5⟩ := ol3
        exact ⟨_, rfl, s3, ps, h1, h2, by omega, h4, h5⟩
      · rw [decide_eq_false e0]
        have lp : 0 < cs.length := List.length_pos_iff.mpr e0
        walk_at "rdf"
        refine rd_ixL (SqL.of (s3 _ _ ha)) (atI_ints (i := 0) (by decide) (by omega)) ?_
        walk_at "rdf"
        refine rd_ixT (SqT.of (s3 _ _ hq)) (v := .ref c) rfl ?_
        walk_at "rdf"
        refine rd_lenL (s3 _ _ hc) ?_
        rw [List.length_map]
        walk_at "rdf"
        refine rd_I (show (0 : Int) < (cs.length : Nat) by omega) ?_
        generalize zs.getD (0 : Int).toNat 0 = z0
        have q0 := Int.emod_nonneg z0 (show ((cs.length : Nat) : Int) ≠ 0 by omega)
        have q1 := Int.emod_lt_of_pos z0 (show (0 : Int) < (cs.length : Nat) by omega)
        obtain ⟨ix, hix, ixl⟩ : ∃ ix : Nat, z0 % ((cs.length : Nat) : Int) = ix ∧ ix < cs.length := ⟨(z0 % ((cs.length : Nat) : Int)).toNat, by omega, by omega⟩
        rw [hix]
        walk_at "rdf"
        obtain ⟨ps, h1, h2, h3, h4, h5⟩ := ol3
        refine rd_bmL h2 ?_
        walk_at "rdf"
        refine rd_ixT (SqT.of (s3 _ _ hq)) (v := .int s) rfl ?_
        walk_at "rdf"
        refine rd_ixT (SqT.of (s3 _ _ hq)) (v := .ref c) rfl ?_
        walk_at "rdf"
        refine rd_slS (s3 _ _ hc) fun u4 H4 s4 _ e4 => ?_
        rw [cutV_take (by omega), Int.toNat_natCast] at e4
        have s04 := s3.trans s4
        walk_at "rdf"
        refine rd_ixT (SqT.of (s04 _ _ hq)) (v := .ref c) rfl ?_
        walk_at "rdf"
        refine rd_ixL (SqL.of (s04 _ _ hc)) (atI_ints (i := (ix : Int)) (by omega) (by omega)) ?_
        rw [Int.toNat_natCast]
        walk_at "rdf"
        refine ⟨by show 1 ≤ sizeLine; decide, fun u5 nu5 => ?_⟩
        have su5 := Same.new (o := HO.lst [V.int (1 - cs.getD ix 0)]) nu5
        have eu5 := upd_same (H := H4) (a := u5) (o := HO.lst [V.int (1 - cs.getD ix 0)])
        generalize upd H4 u5 (HO.lst [V.int (1 - cs.getD ix 0)]) = H5 at su5 eu5 ⊢
        have s05 := s04.trans su5
        refine rd_catS (zs := [1 - cs.getD ix 0].map V.int) (su5 _ _ e4) eu5 (by rw [List.length_map, List.length_take]; exact Nat.le_of_lt (small1000 (by show min ix cs.length + 1 ≤ 1000; omega))) fun u6 H6 s6 _ e6 => ?_
        rw [← List.map_append] at e6
        have s06 := s05.trans s6
        walk_at "rdf"
        refine rd_ixT (SqT.of (s06 _ _ hq)) (v := .ref c) rfl ?_
        walk_at "rdf"
        refine rd_slS (s06 _ _ hc) fun u7 H7 s7 _ e7 => ?_
        replace e7 : H7 u7 = some (.lst ((cs.drop (ix + 1)).map V.int)) := e7.trans (congrArg (fun x => some (HO.lst x)) (cutV_drop (k := ix + 1)))
        have s07 := s06.trans s7
        refine rd_catS (s7 _ _ e6) e7 (by rw [List.length_map, List.length_map, List.length_append, List.length_take, List.length_drop]; exact Nat.le_of_lt (small1000 (by show min ix cs.length + 1 + (cs.length - (ix + 1)) ≤ 1000; omega))) fun u8 H8 s8 n8 e8 => ?_
        rw [← List.map_append] at e8
        replace e8 : H8 u8 = some (.lst ((flipA cs ix).map V.int)) := e8
        have s08 := s07.trans s8
        walk_at "rdf"
        refine rd_ixT (SqT.of (s08 _ _ hq)) (v := .ref r) rfl ?_
        walk_at "rdf"
        refine ⟨by show 3 ≤ sizeLine; decide, fun p9 np9 => ?_⟩
        have sp9 := Same.new (o := HO.tup [V.int s, V.ref u8, V.ref r]) np9
        have ep9 := upd_same (H := H8) (a := p9) (o := HO.tup [V.int s, V.ref u8, V.ref r])
        generalize upd H8 p9 (HO.tup [V.int s, V.ref u8, V.ref r]) = H9 at sp9 ep9 ⊢
        have s09 := s08.trans sp9
        have s39 : Same H3 H9 := s4.trans (su5.trans (s6.trans (s7.trans (s8.trans sp9))))
        walk_at "rdf"
        refine rd_append (s39 _ _ h2) (small1000 (by omega)) ?_
        obtain ⟨ps', _, h2', _, h4', h5'⟩ := (show OthL H H3 l 1 cs.length rs.length from ⟨ps, h1, h2, h3, h4, h5⟩).mono s39
        rw [s39 _ _ h2] at h2'
        cases h2'
        have u8l : u8 ≠ l := (ne_of_none (s7 _ _ (s6 _ _ (su5 _ _ (s4 _ _ h2)))) n8).symm
        walk_at "rdf"
        exact ⟨_, rfl, fun b o e => by rw [upd_ne (ne_of_none e h1)]; exact s09 b o e, OthL.snoc h1 (s39 _ _ h2) h3 h4' h5' ep9 (sp9 _ _ e8) (s09 _ _ hr') u8l (ne_of_none hr' h1) sh (flipA_bits ixl bc) br (flipA_len ixl) rfl⟩
    · rintro σ' H2 ⟨o3, rfl, s2, ol2⟩
      walk_at "rdf"
      refine rd_ixT (SqT.of (s2 _ _ hq)) (v := .ref r) rfl ?_
      walk_at "rdf"
      refine ⟨by show 0 ≤ sizeLine; decide, fun l3 nl3 => ?_⟩
      have sl3 := Same.new (o := HO.lst []) nl3
      have el3 := upd_same (H := H2) (a := l3) (o := HO.lst [])
      generalize upd H2 l3 (HO.lst []) = H3 at sl3 el3 ⊢
      have s3 := s2.trans sl3
      refine rd_neInts (ms := []) (s3 _ _ hr') el3 ?_
      have ol3 := ol2.mono sl3
      by_cases e0 : rs = []
      · rw [decide_eq_true e0]
        walk_at "rdf"
        obtain ⟨ps, h1, h2, h3, h4, h5⟩ := ol3
        exact k l _ s3 ⟨ps, h1, h2, by omega, h4, h5⟩
      · rw [decide_eq_false e0]
        have lp : 0 < rs.length := List.length_pos_iff.mpr e0
        walk_at "rdf"
        refine rd_ixL (SqL.of (s3 _ _ ha)) (atI_ints (i := 1) (by decide) (by omega)) ?_
        walk_at "rdf"
        refine rd_ixT (SqT.of (s3 _ _ hq)) (v := .ref r) rfl ?_
        walk_at "rdf"
        refine rd_lenL (s3 _ _ hr') ?_
        rw [List.length_map]
        walk_at "rdf"
        refine rd_I (show (0 : Int) < (rs.length : Nat) by omega) ?_
        generalize zs.getD (1 : Int).toNat 0 = z0
        have q0 := Int.emod_nonneg z0 (show ((rs.length : Nat) : Int) ≠ 0 by omega)
        have q1 := Int.emod_lt_of_pos z0 (show (0 : Int) < (rs.length : Nat) by omega)
        obtain ⟨ix, hix, ixl⟩ : ∃ ix : Nat, z0 % ((rs.length : Nat) : Int) = ix ∧ ix < rs.length := ⟨(z0 % ((rs.length : Nat) : Int)).toNat, by omega, by omega⟩
        rw [hix]
        walk_at "rdf"
        obtain ⟨ps, h1, h2, h3, h4, h5⟩ := ol3
        refine rd_bmL h2 ?_
        walk_at "rdf"
        refine rd_ixT (SqT.of (s3 _ _ hq)) (v := .int s) rfl ?_
        walk_at "rdf"
        refine rd_ixT (SqT.of (s3 _ _ hq)) (v := .ref c) rfl ?_
        walk_at "rdf"
        refine rd_ixT (SqT.of (s3 _ _ hq)) (v := .ref r) rfl ?_
        walk_at "rdf"
        refine rd_slS (s3 _ _ hr') fun u4 H4 s4 _ e4 => ?_
        rw [cutV_take (by omega), Int.toNat_natCast] at e4
        have s04 := s3.trans s4
        walk_at "rdf"
        refine rd_ixT (SqT.of (s04 _ _ hq)) (v := .ref r) rfl ?_
        walk_at "rdf"
        refine rd_ixL (SqL.of (s04 _ _ hr')) (atI_ints (i := (ix : Int)) (by omega) (by omega)) ?_
        rw [Int.toNat_natCast]
        walk_at "rdf"
        refine ⟨by show 1 ≤ sizeLine; decide, fun u5 nu5 => ?_⟩
        have su5 := Same.new (o := HO.lst [V.int (1 - rs.getD ix 0)]) nu5
        have eu5 := upd_same (H := H4) (a := u5) (o := HO.lst [V.int (1 - rs.getD ix 0)])
        generalize upd H4 u5 (HO.lst [V.int (1 - rs.getD ix 0)]) = H5 at su5 eu5 ⊢
        have s05 := s04.trans su5
        refine rd_catS (zs := [1 - rs.getD ix 0].map V.int) (su5 _ _ e4) eu5 (by rw [List.length_map, List.length_take]; exact Nat.le_of_lt (small1000 (by show min ix rs.length + 1 ≤ 1000; omega))) fun u6 H6 s6 _ e6 => ?_
        rw [← List.map_append] at e6
        have s06 := s05.trans s6
        walk_at "rdf"
        refine rd_ixT (SqT.of (s06 _ _ hq)) (v := .ref r) rfl ?_
        walk_at "rdf"
        refine rd_slS (s06 _ _ hr') fun u7 H7 s7 _ e7 => ?_
        replace e7 : H7 u7 = some (.lst ((rs.drop (ix + 1)).map V.int)) := e7.trans (congrArg (fun x => some (HO.lst x)) (cutV_drop (k := ix + 1)))
        have s07 := s06.trans s7
        refine rd_catS (s7 _ _ e6) e7 (by rw [List.length_map, List.length_map, List.length_append, List.length_take, List.length_drop]; exact Nat.le_of_lt (small1000 (by show min ix rs.length + 1 + (rs.length - (ix + 1)) ≤ 1000; omega))) fun u8 H8 s8 n8 e8 => ?_
        rw [← List.map_append] at e8
        replace e8 : H8 u8 = some (.lst ((flipA rs ix).map V.int)) := e8
        have s08 := s07.trans s8
        walk_at "rdf"
        refine ⟨by show 3 ≤ sizeLine; decide, fun p9 np9 => ?_⟩
        have sp9 := Same.new (o := HO.tup [V.int s, V.ref c, V.ref u8]) np9
        have ep9 := upd_same (H := H8) (a := p9) (o := HO.tup [V.int s, V.ref c, V.ref u8])
        generalize upd H8 p9 (HO.tup [V.int s, V.ref c, V.ref u8]) = H9 at sp9 ep9 ⊢
        have s09 := s08.trans sp9
        have s39 : Same H3 H9 := s4.trans (su5.trans (s6.trans (s7.trans (s8.trans sp9))))
        walk_at "rdf"
        refine rd_append (s39 _ _ h2) (small1000 (by omega)) ?_
        obtain ⟨ps', _, h2', _, h4', h5'⟩ := (show OthL H H3 l 2 cs.length rs.length from ⟨ps, h1, h2, h3, h4, h5⟩).mono s39
        rw [s39 _ _ h2] at h2'
        cases h2'
        have u8l : u8 ≠ l := (ne_of_none (s7 _ _ (s6 _ _ (su5 _ _ (s4 _ _ h2)))) n8).symm
        walk_at "rdf"
        exact k l _ (fun b o e => by rw [upd_ne (ne_of_none e h1)]; exact s09 b o e) (OthL.snoc h1 (s39 _ _ h2) h3 h4' h5' ep9 (s09 _ _ hc) (sp9 _ _ e8) (ne_of_none hc h1) u8l sh bc (flipA_bits ixl br) rfl (flipA_len ixl))
end


section
variable {P : Program} {w : World} {K : PySem.W.Frag} {mg : Str → Option Value} {base : Heap} {t : Ad}
theorem cutV_m1 {zs : List Int} : cutV (zs.map V.int) none (some (-1)) = (zs.take (zs.length - 1)).map V.int := by
  unfold cutV
  rw [HT.sIx_none, List.drop_zero, Nat.sub_zero, List.length_map, List.map_take]
  congr 1
  unfold HT.sIx
  simp
  omega
theorem ClothAt.but {C : Addr} {S : List Addr} {H H' : Hp} {p : Addr} {s : Int} {cs rs : List Int} (c : ClothAt C H p s cs rs) (m : ButL S H H') (n : NoT H S) (hp : p ∉ S) : ClothAt C H' p s cs rs := by
  obtain ⟨dx, a, b, q1, q2, q3⟩ := c.ob
  exact ⟨⟨dx, a, b, m _ _ q1 hp, but_tup m n q2, but_tup m n q3⟩⟩
theorem OthAt.but {S : List Addr} {H H' : Hp} {ps : List V} {m n : Nat} (h : OthAt H ps m n) (b : ButL S H H') (o : OutS H S) : OthAt H' ps m n := fun v hv =>
  let ⟨a, s', cs', rs', e, p, q⟩ := h v hv; ⟨a, s', cs', rs', e, p.but b o, q⟩
theorem outF_drop {F : List (Int × Fct)} (nd : (F.map (·.1)).Nodup) {i : Nat} {nf : Int × Fct} (h : F[i]? = some nf) : outF (F.drop i) nf.1 = F.drop (i + 1) := by
  obtain ⟨hl, rfl⟩ := List.getElem?_eq_some_iff.mp h
  have nd2 : ((F.drop i).map (·.1)).Nodup := nd.sublist (List.Sublist.map _ (List.drop_sublist i F))
  rw [List.drop_eq_getElem_cons hl] at nd2 ⊢
  rw [List.map_cons, List.nodup_cons] at nd2
  unfold outF
  rw [List.filter_cons, if_neg (by simp)]
  refine List.filter_eq_self.mpr fun g hg => decide_eq_true fun z => nd2.1 ?_
  rw [← z]
  exact List.mem_map.mpr ⟨g, hg, rfl⟩
theorem fitB_nil {s : Int} {cs rs : List Int} {wd ht : Nat} : fitB s cs rs wd ht [] = decide (cs.length + 1 = wd ∧ rs.length + 1 = ht) := by
  unfold fitB; rw [List.all_nil, Bool.and_true]
theorem same_b {H : Hp} {Q : VK} {E : XK} {a b : Bool} (e : a = b) (q : ∀ H', Same H H' → Q (.bl true) H') : sp_same Ok3 [.bl a, .bl b] H Q E := by
  subst e
  exact ⟨.bl a, .bl a, .bool a, rfl, okS_bool a, rfl, rfl, q⟩
def sp_law (K : PySem.W.Frag) : Sp := fun vs H Q _ => ∃ (a : Addr) (ns : List Int), vs = [.ref a] ∧ SqL K H a (ns.map V.int) ∧ ns.length ≤ 63 ∧ ∀ H', Q (.bl true) H'
theorem ok_law (T : Txt K mg t) : FnOk P w K mg base CX0 13 t.f_law t.d_law ["_law_script"] (sp_law K) := by
  have G_Ldraws := ok_Ldraws (P := P) (w := w) (base := base) T
  have G_Lsmall := ok_Lsmall (P := P) (w := w) (base := base) T
  have G_Lmade := ok_Lmade (P := P) (w := w) (base := base) T
  have G_FindsInit := ok_FindsInit (P := P) (w := w) (base := base) T
  have G_Lfilled := ok_Lfilled (P := P) (w := w) (base := base) T
  have G_shows := ok_shows (P := P) (w := w) (base := base) T
  have G_Lfalse := ok_Lfalse (P := P) (w := w) (base := base) T
  have G_Lsame := ok_Lsame (P := P) (w := w) (base := base) T
  have G_Findsfits := ok_Findsfits (P := P) (w := w) (base := base) T
  have G_Findswithdraw := ok_Findswithdraw (P := P) (w := w) (base := base) T
  have G_Lothers := ok_Lothers (P := P) (w := w) (base := base) T
  have G_Lholds := ok_Lholds (P := P) (w := w) (base := base) T
  refine T.F_law.ok sc_law (fun vs H Q E h => ?_) (fun cdv A outer s H vs Q E hr h => ?_)
  · obtain ⟨a, ns, rfl, _⟩ := h; rfl
  · obtain ⟨a, ns, rfl, hS, hl, z⟩ := h
    refine cutC (ps_set (i := 1) sc_law.nd rfl (Or.inl rfl) (pe_call G_Ldraws (hr.mono (by first | decide | omega)) rfl T.mg_Ldraws T.F_Ldraws.kp T.b_Ldraws .nil pass0 (pa_cons (pv 0) (pa_cons pe_int pa_nil)))) fun _ _ => cutC (ps_set (i := 2) sc_law.nd rfl (Or.inl rfl) (pe_call G_Lsmall (hr.mono (by first | decide | omega)) rfl T.mg_Lsmall T.F_Lsmall.kp T.b_Lsmall .nil pass0 (pa_cons (pv 1) pa_nil))) fun _ _ => cutC (ps_set (i := 3) sc_law.nd rfl (Or.inl rfl) (pe_call G_Lmade (hr.mono (by first | decide | omega)) rfl T.mg_Lmade T.F_Lmade.kp T.b_Lmade .nil pass0 (pa_cons (pv 2) pa_nil))) fun _ _ => cutC (ps_set (i := 4) sc_law.nd rfl (Or.inl rfl) (pe_make T.mk_Finds G_FindsInit (hr.mono (by first | decide | omega)) rfl T.mg_Finds T.b_FindsInit .nil pass0 (pa_cons (pe_op op_add (pe_callB (cI_lenK K rfl) rfl T.no_len (by rfl) (pa_cons (pe_ix (ix_tupK K rfl) (pv 2) pe_int (fun _ _ => rfl)) pa_nil)) pe_int) (pa_cons (pe_op op_add (pe_callB (cI_lenK K rfl) rfl T.no_len (by rfl) (pa_cons (pe_ix (ix_tupK K rfl) (pv 2) pe_int (fun _ _ => rfl)) pa_nil)) pe_int) pa_nil)))) fun _ _ => cutC (ps_set (i := 5) sc_law.nd rfl (Or.inl rfl) (pe_call G_Lfilled (hr.mono (by first | decide | omega)) rfl T.mg_Lfilled T.F_Lfilled.kp T.b_Lfilled .nil pass0 (pa_cons (pv 4) (pa_cons (pv 2) (pa_cons (pe_slice (sl_listK K rfl) (pv 1) (po_some pe_int) po_none) (pa_cons (pe_op op_mod (pe_ix (ix_listK K rfl) (pv 1) pe_int (fun _ _ => rfl)) pe_int) pa_nil)))))) fun _ _ => cutC (ps_for PassesOwn.never rfl (pi_list (pv 5)) (pg_tupK (n := 2) K rfl rfl (pgs_cons (pg_name (i := 6) sc_law.nd rfl (Or.inl rfl)) (pgs_cons (pg_name (i := 7) sc_law.nd rfl (Or.inl rfl)) pgs_nil))) (pss_one (ps_if (PW.pt (pw_or (pt_not (pt_val (pe_call G_Lsame (hr.mono (by first | decide | omega)) rfl T.mg_Lsame T.F_Lsame.kp T.b_Lsame .nil pass0 (pa_cons (pe_call G_shows (hr.mono (by first | decide | omega)) rfl T.mg_shows T.F_shows.kp T.b_shows .nil pass0 (pa_cons (pv 3) (pa_cons (pv 7) pa_nil))) (pa_cons pe_bl pa_nil))))) (pw_or1 (pt_not (pt_val (pe_call G_Lsame (hr.mono (by first | decide | omega)) rfl T.mg_Lsame T.F_Lsame.kp T.b_Lsame .nil pass0 (pa_cons (pe_call G_shows (hr.mono (by first | decide | omega)) rfl T.mg_shows T.F_shows.kp T.b_shows .nil pass0 (pa_cons (pv 3) (pa_cons (pe_call G_Lfalse (hr.mono (by first | decide | omega)) rfl T.mg_Lfalse T.F_Lfalse.kp T.b_Lfalse .nil pass0 (pa_cons (pv 7) pa_nil)) pa_nil))) (pa_cons pe_bl pa_nil)))))))) (pss_one (ps_ret pe_bl)) pss_nil))) fun _ _ => cutC (ps_if (pt_not (pt_val (pe_call G_Lsame (hr.mono (by first | decide | omega)) rfl T.mg_Lsame T.F_Lsame.kp T.b_Lsame .nil pass0 (pa_cons (pe_meth (pv 4) T.cl_Finds T.m_Findsfits G_Findsfits (hr.mono (by first | decide | omega)) T.b_Findsfits .nil pass0 (pa_cons (pv 3) pa_nil)) (pa_cons pe_bl pa_nil))))) (pss_one (ps_ret pe_bl)) pss_nil) fun _ _ => cutC (ps_set (i := 8) sc_law.nd rfl (Or.inl rfl) (pe_call G_Lothers (hr.mono (by first | decide | omega)) rfl T.mg_Lothers T.F_Lothers.kp T.b_Lothers .nil pass0 (pa_cons (pv 2) (pa_cons (pe_slice (sl_listK K rfl) (pv 1) (po_some pe_int) po_none) pa_nil)))) fun _ _ => cutC (ps_for PassesOwn.never rfl (pi_list (pv 8)) (pg_name (i := 9) sc_law.nd rfl (Or.inr rfl)) (pss_cons (ps_set (i := 10) sc_law.nd rfl (Or.inl rfl) (pe_callB (cI_allK K rfl rfl) rfl T.no_all (by rfl) (pa_cons (pe_comp (N := ["_law_number", "_law_fact_here", "_law_other"]) (cap := [none, none, some 9]) rfl ⟨rfl, rfl, rfl, rfl, rfl, rfl⟩ (pi_list (pv 5)) (fun _ _ _ => (pg_tupK (n := 2) K rfl rfl (pgs_cons (pg_name (i := 0) (show (["_law_number", "_law_fact_here", "_law_other"] : List Str).Nodup by decide +kernel) rfl (Or.inl rfl)) (pgs_cons (pg_name (i := 1) (show (["_law_number", "_law_fact_here", "_law_other"] : List Str).Nodup by decide +kernel) rfl (Or.inl rfl)) pgs_nil)))) (fun _ _ _ => pts_nil) (fun _ _ _ => (pe_call G_Lholds (hr.mono (by first | decide | omega)) rfl T.mg_Lholds T.F_Lholds.kp T.b_Lholds .nil pass0 (pa_cons (pv 2) (pa_cons (pv 1) pa_nil))))) pa_nil))) (pss_one (ps_if (pt_not (pt_val (pe_call G_Lsame (hr.mono (by first | decide | omega)) rfl T.mg_Lsame T.F_Lsame.kp T.b_Lsame .nil pass0 (pa_cons (pe_meth (pv 4) T.cl_Finds T.m_Findsfits G_Findsfits (hr.mono (by first | decide | omega)) T.b_Findsfits .nil pass0 (pa_cons (pe_call G_Lmade (hr.mono (by first | decide | omega)) rfl T.mg_Lmade T.F_Lmade.kp T.b_Lmade .nil pass0 (pa_cons (pv 9) pa_nil)) pa_nil)) (pa_cons (pv 10) pa_nil))))) (pss_one (ps_ret pe_bl)) pss_nil)))) fun _ _ => cutC (ps_set (i := 11) sc_law.nd rfl (Or.inl rfl) (pe_lst (pa_cons (pe_tup (pa_cons (pe_ix (ix_tupK K rfl) (pv 2) pe_int (fun _ _ => rfl)) (pa_cons (pe_slice (sl_listK K rfl) (pe_ix (ix_tupK K rfl) (pv 2) pe_int (fun _ _ => rfl)) po_none (po_some (pe_un un_neg pe_int))) (pa_cons (pe_ix (ix_tupK K rfl) (pv 2) pe_int (fun _ _ => rfl)) pa_nil)))) (pa_cons (pe_tup (pa_cons (pe_ix (ix_tupK K rfl) (pv 2) pe_int (fun _ _ => rfl)) (pa_cons (pe_ix (ix_tupK K rfl) (pv 2) pe_int (fun _ _ => rfl)) (pa_cons (pe_slice (sl_listK K rfl) (pe_ix (ix_tupK K rfl) (pv 2) pe_int (fun _ _ => rfl)) po_none (po_some (pe_un un_neg pe_int))) pa_nil)))) pa_nil)))) fun _ _ => cutC (ps_for PassesOwn.never rfl (pi_list (pv 11)) (pg_name (i := 9) sc_law.nd rfl (Or.inr rfl)) (pss_one (ps_if (PW.pt (pw_and (PW.pt (pw_or (pt_cmpR op_lt (pe_callB (cI_lenK K rfl) rfl T.no_len (by rfl) (pa_cons (pe_ix (ix_tupK K rfl) (pv 9) pe_int (fun _ _ => rfl)) pa_nil)) (pe_callB (cI_lenK K rfl) rfl T.no_len (by rfl) (pa_cons (pe_ix (ix_tupK K rfl) (pv 2) pe_int (fun _ _ => rfl)) pa_nil)) (nomark _)) (pw_or1 (pt_cmpR op_lt (pe_callB (cI_lenK K rfl) rfl T.no_len (by rfl) (pa_cons (pe_ix (ix_tupK K rfl) (pv 9) pe_int (fun _ _ => rfl)) pa_nil)) (pe_callB (cI_lenK K rfl) rfl T.no_len (by rfl) (pa_cons (pe_ix (ix_tupK K rfl) (pv 2) pe_int (fun _ _ => rfl)) pa_nil)) (nomark _))))) (pw_and1 (pt_val (pe_meth (pv 4) T.cl_Finds T.m_Findsfits G_Findsfits (hr.mono (by first | decide | omega)) T.b_Findsfits .nil pass0 (pa_cons (pe_call G_Lmade (hr.mono (by first | decide | omega)) rfl T.mg_Lmade T.F_Lmade.kp T.b_Lmade .nil pass0 (pa_cons (pv 9) pa_nil)) pa_nil)))))) (pss_one (ps_ret pe_bl)) pss_nil))) fun _ _ => cutC (ps_for PassesOwn.never rfl (pi_list (pv 5)) (pg_tupK (n := 2) K rfl rfl (pgs_cons (pg_name (i := 6) sc_law.nd rfl (Or.inl rfl)) (pgs_cons (pg_name (i := 7) sc_law.nd rfl (Or.inl rfl)) pgs_nil))) (pss_one (ps_expr (pe_meth (pv 4) T.cl_Finds T.m_Findswithdraw G_Findswithdraw (hr.mono (by first | decide | omega)) T.b_Findswithdraw .nil pass0 (pa_cons (pv 6) pa_nil))))) fun _ _ => cutC (ps_for PassesOwn.never rfl (pi_list (pv 8)) (pg_name (i := 9) sc_law.nd rfl (Or.inr rfl)) (pss_one (ps_if (pt_not (pt_val (pe_call G_Lsame (hr.mono (by first | decide | omega)) rfl T.mg_Lsame T.F_Lsame.kp T.b_Lsame .nil pass0 (pa_cons (pe_meth (pv 4) T.cl_Finds T.m_Findsfits G_Findsfits (hr.mono (by first | decide | omega)) T.b_Findsfits .nil pass0 (pa_cons (pe_call G_Lmade (hr.mono (by first | decide | omega)) rfl T.mg_Lmade T.F_Lmade.kp T.b_Lmade .nil pass0 (pa_cons (pv 9) pa_nil)) pa_nil)) (pa_cons pe_bl pa_nil))))) (pss_one (ps_ret pe_bl)) pss_nil))) fun _ _ => cutC (ps_for PassesOwn.never rfl (pi_list (pe_lst (pa_cons (pe_tup (pa_cons (pe_ix (ix_tupK K rfl) (pv 2) pe_int (fun _ _ => rfl)) (pa_cons (pe_slice (sl_listK K rfl) (pe_op op_cat (pe_ix (ix_tupK K rfl) (pv 2) pe_int (fun _ _ => rfl)) (pe_lst (pa_cons pe_int pa_nil))) po_none (po_some pe_int)) (pa_cons (pe_ix (ix_tupK K rfl) (pv 2) pe_int (fun _ _ => rfl)) pa_nil)))) (pa_cons (pe_tup (pa_cons (pe_ix (ix_tupK K rfl) (pv 2) pe_int (fun _ _ => rfl)) (pa_cons (pe_ix (ix_tupK K rfl) (pv 2) pe_int (fun _ _ => rfl)) (pa_cons (pe_slice (sl_listK K rfl) (pe_op op_cat (pe_ix (ix_tupK K rfl) (pv 2) pe_int (fun _ _ => rfl)) (pe_lst (pa_cons pe_int pa_nil))) po_none (po_some pe_int)) pa_nil)))) pa_nil)))) (pg_name (i := 9) sc_law.nd rfl (Or.inr rfl)) (pss_cons (ps_set (i := 12) sc_law.nd rfl (Or.inl rfl) (pe_and (pe_cmpR op_eq (pe_callB (cI_lenK K rfl) rfl T.no_len (by rfl) (pa_cons (pe_ix (ix_tupK K rfl) (pv 9) pe_int (fun _ _ => rfl)) pa_nil)) (pe_callB (cI_lenK K rfl) rfl T.no_len (by rfl) (pa_cons (pe_ix (ix_tupK K rfl) (pv 2) pe_int (fun _ _ => rfl)) pa_nil)) (nomark _)) (pe_one (pe_cmpR op_eq (pe_callB (cI_lenK K rfl) rfl T.no_len (by rfl) (pa_cons (pe_ix (ix_tupK K rfl) (pv 9) pe_int (fun _ _ => rfl)) pa_nil)) (pe_callB (cI_lenK K rfl) rfl T.no_len (by rfl) (pa_cons (pe_ix (ix_tupK K rfl) (pv 2) pe_int (fun _ _ => rfl)) pa_nil)) (nomark _))))) (pss_one (ps_if (pt_cmpR op_ne (pe_meth (pv 4) T.cl_Finds T.m_Findsfits G_Findsfits (hr.mono (by first | decide | omega)) T.b_Findsfits .nil pass0 (pa_cons (pe_call G_Lmade (hr.mono (by first | decide | omega)) rfl T.mg_Lmade T.F_Lmade.kp T.b_Lmade .nil pass0 (pa_cons (pv 9) pa_nil)) pa_nil)) (pv 12) (nomark _)) (pss_one (ps_ret pe_bl)) pss_nil)))) fun _ _ => cutE (ps_ret pe_bl) fun _ _ => ?_
    walk_at "rdf"
    refine ⟨a, 70, ns, rfl, hS, hl, by decide, fun ls zs H1 s1 es lz _ sm => ?_⟩
    walk_at "rdf"
    refine ⟨ls, zs, rfl, es, by omega, fun pp s cs rs H2 s2 pl => ?_⟩
    have es := s2 _ _ es
    walk_at "rdf"
    refine ⟨pp, s, cs, rs, rfl, pl, fun x H3 s3 hx => ?_⟩
    have es := s3 _ _ es
    have pl := pl.mono s3
    obtain ⟨⟨c, r, hq, hc, hr'⟩, sh, bc, br⟩ := id pl
    have lc := bc.1
    have lr := br.1
    obtain ⟨cdx, ca, cb, hxo, _, _⟩ := hx.ob
    walk_at "rdf"
    refine rd_ixT (SqT.of hq) (v := .ref c) rfl ?_
    walk_at "rdf"
    refine rd_lenL hc ?_
    rw [List.length_map]
    walk_at "rdf"
    refine rd_ixT (SqT.of hq) (v := .ref r) rfl ?_
    walk_at "rdf"
    refine rd_lenL hr' ?_
    rw [List.length_map]
    walk_at "rdf"
    intro f dx nx ndx nex
    have s6 : Same H3 (upd (upd H3 dx (.own f)) f (.ins t.a_Finds dx [])) := (Same.new ndx).later nx
    refine ⟨f, dx, cs.length + 1, rs.length + 1, rfl, upd_same, ⟨by omega, by omega⟩, ⟨by omega, by omega⟩, fun df dg H6 m6 n1 n2 f6 => ⟨rfl, ?_⟩⟩
    have nxf : x ∉ [f, df, dg] := fun z => by
      simp only [List.mem_cons, List.not_mem_nil, or_false] at z
      rcases z with rfl | rfl | rfl
      · exact absurd rfl (ne_of_none hxo nx)
      · exact absurd rfl (ne_of_none (s6 _ _ hxo) n1)
      · exact absurd rfl (ne_of_none (s6 _ _ hxo) n2)
    have s6 : Same H3 H6 := fun b o e => m6 b o (s6 b o e) (by rw [List.mem_singleton]; exact ne_of_none e nx)
    have es6 := s6 _ _ es
    have pl6 := pl.mono s6
    have hx6 := hx.mono s6
    walk_at "rdf"
    refine rd_slS es6 fun l7 H7 s7 _ e7 => ?_
    replace e7 : H7 l7 = some (.lst ((zs.drop 20).map V.int)) := e7.trans (congrArg (fun x => some (HO.lst x)) (cutV_drop (k := 20)))
    walk_at "rdf"
    refine rd_ixL (SqL.of (s7 _ _ es6)) (atI_ints (i := 12) (by decide) (by omega)) ?_
    walk_at "rdf"
    refine rd_I (by decide) ?_
    walk_at "rdf"
    generalize zs.getD (12 : Int).toNat 0 = z12
    refine ⟨f, pp, l7, df, dg, (z12 % 15).toNat, zs.drop 20, s, cs, rs, (by rw [show ((z12 % 15).toNat : Int) = z12 % 15 by omega]; rfl), pl6.mono s7, f6.mono s7, e7, by omega, by rw [List.length_drop]; omega, fun lf xs F n G H8 m8 nlf e8 pw8 f8 fo8 lF hn => ?_⟩
    have os7 := (f6.mono s7).outS
    have es8 := but_lst m8 os7 (s7 _ _ es6)
    have pl8 := (pl6.mono s7).but m8 os7
    have hx8 := (hx6.mono s7).but m8 os7.noT nxf
    have hin : ∀ nf ∈ F, nf.2.inW ((cs.length : Int) + 1) ((rs.length : Int) + 1) := fun nf hm => fo8.inw nf hm
    have htr : ∀ nf ∈ F, hold s cs rs nf.2 = true := fun nf hm => tr_hold bc br (hin nf hm) (fo8.tr nf hm)
    clear pl pl6 hq hc hr' s6 s7 e7 es6 m8 m6 f6 nlf hx hx6 hxo es os7
    walk_at "rdf"
    refine ⟨⟨_, SqL.of e8⟩, ?_⟩
    refine forW_list (K := K) (a := lf) (xs := xs) (fun i σ' H' => ∃ (o6 o7 : Option V), σ' = [some (.ref a), some (.ref ls), some (.ref pp), some (.ref x), some (.ref f), some (.ref lf), o6, o7, none, none, none, none, none] ∧ Same H8 H') ⟨none, none, rfl, Same.refl _⟩ ?_ ?_ ?_
    · rintro i σ' H' _ ⟨o6, o7, rfl, s9⟩
      exact SqL.of (s9 _ _ e8)
    · rintro i v σ' H9 hv ⟨o6, o7, rfl, s9⟩
      obtain ⟨b, fa, nf, rfl, hnf, hb, hfa⟩ := pw8.mem (List.mem_of_getElem? hv)
      refine rd_gtup (s9 _ _ hb) rfl ?_
      walk_at "rdf"
      refine ⟨x, fa, s, cs, rs, nf.2, rfl, hx8.mono s9, bc, br, s9 _ _ hfa, hin nf hnf, fun H10 s10 => ?_⟩
      walk_at "rdf"
      refine same_b (htr nf hnf) fun H11 s11 => ?_
      have s811 := s9.trans (s10.trans s11)
      walk_at "rdf"
      refine ⟨fa, nf.2, rfl, s811 _ _ hfa, fun fb H12 s12 hfb => ?_⟩
      walk_at "rdf"
      refine ⟨x, fb, s, cs, rs, nf.2.neg, rfl, hx8.mono (s811.trans s12), bc, br, hfb, Fct.inW_neg (hin nf hnf), fun H13 s13 => ?_⟩
      walk_at "rdf"
      refine same_b (by rw [hold_neg (hin nf hnf), htr nf hnf]; rfl) fun H14 s14 => ?_
      walk_at "rdf"
      exact ⟨_, _, rfl, s811.trans (s12.trans (s13.trans s14))⟩
    · rintro σ' H9 ⟨o6, o7, rfl, s9⟩
      have f9 := f8.mono s9
      obtain ⟨dx9, fs9, hp9, fl9⟩ := f9.ob
      walk_at "rdf"
      refine rd_methv hp9 (fl9.no _ (by decide +kernel)) ?_
      walk_at "rdf"
      refine ⟨f, x, df, dg, _, _, F, n, G, s, cs, rs, rfl, f9, fo8.inw, by omega, hx8.mono s9, bc, br, fun H10 s10 => ?_⟩
      walk_at "rdf"
      refine same_b (by unfold fitB; rw [decide_eq_true ⟨rfl, rfl⟩, Bool.true_and]; exact List.all_eq_true.mpr fun nf hm => htr nf hm) fun H11 s11 => ?_
      have s811 := s9.trans (s10.trans s11)
      walk_at "rdf"
      refine rd_slS (s811 _ _ es8) fun l12 H12 s12 _ e12 => ?_
      replace e12 : H12 l12 = some (.lst ((zs.drop 64).map V.int)) := e12.trans (congrArg (fun x => some (HO.lst x)) (cutV_drop (k := 64)))
      walk_at "rdf"
      have s812 := s811.trans s12
      refine ⟨pp, l12, zs.drop 64, s, cs, rs, rfl, pl8.mono s812, e12, by rw [List.length_drop]; omega, fun lo H13 s13 ol => ?_⟩
      obtain ⟨ps, _, elo, lps, oth, _⟩ := ol
      have s813 := s812.trans s13
      have f13 := f8.mono s813
      have e13 := s813 _ _ e8
      have pw13 := pw8.mono s813
      have pl13 := pl8.mono s813
      clear e12 s12 s13 s812 s813 s811 s9 s10 s11 f9 hp9 fl9 es8 hx8 pl8 f8 e8 pw8
      walk_at "rdf"
      refine ⟨⟨_, SqL.of elo⟩, ?_⟩
      refine forW_list (K := K) (a := lo) (xs := ps) (fun i σ' H' => ∃ (o9 o10 : Option V), σ' = [some (.ref a), some (.ref ls), some (.ref pp), some (.ref x), some (.ref f), some (.ref lf), o6, o7, some (.ref lo), o9, o10, none, none] ∧ Same H13 H') ⟨none, none, rfl, Same.refl _⟩ ?_ ?_ ?_
      · rintro i σ' H' _ ⟨o9, o10, rfl, s14⟩
        exact SqL.of (s14 _ _ elo)
      · rintro i v σ' H14 hv ⟨o9, o10, rfl, s14⟩
        obtain ⟨oa, s', cs', rs', rfl, plo, lc', lr'⟩ := oth v (List.mem_of_getElem? hv)
        have pw14 := pw13.mono s14
        have e14 := s14 _ _ e13
        walk_at "rdf"
        refine ⟨⟨_, SqL.of e14⟩, fun l15 n15 => ?_⟩
        refine compW_pairsL (F.map fun nf => V.bl (hold s' cs' rs' nf.2)) (by rw [List.length_map, pw14.1]) (SqL.of e14) (by rw [pw14.1]; omega) n15 (fun i v hv => ?_) (fun i b u1 u2 y o1 o2 H' Q' hv hb hy s15 q => ?_) (fun H15 s15 e15 => ?_)
        · obtain ⟨b, fa, nf, rfl, hnf, hb, hfa⟩ := pw14.mem (List.mem_of_getElem? hv)
          exact ⟨b, _, _, rfl, hb⟩
        · rw [List.getElem?_map] at hy
          obtain ⟨nf, hnf, rfl⟩ := Option.map_eq_some_iff.mp hy
          obtain ⟨b', fa, e, hb', hfa⟩ := pw14.2 i _ nf hv hnf
          cases e
          rw [hb] at hb'
          cases hb'
          walk_at "rdf"
          refine ⟨oa, fa, s', cs', rs', nf.2, rfl, plo.mono (s14.trans s15), s15 _ _ hfa, ?_, fun H16 s16 => q H16 s16⟩
          rw [lc', lr']
          exact hin nf (List.mem_of_getElem? hnf)
        · have e15' : H15 l15 = some (.lst ((F.map fun nf => hold s' cs' rs' nf.2).map V.bl)) := by rw [e15, List.map_map]; rfl
          walk_at "rdf"
          refine rd_all e15' ?_
          rw [List.all_map]
          walk_at "rdf"
          have s1315 := s14.trans s15
          obtain ⟨dx9, fs9, hp9, fl9⟩ := (f13.mono s1315).ob
          refine rd_methv hp9 (fl9.no _ (by decide +kernel)) ?_
          walk_at "rdf"
          refine ⟨oa, s', cs', rs', rfl, plo.mono s1315, fun x' H16 s16 hx' => ?_⟩
          walk_at "rdf"
          refine ⟨f, x', df, dg, _, _, F, n, G, s', cs', rs', rfl, f13.mono (s1315.trans s16), fo8.inw, by omega, hx', plo.bc, plo.br, fun H17 s17 => ?_⟩
          walk_at "rdf"
          refine same_b (by unfold fitB; rw [lc', lr', decide_eq_true ⟨rfl, rfl⟩, Bool.true_and]; rfl) fun H18 s18 => ?_
          walk_at "rdf"
          exact ⟨_, _, rfl, s1315.trans (s16.trans (s17.trans s18))⟩
      · rintro σ' H14 ⟨o9, o10, rfl, s14⟩
        have pl14 := pl13.mono s14
        obtain ⟨⟨c, r, hq, hc, hr'⟩, _⟩ := id pl14
        walk_at "rdf"
        refine rd_ixT (SqT.of hq) (v := .int s) rfl ?_
        walk_at "rdf"
        refine rd_ixT (SqT.of hq) (v := .ref c) rfl ?_
        walk_at "rdf"
        refine rd_slS hc fun u1 H15 s15 _ e15 => ?_
        rw [cutV_m1] at e15
        walk_at "rdf"
        refine rd_ixT (SqT.of (s15 _ _ hq)) (v := .ref r) rfl ?_
        walk_at "rdf"
        refine ⟨by show 3 ≤ sizeLine; decide, fun p1 np1 => ?_⟩
        have sp1 := Same.new (o := HO.tup [V.int s, V.ref u1, V.ref r]) np1
        have ep1 := upd_same (H := H15) (a := p1) (o := HO.tup [V.int s, V.ref u1, V.ref r])
        generalize upd H15 p1 (HO.tup [V.int s, V.ref u1, V.ref r]) = H16 at sp1 ep1 ⊢
        have s1416 := s15.trans sp1
        walk_at "rdf"
        refine rd_ixT (SqT.of (s1416 _ _ hq)) (v := .int s) rfl ?_
        walk_at "rdf"
        refine rd_ixT (SqT.of (s1416 _ _ hq)) (v := .ref c) rfl ?_
        walk_at "rdf"
        refine rd_ixT (SqT.of (s1416 _ _ hq)) (v := .ref r) rfl ?_
        walk_at "rdf"
        refine rd_slS (s1416 _ _ hr') fun u2 H17 s17 _ e17 => ?_
        rw [cutV_m1] at e17
        walk_at "rdf"
        refine ⟨by show 3 ≤ sizeLine; decide, fun p2 np2 => ?_⟩
        have sp2 := Same.new (o := HO.tup [V.int s, V.ref c, V.ref u2]) np2
        have ep2 := upd_same (H := H17) (a := p2) (o := HO.tup [V.int s, V.ref c, V.ref u2])
        generalize upd H17 p2 (HO.tup [V.int s, V.ref c, V.ref u2]) = H18 at sp2 ep2 ⊢
        walk_at "rdf"
        refine ⟨by show 2 ≤ sizeLine; decide, fun lw nlw => ?_⟩
        have slw := Same.new (o := HO.lst [V.ref p1, V.ref p2]) nlw
        have elw := upd_same (H := H18) (a := lw) (o := HO.lst [V.ref p1, V.ref p2])
        generalize upd H18 lw (HO.lst [V.ref p1, V.ref p2]) = H19 at slw elw ⊢
        have s1719 : Same H17 H19 := sp2.trans slw
        have s1619 := s17.trans s1719
        have s1419 := s1416.trans s1619
        have few : ∀ v ∈ [V.ref p1, V.ref p2], ∃ oa cs' rs', v = .ref oa ∧ PlanAt true H19 oa s cs' rs' ∧ cs'.length ≤ cs.length ∧ rs'.length ≤ rs.length := fun v hv => by
          have bt : ∀ {l : List Int}, Bits l → Bits (l.take (l.length - 1)) := fun {l} b => ⟨by rw [List.length_take]; have := b.1; omega, fun z hz => b.2 z (List.mem_of_mem_take hz)⟩
          simp only [List.mem_cons, List.not_mem_nil, or_false] at hv
          rcases hv with rfl | rfl
          · exact ⟨p1, cs.take (cs.length - 1), rs, rfl, ⟨⟨u1, r, s1619 _ _ ep1, s1619 _ _ (sp1 _ _ e15), s1419 _ _ hr'⟩, sh, bt bc, br⟩, by rw [List.length_take]; omega, Nat.le_refl _⟩
          · exact ⟨p2, cs, rs.take (rs.length - 1), rfl, ⟨⟨c, u2, slw _ _ ep2, s1419 _ _ hc, s1719 _ _ e17⟩, sh, bc, bt br⟩, Nat.le_refl _, by rw [List.length_take]; omega⟩
        have sB := s14.trans s1419
        clear e15 e17 ep1 ep2 s15 s17 sp1 sp2 slw s1719 s1619 np1 np2 nlw s1416
        walk_at "rdf"
        refine ⟨⟨_, SqL.of elw⟩, ?_⟩
        refine forW_list (K := K) (a := lw) (xs := [V.ref p1, V.ref p2]) (fun i σ' H' => ∃ (o9 : Option V), σ' = [some (.ref a), some (.ref ls), some (.ref pp), some (.ref x), some (.ref f), some (.ref lf), o6, o7, some (.ref lo), o9, o10, some (.ref lw), none] ∧ Same H19 H') ⟨o9, rfl, Same.refl _⟩ ?_ ?_ ?_
        · rintro i σ' H' _ ⟨o9, rfl, s20⟩
          exact SqL.of (s20 _ _ elw)
        · rintro i v σ' H20 hv ⟨o9, rfl, s20⟩
          obtain ⟨oa, cs', rs', rfl, plo, lc', lr'⟩ := few v (List.mem_of_getElem? hv)
          have plo := plo.mono s20
          have s1420 := s1419.trans s20
          obtain ⟨⟨c2, r2, hq2, hc2, hr2⟩, _, bc2, br2⟩ := id plo
          obtain ⟨dx9, fs9, hp9, fl9⟩ := ((f13.mono sB).mono s20).ob
          walk_at "rdf"
          refine rd_ixT (SqT.of hq2) (v := .ref c2) rfl ?_
          walk_at "rdf"
          refine rd_lenL hc2 ?_
          rw [List.length_map]
          walk_at "rdf"
          refine rd_ixT (SqT.of (s1420 _ _ hq)) (v := .ref c) rfl ?_
          walk_at "rdf"
          refine rd_lenL (s1420 _ _ hc) ?_
          rw [List.length_map]
          walk_at "rdf"
          by_cases c1 : cs'.length < cs.length
          · rw [decide_eq_true (by omega : ((cs'.length : Nat) : Int) < ((cs.length : Nat) : Int))]
            walk_at "rdf"
            refine rd_methv hp9 (fl9.no _ (by decide +kernel)) ?_
            walk_at "rdf"
            refine ⟨oa, s, cs', rs', rfl, plo, fun x' H21 s21 hx' => ?_⟩
            walk_at "rdf"
            refine ⟨f, x', df, dg, _, _, F, n, G, s, cs', rs', rfl, ((f13.mono sB).mono s20).mono s21, fo8.inw, by omega, hx', bc2, br2, fun H22 s22 => ?_⟩
            have e : fitB s cs' rs' (cs.length + 1) (rs.length + 1) F = false := by unfold fitB; rw [decide_eq_false (by omega), Bool.false_and]
            rw [e]
            walk_at "rdf"
            exact ⟨_, rfl, s20.trans (s21.trans s22)⟩
          · rw [decide_eq_false (by omega : ¬ ((cs'.length : Nat) : Int) < ((cs.length : Nat) : Int))]
            walk_at "rdf"
            refine rd_ixT (SqT.of hq2) (v := .ref r2) rfl ?_
            walk_at "rdf"
            refine rd_lenL hr2 ?_
            rw [List.length_map]
            walk_at "rdf"
            refine rd_ixT (SqT.of (s1420 _ _ hq)) (v := .ref r) rfl ?_
            walk_at "rdf"
            refine rd_lenL (s1420 _ _ hr') ?_
            rw [List.length_map]
            walk_at "rdf"
            by_cases c2' : rs'.length < rs.length
            · rw [decide_eq_true (by omega : ((rs'.length : Nat) : Int) < ((rs.length : Nat) : Int))]
              walk_at "rdf"
              refine rd_methv hp9 (fl9.no _ (by decide +kernel)) ?_
              walk_at "rdf"
              refine ⟨oa, s, cs', rs', rfl, plo, fun x' H21 s21 hx' => ?_⟩
              walk_at "rdf"
              refine ⟨f, x', df, dg, _, _, F, n, G, s, cs', rs', rfl, ((f13.mono sB).mono s20).mono s21, fo8.inw, by omega, hx', bc2, br2, fun H22 s22 => ?_⟩
              have e : fitB s cs' rs' (cs.length + 1) (rs.length + 1) F = false := by unfold fitB; rw [decide_eq_false (by omega), Bool.false_and]
              rw [e]
              walk_at "rdf"
              exact ⟨_, rfl, s20.trans (s21.trans s22)⟩
            · rw [decide_eq_false (by omega : ¬ ((rs'.length : Nat) : Int) < ((rs.length : Nat) : Int))]
              walk_at "rdf"
              exact ⟨_, rfl, s20⟩
        · rintro σ' H20 ⟨o9, rfl, s20⟩
          have sC := sB.trans s20
          have f20 := f13.mono sC
          have e20 := sC _ _ e13
          have pw20 := pw13.mono sC
          have pl20 := pl13.mono sC
          have elo20 := sC _ _ elo
          have oth20 := oth.mono sC
          clear few elw hq hc hr' pl14 sB sC s20 s1419 s14 f13 e13 pw13 pl13 elo oth
          walk_at "rdf"
          refine ⟨⟨_, SqL.of e20⟩, ?_⟩
          refine forW_list (K := K) (a := lf) (xs := xs) (fun i σ' H' => ∃ (o6 o7 : Option V) (dg' : Addr) (G' : List Key → List Key × Int), σ' = [some (.ref a), some (.ref ls), some (.ref pp), some (.ref x), some (.ref f), some (.ref lf), o6, o7, some (.ref lo), o9, o10, some (.ref lw), none] ∧ H' lf = some (.lst xs) ∧ PwP H' xs F ∧ PlanAt true H' pp s cs rs ∧ H' lo = some (.lst ps) ∧ OthAt H' ps cs.length rs.length ∧ FdAt t.a_Finds H' f df dg' (cs.length + 1) (rs.length + 1) (F.drop i) n G' ∧ FOk (vP s cs rs) (cs.length + 1) (rs.length + 1) (F.drop i) n G')
            ⟨o6, o7, dg, G, rfl, e20, pw20, pl20, elo20, oth20, f20, fo8⟩ ?_ ?_ ?_
          · rintro i σ' H' _ ⟨o6, o7, dg', G', rfl, e21, _⟩
            exact SqL.of e21
          · rintro i v σ' H21 hv ⟨o6, o7, dg', G', rfl, e21, pw21, pl21, elo21, oth21, f21, fo21⟩
            have hiF : i < F.length := by rw [← pw21.1]; exact (List.getElem?_eq_some_iff.mp hv).1
            have hnf : F[i]? = some F[i] := List.getElem?_eq_getElem hiF
            obtain ⟨b, fa, rfl, hb, hfa⟩ := pw21.2 i v _ hv hnf
            generalize F[i] = nf at hnf hb hfa
            refine rd_gtup hb rfl ?_
            walk_at "rdf"
            obtain ⟨dx9, fs9, hp9, fl9⟩ := f21.ob
            refine rd_methv hp9 (fl9.no _ (by decide +kernel)) ?_
            walk_at "rdf"
            refine ⟨f, df, dg', _, _, F.drop i, n, nf.1, G', _, rfl, f21, fo21, by omega, by omega, List.mem_map.mpr ⟨nf, ?_, rfl⟩, fun dg2 G2 H22 m22 nd22 f22 fo22 => ?_⟩
            · have : (F.drop i)[0]? = some nf := by rw [List.getElem?_drop]; simpa using hnf
              exact List.mem_of_getElem? this
            · rw [outF_drop fo8.nd hnf] at f22 fo22
              have os := f21.outS
              walk_at "rdf"
              exact ⟨_, _, dg2, G2, rfl, but_lst m22 os e21, pw21.but m22 os.noT, pl21.but m22 os, but_lst m22 os elo21, oth21.but m22 os, f22, fo22⟩
          · rintro σ' H21 ⟨o6, o7, dg', G', rfl, e21, pw21, pl21, elo21, oth21, f21, fo21⟩
            rw [pw21.1, List.drop_length] at f21 fo21
            walk_at "rdf"
            refine ⟨⟨_, SqL.of elo21⟩, ?_⟩
            refine forW_list (K := K) (a := lo) (xs := ps) (fun i σ' H' => ∃ (o9 : Option V), σ' = [some (.ref a), some (.ref ls), some (.ref pp), some (.ref x), some (.ref f), some (.ref lf), o6, o7, some (.ref lo), o9, o10, some (.ref lw), none] ∧ Same H21 H') ⟨o9, rfl, Same.refl _⟩ ?_ ?_ ?_
            · rintro i σ' H' _ ⟨o9, rfl, s22⟩
              exact SqL.of (s22 _ _ elo21)
            · rintro i v σ' H22 hv ⟨o9, rfl, s22⟩
              obtain ⟨oa, s', cs', rs', rfl, plo, lc', lr'⟩ := oth21 v (List.mem_of_getElem? hv)
              obtain ⟨dx9, fs9, hp9, fl9⟩ := (f21.mono s22).ob
              walk_at "rdf"
              refine rd_methv hp9 (fl9.no _ (by decide +kernel)) ?_
              walk_at "rdf"
              refine ⟨oa, s', cs', rs', rfl, plo.mono s22, fun x' H23 s23 hx' => ?_⟩
              walk_at "rdf"
              refine ⟨f, x', df, dg', _, _, [], n, G', s', cs', rs', rfl, (f21.mono s22).mono s23, (fun _ h => nomatch h), by decide, hx', plo.bc, plo.br, fun H24 s24 => ?_⟩
              walk_at "rdf"
              refine same_b (by rw [fitB_nil, lc', lr']; exact decide_eq_true ⟨rfl, rfl⟩) fun H25 s25 => ?_
              walk_at "rdf"
              exact ⟨_, rfl, s22.trans (s23.trans (s24.trans s25))⟩
            · rintro σ' H22 ⟨o9, rfl, s22⟩
              have f22 := f21.mono s22
              obtain ⟨⟨c, r, hq, hc, hr'⟩, _⟩ := id (pl21.mono s22)
              walk_at "rdf"
              refine rd_ixT (SqT.of hq) (v := .int s) rfl ?_
              walk_at "rdf"
              refine rd_ixT (SqT.of hq) (v := .ref c) rfl ?_
              walk_at "rdf"
              refine ⟨by show 1 ≤ sizeLine; decide, fun u1 nu1 => ?_⟩
              have su1 := Same.new (o := HO.lst [V.int 0]) nu1
              have eu1 := upd_same (H := H22) (a := u1) (o := HO.lst [V.int 0])
              generalize upd H22 u1 (HO.lst [V.int 0]) = H23 at su1 eu1 ⊢
              refine rd_catS (zs := [(0 : Int)].map V.int) (su1 _ _ hc) eu1 (by rw [List.length_map]; exact Nat.le_of_lt (small1000 (by show cs.length + 1 ≤ 1000; omega))) fun u2 H24 s24 _ e24 => ?_
              rw [← List.map_append] at e24
              walk_at "rdf"
              refine rd_slS e24 fun u3 H25 s25 _ e25 => ?_
              rw [cutV_take (by decide)] at e25
              have s2225 := su1.trans (s24.trans s25)
              walk_at "rdf"
              refine rd_ixT (SqT.of (s2225 _ _ hq)) (v := .ref r) rfl ?_
              walk_at "rdf"
              refine ⟨by show 3 ≤ sizeLine; decide, fun p1 np1 => ?_⟩
              have sp1 := Same.new (o := HO.tup [V.int s, V.ref u3, V.ref r]) np1
              have ep1 := upd_same (H := H25) (a := p1) (o := HO.tup [V.int s, V.ref u3, V.ref r])
              generalize upd H25 p1 (HO.tup [V.int s, V.ref u3, V.ref r]) = H26 at sp1 ep1 ⊢
              have s2226 := s2225.trans sp1
              walk_at "rdf"
              refine rd_ixT (SqT.of (s2226 _ _ hq)) (v := .int s) rfl ?_
              walk_at "rdf"
              refine rd_ixT (SqT.of (s2226 _ _ hq)) (v := .ref c) rfl ?_
              walk_at "rdf"
              refine rd_ixT (SqT.of (s2226 _ _ hq)) (v := .ref r) rfl ?_
              walk_at "rdf"
              refine ⟨by show 1 ≤ sizeLine; decide, fun u4 nu4 => ?_⟩
              have su4 := Same.new (o := HO.lst [V.int 1]) nu4
              have eu4 := upd_same (H := H26) (a := u4) (o := HO.lst [V.int 1])
              generalize upd H26 u4 (HO.lst [V.int 1]) = H27 at su4 eu4 ⊢
              refine rd_catS (zs := [(1 : Int)].map V.int) (su4 _ _ (s2226 _ _ hr')) eu4 (by rw [List.length_map]; exact Nat.le_of_lt (small1000 (by show rs.length + 1 ≤ 1000; omega))) fun u5 H28 s28 _ e28 => ?_
              rw [← List.map_append] at e28
              walk_at "rdf"
              refine rd_slS e28 fun u6 H29 s29 _ e29 => ?_
              rw [cutV_take (by decide)] at e29
              have s2629 := su4.trans (s28.trans s29)
              walk_at "rdf"
              refine ⟨by show 3 ≤ sizeLine; decide, fun p2 np2 => ?_⟩
              have sp2 := Same.new (o := HO.tup [V.int s, V.ref c, V.ref u6]) np2
              have ep2 := upd_same (H := H29) (a := p2) (o := HO.tup [V.int s, V.ref c, V.ref u6])
              generalize upd H29 p2 (HO.tup [V.int s, V.ref c, V.ref u6]) = H30 at sp2 ep2 ⊢
              walk_at "rdf"
              refine ⟨by show 2 ≤ sizeLine; decide, fun lm nlm => ?_⟩
              have slm := Same.new (o := HO.lst [V.ref p1, V.ref p2]) nlm
              have elm := upd_same (H := H30) (a := lm) (o := HO.lst [V.ref p1, V.ref p2])
              generalize upd H30 lm (HO.lst [V.ref p1, V.ref p2]) = H31 at slm elm ⊢
              have s2931 := sp2.trans slm
              have s2631 := s2629.trans s2931
              have s2231 := s2226.trans s2631
              have more : ∀ v ∈ [V.ref p1, V.ref p2], ∃ oa cs' rs', v = .ref oa ∧ PlanAt true H31 oa s cs' rs' := fun v hv => by
                have bt : ∀ {l : List Int} {b : Int}, Bits l → (b = 0 ∨ b = 1) → Bits ((l ++ [b]).take (39 : Int).toNat) := fun {l b} h hb => ⟨by rw [List.length_take]; show min 39 _ ≤ 39; omega, fun z hz => by
                  rcases List.mem_append.mp (List.mem_of_mem_take hz) with hz | hz
                  · exact h.2 z hz
                  · rw [List.mem_singleton.mp hz]; exact hb⟩
                simp only [List.mem_cons, List.not_mem_nil, or_false] at hv
                rcases hv with rfl | rfl
                · exact ⟨p1, _, rs, rfl, ⟨⟨u3, r, s2631 _ _ ep1, s2631 _ _ (sp1 _ _ e25), s2231 _ _ hr'⟩, sh, bt bc (.inl rfl), br⟩⟩
                · exact ⟨p2, cs, _, rfl, ⟨⟨c, u6, slm _ _ ep2, s2231 _ _ hc, s2931 _ _ e29⟩, sh, bc, bt br (.inr rfl)⟩⟩
              clear e24 e25 e28 e29 ep1 ep2 s24 s25 s28 s29 su1 su4 sp1 sp2 slm s2931 s2631 s2629 s2226 s2225
              walk_at "rdf"
              refine ⟨⟨_, SqL.of elm⟩, ?_⟩
              refine forW_list (K := K) (a := lm) (xs := [V.ref p1, V.ref p2]) (fun i σ' H' => ∃ (o9 o12 : Option V), σ' = [some (.ref a), some (.ref ls), some (.ref pp), some (.ref x), some (.ref f), some (.ref lf), o6, o7, some (.ref lo), o9, o10, some (.ref lw), o12] ∧ Same H31 H') ⟨o9, none, rfl, Same.refl _⟩ ?_ ?_ ?_
              · rintro i σ' H' _ ⟨o9, o12, rfl, s32⟩
                exact SqL.of (s32 _ _ elm)
              · rintro i v σ' H32 hv ⟨o9, o12, rfl, s32⟩
                obtain ⟨oa, cs', rs', rfl, plo⟩ := more v (List.mem_of_getElem? hv)
                have plo := plo.mono s32
                have s2232 := s2231.trans s32
                obtain ⟨⟨c2, r2, hq2, hc2, hr2⟩, _, bc2, br2⟩ := id plo
                have f32 := f22.mono s2232
                obtain ⟨dx9, fs9, hp9, fl9⟩ := f32.ob
                walk_at "rdf"
                refine rd_ixT (SqT.of hq2) (v := .ref c2) rfl ?_
                walk_at "rdf"
                refine rd_lenL hc2 ?_
                rw [List.length_map]
                walk_at "rdf"
                refine rd_ixT (SqT.of (s2232 _ _ hq)) (v := .ref c) rfl ?_
                walk_at "rdf"
                refine rd_lenL (s2232 _ _ hc) ?_
                rw [List.length_map]
                walk_at "rdf"
                by_cases c1 : cs'.length = cs.length
                · rw [decide_eq_true (by omega : ((cs'.length : Nat) : Int) = ((cs.length : Nat) : Int))]
                  walk_at "rdf"
                  refine rd_ixT (SqT.of hq2) (v := .ref r2) rfl ?_
                  walk_at "rdf"
                  refine rd_lenL hr2 ?_
                  rw [List.length_map]
                  walk_at "rdf"
                  refine rd_ixT (SqT.of (s2232 _ _ hq)) (v := .ref r) rfl ?_
                  walk_at "rdf"
                  refine rd_lenL (s2232 _ _ hr') ?_
                  rw [List.length_map]
                  walk_at "rdf"
                  refine rd_methv hp9 (fl9.no _ (by decide +kernel)) ?_
                  walk_at "rdf"
                  refine ⟨oa, s, cs', rs', rfl, plo, fun x' H33 s33 hx' => ?_⟩
                  walk_at "rdf"
                  refine ⟨f, x', df, dg', _, _, [], n, G', s, cs', rs', rfl, f32.mono s33, (fun _ h => nomatch h), by decide, hx', bc2, br2, fun H34 s34 => ?_⟩
                  rw [fitB_nil]
                  have e : decide (cs'.length + 1 = cs.length + 1 ∧ rs'.length + 1 = rs.length + 1) = decide (((rs'.length : Nat) : Int) = ((rs.length : Nat) : Int)) := decide_eq_decide.mpr (by omega)
                  rw [e]
                  walk_at "rdf"
                  rw [decide_eq_true (rfl : decide (((rs'.length : Nat) : Int) = ((rs.length : Nat) : Int)) = _)]
                  walk_at "rdf"
                  exact ⟨_, _, rfl, s32.trans (s33.trans s34)⟩
                · rw [decide_eq_false (by omega : ¬ ((cs'.length : Nat) : Int) = ((cs.length : Nat) : Int))]
                  walk_at "rdf"
                  refine rd_methv hp9 (fl9.no _ (by decide +kernel)) ?_
                  walk_at "rdf"
                  refine ⟨oa, s, cs', rs', rfl, plo, fun x' H33 s33 hx' => ?_⟩
                  walk_at "rdf"
                  refine ⟨f, x', df, dg', _, _, [], n, G', s, cs', rs', rfl, f32.mono s33, (fun _ h => nomatch h), by decide, hx', bc2, br2, fun H34 s34 => ?_⟩
                  rw [fitB_nil, decide_eq_false (by omega : ¬ (cs'.length + 1 = cs.length + 1 ∧ rs'.length + 1 = rs.length + 1))]
                  walk_at "rdf"
                  exact ⟨_, _, rfl, s32.trans (s33.trans s34)⟩
              · rintro σ' H32 ⟨o9, o12, rfl, s32⟩
                walk_at "rdf"
                exact z _
end

end My

set_option Elab.async false
set_option linter.all false
set_option maxRecDepth 100000
theorem PySem.W.Fast.tw16579605802671398586 : True := True.intro
theorem PySem.W.Fast.tw549651012058837879 : True := True.intro
theorem PySem.W.Fast.tw2266243267518827464 : True := True.intro
theorem PySem.W.Fast.tw7939677236480962784 : True := True.intro
theorem PySem.W.Fast.tw8763279307643932135 : True := True.intro
theorem PySem.W.Fast.tw13937243029208913927 : True := True.intro
theorem PySem.W.Fast.tw17877785733916232959 : True := True.intro
theorem PySem.W.Fast.tw2124920557672883550 : True := True.intro
theorem PySem.W.Fast.tw5594030106417671060 : True := True.intro
theorem PySem.W.Fast.tw5593231581277993706 : True := True.intro
theorem PySem.W.Fast.tw13946346864027741910 : True := True.intro
theorem PySem.W.Fast.tw7583346405598832910 : True := True.intro
theorem PySem.W.Fast.tw3856150096530504428 : True := True.intro
theorem PySem.W.Fast.tw16286493791920484993 : True := True.intro
theorem PySem.W.Fast.tw14886794291394796152 : True := True.intro
theorem PySem.W.Fast.tw17078843481537840163 : True := True.intro
theorem PySem.W.Fast.tw5052290812952700226 : True := True.intro
theorem PySem.W.Fast.tw3667901289177175316 : True := True.intro
theorem PySem.W.Fast.tw8974062210150482549 : True := True.intro
theorem PySem.W.Fast.tw9623919433725538915 : True := True.intro
theorem PySem.W.Fast.tw4470927788839959531 : True := True.intro
theorem PySem.W.Fast.tw3807810285724351656 : True := True.intro
theorem PySem.W.Fast.tw4206562196750294563 : True := True.intro
theorem PySem.W.Fast.tw18196477245722377568 : True := True.intro
theorem PySem.W.Fast.tw7609776824727736506 : True := True.intro
theorem PySem.W.Fast.tw7246221125893543243 : True := True.intro
theorem PySem.W.Fast.tw16246888801718918953 : True := True.intro
theorem PySem.W.Fast.tw208903890155023458 : True := True.intro
theorem PySem.W.Fast.tw8019802503183833069 : True := True.intro
theorem PySem.W.Fast.tw13479074909089017296 : True := True.intro
theorem PySem.W.Fast.tw12026563808192894659 : True := True.intro
theorem PySem.W.Fast.tw210736360253444961 : True := True.intro
theorem PySem.W.Fast.tw10398562340072641215 : True := True.intro
theorem PySem.W.Fast.tw1599263782904145450 : True := True.intro
theorem PySem.W.Fast.tw6938411600017863068 : True := True.intro
theorem PySem.W.Fast.tw18149078894517226273 : True := True.intro
theorem PySem.W.Fast.tw12202083527777144301 : True := True.intro
theorem PySem.W.Fast.tw10515130773690339979 : True := True.intro
theorem PySem.W.Fast.tw4479102603926863785 : True := True.intro
theorem PySem.W.Fast.tw5335777949930247125 : True := True.intro
theorem PySem.W.Fast.tw14566284916435444237 : True := True.intro
theorem PySem.W.Fast.tw13037015753663600369 : True := True.intro
theorem PySem.W.Fast.tw17499603664511938636 : True := True.intro
theorem PySem.W.Fast.tw13623067603178957685 : True := True.intro
theorem PySem.W.Fast.tw14863276591588148513 : True := True.intro
theorem PySem.W.Fast.tw11392608649698682934 : True := True.intro
theorem PySem.W.Fast.tw2985476811967873563 : True := True.intro
theorem PySem.W.Fast.tw12469834847824325653 : True := True.intro
theorem PySem.W.Fast.tw6370350946316815988 : True := True.intro
theorem PySem.W.Fast.tw10174921125920911566 : True := True.intro
theorem PySem.W.Fast.tw9730044970089640694 : True := True.intro
theorem PySem.W.Fast.tw10502470954324760861 : True := True.intro
theorem PySem.W.Fast.tw16223770626955013005 : True := True.intro
theorem PySem.W.Fast.tw17640540465645863765 : True := True.intro
theorem PySem.W.Fast.tw17263528697387880725 : True := True.intro
theorem PySem.W.Fast.tw18304572424906165551 : True := True.intro
theorem PySem.W.Fast.tw14370509820415453837 : True := True.intro
theorem PySem.W.Fast.tw8665620486911368914 : True := True.intro
theorem PySem.W.Fast.tw7241446253077954610 : True := True.intro
theorem PySem.W.Fast.tw12766694259235645476 : True := True.intro
theorem PySem.W.Fast.tw6289920172716255762 : True := True.intro
theorem PySem.W.Fast.tw17831653240471553420 : True := True.intro
theorem PySem.W.Fast.tw1600833345457536644 : True := True.intro
theorem PySem.W.Fast.tw6311121954373688969 : True := True.intro
theorem PySem.W.Fast.tw3144641370539792117 : True := True.intro
theorem PySem.W.Fast.tw7721193013921722877 : True := True.intro
theorem PySem.W.Fast.tw12961514147419478114 : True := True.intro
theorem PySem.W.Fast.tw17346941772668557713 : True := True.intro
theorem PySem.W.Fast.tw17679598123137684936 : True := True.intro
theorem PySem.W.Fast.tw586882595962587863 : True := True.intro
theorem PySem.W.Fast.tw17261868870490913164 : True := True.intro
theorem PySem.W.Fast.tw824697334890830691 : True := True.intro
theorem PySem.W.Fast.tw11536766124174321426 : True := True.intro
theorem PySem.W.Fast.tw6811905729352632793 : True := True.intro
theorem PySem.W.Fast.tw16242591432202404937 : True := True.intro
theorem PySem.W.Fast.tw17538141262843529539 : True := True.intro
theorem PySem.W.Fast.tw13458900545517121974 : True := True.intro
theorem PySem.W.Fast.tw3286838778282429509 : True := True.intro
theorem PySem.W.Fast.tw948775185794888209 : True := True.intro
theorem PySem.W.Fast.tw1123177169747103156 : True := True.intro
theorem PySem.W.Fast.tw7505699817537024626 : True := True.intro
theorem PySem.W.Fast.tw8222615480822011307 : True := True.intro
theorem PySem.W.Fast.tw4754896956181937587 : True := True.intro
theorem PySem.W.Fast.tw10302012645373299702 : True := True.intro
theorem PySem.W.Fast.tw15551327481060325818 : True := True.intro
theorem PySem.W.Fast.tw146313324127298228 : True := True.intro
theorem PySem.W.Fast.tw10611063155924614021 : True := True.intro
theorem PySem.W.Fast.tw12968836866648454046 : True := True.intro
theorem PySem.W.Fast.tw14917425719734382336 : True := True.intro
theorem PySem.W.Fast.tw9223543772789823803 : True := True.intro
theorem PySem.W.Fast.tw16886116051723061838 : True := True.intro
theorem PySem.W.Fast.tw3166578567010590924 : True := True.intro
theorem PySem.W.Fast.tw2582966341677696668 : True := True.intro
theorem PySem.W.Fast.tw17384078283065282839 : True := True.intro
theorem PySem.W.Fast.tw12308048411430228680 : True := True.intro
theorem PySem.W.Fast.tw12429515750826719460 : True := True.intro
theorem PySem.W.Fast.tw1110066591422637011 : True := True.intro
theorem PySem.W.Fast.tw17770530362593959528 : True := True.intro
theorem PySem.W.Fast.tw3260276804496356472 : True := True.intro
theorem PySem.W.Fast.tw9234851391797610869 : True := True.intro
theorem PySem.W.Fast.tw7569194080101098860 : True := True.intro
theorem PySem.W.Fast.tw3777476727727412200 : True := True.intro
theorem PySem.W.Fast.tw2496134113758876234 : True := True.intro
theorem PySem.W.Fast.tw14687075329557518189 : True := True.intro
theorem PySem.W.Fast.tw5181569548589474908 : True := True.intro
theorem PySem.W.Fast.tw730255033380909387 : True := True.intro
theorem PySem.W.Fast.tw5360294290855967433 : True := True.intro
theorem PySem.W.Fast.tw7595210529185547022 : True := True.intro
theorem PySem.W.Fast.tw2005573742324179997 : True := True.intro
theorem PySem.W.Fast.tw3408037286118240147 : True := True.intro
theorem PySem.W.Fast.tw4283526651272555361 : True := True.intro
theorem PySem.W.Fast.tw8574405587968854714 : True := True.intro
theorem PySem.W.Fast.tw8287425881328097205 : True := True.intro
theorem PySem.W.Fast.tw16463609149142134915 : True := True.intro
theorem PySem.W.Fast.tw402941274499034142 : True := True.intro
theorem PySem.W.Fast.tw15115328852509103892 : True := True.intro
theorem PySem.W.Fast.tw8879577121871090963 : True := True.intro
theorem PySem.W.Fast.tw3475210082958376745 : True := True.intro
theorem PySem.W.Fast.tw5003921718304066095 : True := True.intro
theorem PySem.W.Fast.tw4529950173766801708 : True := True.intro
theorem PySem.W.Fast.tw2420011154765195088 : True := True.intro
theorem PySem.W.Fast.tw9247116644951841037 : True := True.intro
theorem PySem.W.Fast.tw5224053613773201681 : True := True.intro
theorem PySem.W.Fast.tw11177408677061465794 : True := True.intro
theorem PySem.W.Fast.tw9751772170144120560 : True := True.intro
theorem PySem.W.Fast.tw7595603515254565607 : True := True.intro
theorem PySem.W.Fast.tw3556135333629061488 : True := True.intro
theorem PySem.W.Fast.tw10643337203369892001 : True := True.intro
theorem PySem.W.Fast.tw3172467143572001458 : True := True.intro
theorem PySem.W.Fast.tw443554122082505278 : True := True.intro
theorem PySem.W.Fast.tw13087421152012186440 : True := True.intro
theorem PySem.W.Fast.tw13654940014971656253 : True := True.intro
theorem PySem.W.Fast.tw3495567395754572615 : True := True.intro
theorem PySem.W.Fast.tw17516334437135019980 : True := True.intro
theorem PySem.W.Fast.tw9956033138128096667 : True := True.intro
theorem PySem.W.Fast.tw17814762512988147319 : True := True.intro
theorem PySem.W.Fast.tw12425217697698756636 : True := True.intro
theorem PySem.W.Fast.tw15640396674384790139 : True := True.intro
theorem PySem.W.Fast.tw3121341654053083764 : True := True.intro
theorem PySem.W.Fast.tw3895209340247927774 : True := True.intro
theorem PySem.W.Fast.tw10257647861430501419 : True := True.intro
theorem PySem.W.Fast.tw12934486685831113940 : True := True.intro
theorem PySem.W.Fast.tw4611629305370183421 : True := True.intro
theorem PySem.W.Fast.tw16831052075311106919 : True := True.intro
theorem PySem.W.Fast.tw18148794890865966745 : True := True.intro
theorem PySem.W.Fast.tw9685237592147690946 : True := True.intro
theorem PySem.W.Fast.tw1554133887272437381 : True := True.intro
theorem PySem.W.Fast.tw16038664637695232157 : True := True.intro
theorem PySem.W.Fast.tw8123958545061141299 : True := True.intro
theorem PySem.W.Fast.tw3512884469929434593 : True := True.intro
theorem PySem.W.Fast.tw3632960167920686692 : True := True.intro
theorem PySem.W.Fast.tw5551944139654645620 : True := True.intro
theorem PySem.W.Fast.tw4998274170562098067 : True := True.intro
theorem PySem.W.Fast.tw16438766545407549258 : True := True.intro
theorem PySem.W.Fast.tw16812140981417730143 : True := True.intro
theorem PySem.W.Fast.tw7651168816447086901 : True := True.intro
theorem PySem.W.Fast.tw18259374353565837442 : True := True.intro
theorem PySem.W.Fast.tw8866084839624350136 : True := True.intro
theorem PySem.W.Fast.tw9508789631714249031 : True := True.intro
theorem PySem.W.Fast.tw9511549353433517712 : True := True.intro
theorem PySem.W.Fast.tw9436584313573285353 : True := True.intro
theorem PySem.W.Fast.tw7204898204647839725 : True := True.intro
theorem PySem.W.Fast.tw16095900339389016804 : True := True.intro
theorem PySem.W.Fast.tw16753388028340607132 : True := True.intro
theorem PySem.W.Fast.tw16992933843103829795 : True := True.intro
theorem PySem.W.Fast.tw11549834814649759920 : True := True.intro
theorem PySem.W.Fast.tw425213711359015754 : True := True.intro
theorem PySem.W.Fast.tw5789138616257849461 : True := True.intro
theorem PySem.W.Fast.tw8157625270816114270 : True := True.intro
theorem PySem.W.Fast.tw13734179873496450299 : True := True.intro
theorem PySem.W.Fast.tw562083606729422016 : True := True.intro
theorem PySem.W.Fast.tw5695724540927249388 : True := True.intro
theorem PySem.W.Fast.tw10152754043139607693 : True := True.intro
theorem PySem.W.Fast.tw14147807993741732557 : True := True.intro
theorem PySem.W.Fast.tw2397481514364262662 : True := True.intro
theorem PySem.W.Fast.tw3895434653853211278 : True := True.intro
theorem PySem.W.Fast.tw2786567206093692579 : True := True.intro
theorem PySem.W.Fast.tw9491648875548522839 : True := True.intro
theorem PySem.W.Fast.tw10525976765436381199 : True := True.intro
theorem PySem.W.Fast.tw6837736239691485404 : True := True.intro
theorem PySem.W.Fast.tw16165634250729021770 : True := True.intro
theorem PySem.W.Fast.tw1839317215285194618 : True := True.intro
theorem PySem.W.Fast.tw5562583524879307400 : True := True.intro
theorem PySem.W.Fast.tw3954539742258494777 : True := True.intro
theorem PySem.W.Fast.tw13018826702877070714 : True := True.intro
theorem PySem.W.Fast.tw5842720928355158991 : True := True.intro
theorem PySem.W.Fast.tw4525672304101011572 : True := True.intro
theorem PySem.W.Fast.tw13621253825492665977 : True := True.intro
theorem PySem.W.Fast.tw3728595629869184022 : True := True.intro
theorem PySem.W.Fast.tw10049061364447263227 : True := True.intro
theorem PySem.W.Fast.tw9368221744785694054 : True := True.intro
theorem PySem.W.Fast.tw7632613190338430373 : True := True.intro
theorem PySem.W.Fast.tw7152261223182865918 : True := True.intro
theorem PySem.W.Fast.tw2823288695143297385 : True := True.intro
theorem PySem.W.Fast.tw1050658497717173947 : True := True.intro
theorem PySem.W.Fast.tw13111355540597729042 : True := True.intro
theorem PySem.W.Fast.tw4531909436802137894 : True := True.intro
theorem PySem.W.Fast.tw7691294845628017125 : True := True.intro
theorem PySem.W.Fast.tw18149582585987343295 : True := True.intro
theorem PySem.W.Fast.tw12140415272618853417 : True := True.intro
theorem PySem.W.Fast.tw3713320109738394992 : True := True.intro
theorem PySem.W.Fast.tw8096150216742786120 : True := True.intro
theorem PySem.W.Fast.tw3133271468274336492 : True := True.intro
theorem PySem.W.Fast.tw4567900189615301259 : True := True.intro
theorem PySem.W.Fast.tw10759083338363814091 : True := True.intro
theorem PySem.W.Fast.tw4089768564965690665 : True := True.intro
theorem PySem.W.Fast.tw2703663556676628378 : True := True.intro
theorem PySem.W.Fast.tw11833207037694678346 : True := True.intro
theorem PySem.W.Fast.tw11949847740838036105 : True := True.intro
theorem PySem.W.Fast.tw14284290324053017836 : True := True.intro
theorem PySem.W.Fast.tw5814646591448734914 : True := True.intro
theorem PySem.W.Fast.tw15585040186360961819 : True := True.intro
theorem PySem.W.Fast.tw9270919319397704281 : True := True.intro
theorem PySem.W.Fast.tw18153135896949308238 : True := True.intro
theorem PySem.W.Fast.tw15446502114784265199 : True := True.intro
theorem PySem.W.Fast.tw4279526114953199420 : True := True.intro
theorem PySem.W.Fast.tw16176453344797992915 : True := True.intro
theorem PySem.W.Fast.tw13762245313150788493 : True := True.intro
theorem PySem.W.Fast.tw8516045611758326908 : True := True.intro
theorem PySem.W.Fast.tw11850433283898198461 : True := True.intro
theorem PySem.W.Fast.tw7906614677304313994 : True := True.intro
theorem PySem.W.Fast.tw17022397701583601571 : True := True.intro
theorem PySem.W.Fast.tw11979918762789833452 : True := True.intro
theorem PySem.W.Fast.tw5134812603009912483 : True := True.intro
theorem PySem.W.Fast.tw1957386338301308310 : True := True.intro
theorem PySem.W.Fast.tw978810871641275969 : True := True.intro
theorem PySem.W.Fast.tw12439809009540222741 : True := True.intro
theorem PySem.W.Fast.tw6423457689925394792 : True := True.intro
theorem PySem.W.Fast.tw11578153395941153108 : True := True.intro
theorem PySem.W.Fast.tw16689928268208981600 : True := True.intro
theorem PySem.W.Fast.tw11374893230483226404 : True := True.intro
theorem PySem.W.Fast.tw7173405811223720971 : True := True.intro
theorem PySem.W.Fast.tw15830970194282450702 : True := True.intro
theorem PySem.W.Fast.tw779869805029647958 : True := True.intro
theorem PySem.W.Fast.tw15174294204640128273 : True := True.intro
theorem PySem.W.Fast.tw14433992255553918799 : True := True.intro
theorem PySem.W.Fast.tw7068466640744528234 : True := True.intro
theorem PySem.W.Fast.tw8658259565929498681 : True := True.intro
theorem PySem.W.Fast.tw3462043778492428260 : True := True.intro
theorem PySem.W.Fast.tw10107639745314070630 : True := True.intro
theorem PySem.W.Fast.tw9143275843853702786 : True := True.intro
theorem PySem.W.Fast.tw8389524154849846586 : True := True.intro
theorem PySem.W.Fast.tw265283741588641499 : True := True.intro
theorem PySem.W.Fast.tw889964344275503466 : True := True.intro
theorem PySem.W.Fast.tw9159768041663806437 : True := True.intro
theorem PySem.W.Fast.tw12966854912302648704 : True := True.intro
theorem PySem.W.Fast.tw1721256974594537501 : True := True.intro
theorem PySem.W.Fast.tw7296728510669673148 : True := True.intro
theorem PySem.W.Fast.tw4492962408071744469 : True := True.intro
theorem PySem.W.Fast.tw10281491018718720464 : True := True.intro
theorem PySem.W.Fast.tw13978675856895527855 : True := True.intro
theorem PySem.W.Fast.tw888503464790682595 : True := True.intro
theorem PySem.W.Fast.tw16247687108454974744 : True := True.intro
theorem PySem.W.Fast.tw14627292000316645219 : True := True.intro
theorem PySem.W.Fast.tw3607844223942432218 : True := True.intro
theorem PySem.W.Fast.tw3156270024935780216 : True := True.intro
theorem PySem.W.Fast.tw7353398385503069296 : True := True.intro
theorem PySem.W.Fast.tw6230642227100666970 : True := True.intro
theorem PySem.W.Fast.tw13165134464539628863 : True := True.intro
theorem PySem.W.Fast.tw14641614300022157013 : True := True.intro
theorem PySem.W.Fast.tw837009362707735381 : True := True.intro
theorem PySem.W.Fast.tw1225198163656586383 : True := True.intro
theorem PySem.W.Fast.tw5599289097149762187 : True := True.intro
theorem PySem.W.Fast.tw14586653111192348922 : True := True.intro
theorem PySem.W.Fast.tw8094937289500525060 : True := True.intro
theorem PySem.W.Fast.tw8015169838101368846 : True := True.intro
theorem PySem.W.Fast.tw7141516937510427293 : True := True.intro
theorem PySem.W.Fast.tw5545551079773696584 : True := True.intro
theorem PySem.W.Fast.tw169401973288869816 : True := True.intro
theorem PySem.W.Fast.tw13426373214022964755 : True := True.intro
theorem PySem.W.Fast.tw11599979261707996354 : True := True.intro
theorem PySem.W.Fast.tw5192502395010765654 : True := True.intro
theorem PySem.W.Fast.tw16818417786894377746 : True := True.intro
theorem PySem.W.Fast.tw16974940556120551808 : True := True.intro
theorem PySem.W.Fast.tw2825044180206992088 : True := True.intro
theorem PySem.W.Fast.tw17992616734976049876 : True := True.intro
theorem PySem.W.Fast.tw1939425692092190190 : True := True.intro
theorem PySem.W.Fast.tw13908280381213877664 : True := True.intro
theorem PySem.W.Fast.tw5659507627257642912 : True := True.intro
theorem PySem.W.Fast.tw3085687777508519929 : True := True.intro
theorem PySem.W.Fast.tw9676546422370285851 : True := True.intro
theorem PySem.W.Fast.tw4127650055107775987 : True := True.intro
theorem PySem.W.Fast.tw16924603620388964243 : True := True.intro
theorem PySem.W.Fast.tw10426594388031543872 : True := True.intro
theorem PySem.W.Fast.tw15803982346592454279 : True := True.intro
theorem PySem.W.Fast.tw17157672846331733682 : True := True.intro
theorem PySem.W.Fast.tw8207161558506096939 : True := True.intro
theorem PySem.W.Fast.tw4893603197895048472 : True := True.intro
theorem PySem.W.Fast.tw2881955089460176668 : True := True.intro
theorem PySem.W.Fast.tw7488800702667522357 : True := True.intro
theorem PySem.W.Fast.tw967090801005751492 : True := True.intro
theorem PySem.W.Fast.tw16113194275379061475 : True := True.intro
theorem PySem.W.Fast.tw6087976158295111857 : True := True.intro
theorem PySem.W.Fast.tw3891114023611865782 : True := True.intro
theorem PySem.W.Fast.tw12320806151898276447 : True := True.intro
theorem PySem.W.Fast.tw9870940120998721492 : True := True.intro
theorem PySem.W.Fast.tw18205788917200448269 : True := True.intro
theorem PySem.W.Fast.tw7433242078826542152 : True := True.intro
theorem PySem.W.Fast.tw11730429094087422644 : True := True.intro
theorem PySem.W.Fast.tw1649713324264629187 : True := True.intro
theorem PySem.W.Fast.tw7253506995678065173 : True := True.intro
theorem PySem.W.Fast.tw17519768798997013779 : True := True.intro
theorem PySem.W.Fast.tw5618290365485456335 : True := True.intro
theorem PySem.W.Fast.tw18101391596741134743 : True := True.intro
theorem PySem.W.Fast.tw15065138618447387879 : True := True.intro
theorem PySem.W.Fast.tw16220792015303096162 : True := True.intro
theorem PySem.W.Fast.tw14378722620460710104 : True := True.intro
theorem PySem.W.Fast.tw2850687223579841440 : True := True.intro
theorem PySem.W.Fast.tw15545248738761536052 : True := True.intro
theorem PySem.W.Fast.tw7532117173039881949 : True := True.intro
theorem PySem.W.Fast.tw16580340053741855852 : True := True.intro
theorem PySem.W.Fast.tw5721631884340998935 : True := True.intro
theorem PySem.W.Fast.tw6678732139095647751 : True := True.intro
theorem PySem.W.Fast.tw6017243709984901581 : True := True.intro
theorem PySem.W.Fast.tw9124242812384375770 : True := True.intro
theorem PySem.W.Fast.tw18263141724973879007 : True := True.intro
theorem PySem.W.Fast.tw11848710303283241412 : True := True.intro
theorem PySem.W.Fast.tw16727829824398312879 : True := True.intro
theorem PySem.W.Fast.tw623967186707298734 : True := True.intro
theorem PySem.W.Fast.tw6168505496760848588 : True := True.intro
theorem PySem.W.Fast.tw11436012280750243393 : True := True.intro
theorem PySem.W.Fast.tw6020153429462579683 : True := True.intro
theorem PySem.W.Fast.tw15444621946066326181 : True := True.intro
theorem PySem.W.Fast.tw17609407244064255334 : True := True.intro
theorem PySem.W.Fast.tw17263697181857895094 : True := True.intro
theorem PySem.W.Fast.tw9644729968153353164 : True := True.intro
theorem PySem.W.Fast.tw9997428975979425888 : True := True.intro
theorem PySem.W.Fast.tw5224069736054129533 : True := True.intro
theorem PySem.W.Fast.tw16901026209220425200 : True := True.intro
theorem PySem.W.Fast.tw12554058297532598835 : True := True.intro
theorem PySem.W.Fast.tw11000312348822319337 : True := True.intro
theorem PySem.W.Fast.tw14160501635568835046 : True := True.intro
theorem PySem.W.Fast.tw2774607304027337850 : True := True.intro
theorem PySem.W.Fast.tw16688220012625227215 : True := True.intro
theorem PySem.W.Fast.tw12280190847919580454 : True := True.intro
theorem PySem.W.Fast.tw10441587874707488876 : True := True.intro
theorem PySem.W.Fast.tw16891779399007548690 : True := True.intro
theorem PySem.W.Fast.tw10310099734221451299 : True := True.intro
theorem PySem.W.Fast.tw6242643509504501303 : True := True.intro
theorem PySem.W.Fast.tw5101649212108436645 : True := True.intro
theorem PySem.W.Fast.tw12214449273995530205 : True := True.intro
theorem PySem.W.Fast.tw4778036293995391913 : True := True.intro
theorem PySem.W.Fast.tw6209168862644907123 : True := True.intro
theorem PySem.W.Fast.tw8149519768177995488 : True := True.intro
theorem PySem.W.Fast.tw2815337873752217952 : True := True.intro
theorem PySem.W.Fast.tw2024442030345933727 : True := True.intro
theorem PySem.W.Fast.tw15888114319699629303 : True := True.intro
theorem PySem.W.Fast.tw5706569723446168414 : True := True.intro
theorem PySem.W.Fast.tw1875429169164379539 : True := True.intro
theorem PySem.W.Fast.tw18051236468681228182 : True := True.intro
theorem PySem.W.Fast.tw3901295758373647294 : True := True.intro
theorem PySem.W.Fast.tw5007197328595320286 : True := True.intro
theorem PySem.W.Fast.tw12635183540949351103 : True := True.intro
theorem PySem.W.Fast.tw740396314484289639 : True := True.intro
theorem PySem.W.Fast.tw6591794870521421963 : True := True.intro
theorem PySem.W.Fast.tw11369837670477474032 : True := True.intro
theorem PySem.W.Fast.tw12899172537444928104 : True := True.intro
theorem PySem.W.Fast.tw8740479170632829793 : True := True.intro
theorem PySem.W.Fast.tw13308472449650095607 : True := True.intro
theorem PySem.W.Fast.tw14165362860669871550 : True := True.intro
theorem PySem.W.Fast.tw1423084937739622846 : True := True.intro
theorem PySem.W.Fast.tw11236362185047306376 : True := True.intro
theorem PySem.W.Fast.tw15487315696006759214 : True := True.intro
theorem PySem.W.Fast.tw848978772545140874 : True := True.intro
theorem PySem.W.Fast.tw8161774753913129073 : True := True.intro
theorem PySem.W.Fast.tw5184662018154738164 : True := True.intro
theorem PySem.W.Fast.tw12589266248001973412 : True := True.intro
theorem PySem.W.Fast.tw10168792315189304302 : True := True.intro
theorem PySem.W.Fast.tw14664919615038699141 : True := True.intro
theorem PySem.W.Fast.tw494714944914104777 : True := True.intro
theorem PySem.W.Fast.tw7543462965353725339 : True := True.intro
theorem PySem.W.Fast.tw1928197030264035094 : True := True.intro
theorem PySem.W.Fast.tw12407037765841685317 : True := True.intro
theorem PySem.W.Fast.tw17548111210060345199 : True := True.intro
theorem PySem.W.Fast.tw13443318292929435836 : True := True.intro
theorem PySem.W.Fast.tw2750067341708586321 : True := True.intro
theorem PySem.W.Fast.tw8885534482970220863 : True := True.intro
theorem PySem.W.Fast.tw8359575879107456219 : True := True.intro
theorem PySem.W.Fast.tw9547966810369338963 : True := True.intro
theorem PySem.W.Fast.tw10614802020713643531 : True := True.intro
theorem PySem.W.Fast.tw1293334575282638004 : True := True.intro
theorem PySem.W.Fast.tw12305412411232734594 : True := True.intro
theorem PySem.W.Fast.tw7602217974408512814 : True := True.intro
theorem PySem.W.Fast.tw6035656258041724002 : True := True.intro
theorem PySem.W.Fast.tw11823323728854387298 : True := True.intro
theorem PySem.W.Fast.tw7751313362521079338 : True := True.intro
theorem PySem.W.Fast.tw17523396652252118384 : True := True.intro
theorem PySem.W.Fast.tw11510759420526027945 : True := True.intro
theorem PySem.W.Fast.tw10213137224417897477 : True := True.intro
theorem PySem.W.Fast.tw6620397774503262194 : True := True.intro
theorem PySem.W.Fast.tw5952290806813477536 : True := True.intro
theorem PySem.W.Fast.tw5883212702744287127 : True := True.intro
theorem PySem.W.Fast.tw11490010807437414558 : True := True.intro
theorem PySem.W.Fast.tw8570159149459159184 : True := True.intro
theorem PySem.W.Fast.tw11631389611596338837 : True := True.intro
theorem PySem.W.Fast.tw9536724273910599163 : True := True.intro
theorem PySem.W.Fast.tw13328988558730448782 : True := True.intro
theorem PySem.W.Fast.tw10370475670536457266 : True := True.intro
theorem PySem.W.Fast.tw6290497149861173649 : True := True.intro
theorem PySem.W.Fast.tw11702685900167797525 : True := True.intro
theorem PySem.W.Fast.tw10314395114211042197 : True := True.intro
theorem PySem.W.Fast.tw14740451405459392640 : True := True.intro
theorem PySem.W.Fast.tw11528880325594514902 : True := True.intro
theorem PySem.W.Fast.tw6724819181253233341 : True := True.intro
theorem PySem.W.Fast.tw16255096978603874451 : True := True.intro
theorem PySem.W.Fast.tw15498844735370131223 : True := True.intro
theorem PySem.W.Fast.tw17628222418340117911 : True := True.intro
theorem PySem.W.Fast.tw15780407568335603384 : True := True.intro
theorem PySem.W.Fast.tw18359273465589352062 : True := True.intro
theorem PySem.W.Fast.tw18394524597663304264 : True := True.intro
theorem PySem.W.Fast.tw17743669739049841602 : True := True.intro
theorem PySem.W.Fast.tw17184118061619561437 : True := True.intro
theorem PySem.W.Fast.tw8827952797982040442 : True := True.intro
theorem PySem.W.Fast.tw9196200992386823221 : True := True.intro
theorem PySem.W.Fast.tw5927822110430402484 : True := True.intro
theorem PySem.W.Fast.tw3597902202559026208 : True := True.intro
theorem PySem.W.Fast.tw16186732156006294134 : True := True.intro
theorem PySem.W.Fast.tw11515926242774192598 : True := True.intro
theorem PySem.W.Fast.tw8064090801939705529 : True := True.intro
theorem PySem.W.Fast.tw9607255269780323366 : True := True.intro
theorem PySem.W.Fast.tw5716676768801505976 : True := True.intro
theorem PySem.W.Fast.tw13503464154375504566 : True := True.intro
theorem PySem.W.Fast.tw1559469980819633541 : True := True.intro
theorem PySem.W.Fast.tw14404231535758861686 : True := True.intro
theorem PySem.W.Fast.tw11395051920235765331 : True := True.intro
theorem PySem.W.Fast.tw5052231111114376334 : True := True.intro
theorem PySem.W.Fast.tw4380714876069175474 : True := True.intro
theorem PySem.W.Fast.tw17307482746682197426 : True := True.intro
theorem PySem.W.Fast.tw17864010604370406073 : True := True.intro
theorem PySem.W.Fast.tw2231670882384416471 : True := True.intro
theorem PySem.W.Fast.tw17293369238665355749 : True := True.intro
theorem PySem.W.Fast.tw1004206604358569456 : True := True.intro
theorem PySem.W.Fast.tw9762125032064207250 : True := True.intro
theorem PySem.W.Fast.tw2261987085318491904 : True := True.intro
theorem PySem.W.Fast.tw7231855651962690542 : True := True.intro
theorem PySem.W.Fast.tw2055475112336765984 : True := True.intro
theorem PySem.W.Fast.tw3219198663955746709 : True := True.intro
theorem PySem.W.Fast.tw52397099564046013 : True := True.intro
theorem PySem.W.Fast.tw3514594902610382874 : True := True.intro
theorem PySem.W.Fast.tw7943157966479928159 : True := True.intro
theorem PySem.W.Fast.tw12251458570511877579 : True := True.intro
theorem PySem.W.Fast.tw2949555951912849041 : True := True.intro
theorem PySem.W.Fast.tw12775310248778185393 : True := True.intro
theorem PySem.W.Fast.tw10293556163790016599 : True := True.intro
theorem PySem.W.Fast.tw6657021471285558212 : True := True.intro
theorem PySem.W.Fast.tw16024208188293899955 : True := True.intro
theorem PySem.W.Fast.tw4929852316965609416 : True := True.intro
theorem PySem.W.Fast.tw15965777115721899032 : True := True.intro
theorem PySem.W.Fast.tw13626761490040666638 : True := True.intro
theorem PySem.W.Fast.tw8361752848335506469 : True := True.intro
theorem PySem.W.Fast.tw9972742830656414160 : True := True.intro
theorem PySem.W.Fast.tw5449222819872802487 : True := True.intro
theorem PySem.W.Fast.tw11321309234154707804 : True := True.intro
theorem PySem.W.Fast.tw13132457898300302343 : True := True.intro
theorem PySem.W.Fast.tw10107263109768470652 : True := True.intro
theorem PySem.W.Fast.tw17514113754011681982 : True := True.intro
theorem PySem.W.Fast.tw7109985397248475433 : True := True.intro
theorem PySem.W.Fast.tw307075634880925438 : True := True.intro
theorem PySem.W.Fast.tw3998760161130997503 : True := True.intro
theorem PySem.W.Fast.tw6635833271727918662 : True := True.intro
theorem PySem.W.Fast.tw1212744603353689195 : True := True.intro
theorem PySem.W.Fast.tw6766373896488898857 : True := True.intro
theorem PySem.W.Fast.tw4769073025481402277 : True := True.intro
theorem PySem.W.Fast.tw3988825047548519888 : True := True.intro
theorem PySem.W.Fast.tw13295666362783553720 : True := True.intro
theorem PySem.W.Fast.tw5996674558704550268 : True := True.intro
theorem PySem.W.Fast.tw10398336502956723534 : True := True.intro
theorem PySem.W.Fast.tw123108426159056683 : True := True.intro
theorem PySem.W.Fast.tw13663168531687003248 : True := True.intro
theorem PySem.W.Fast.tw10213753105199313796 : True := True.intro
theorem PySem.W.Fast.tw3685405673336949397 : True := True.intro
theorem PySem.W.Fast.tw11780842867276365671 : True := True.intro
theorem PySem.W.Fast.tw4836476393323607781 : True := True.intro
theorem PySem.W.Fast.tw11386497000373883449 : True := True.intro
theorem PySem.W.Fast.tw11982837533700331794 : True := True.intro
theorem PySem.W.Fast.tw7623431083919421928 : True := True.intro
theorem PySem.W.Fast.tw4362208201244961151 : True := True.intro
theorem PySem.W.Fast.tw10646875921293936388 : True := True.intro
theorem PySem.W.Fast.tw16417750789882044672 : True := True.intro
theorem PySem.W.Fast.tw11871055681874463085 : True := True.intro
theorem PySem.W.Fast.tw17410724356587462544 : True := True.intro
theorem PySem.W.Fast.tw1297259140877764747 : True := True.intro
theorem PySem.W.Fast.tw6179939053149849183 : True := True.intro
theorem PySem.W.Fast.tw5766856184706504973 : True := True.intro
theorem PySem.W.Fast.tw16290076510811121362 : True := True.intro
theorem PySem.W.Fast.tw15756941336570132329 : True := True.intro
theorem PySem.W.Fast.tw10799172621153613873 : True := True.intro
theorem PySem.W.Fast.tw9248504954092967436 : True := True.intro
theorem PySem.W.Fast.tw4383541153042952642 : True := True.intro
theorem PySem.W.Fast.tw10860318992970824855 : True := True.intro
theorem PySem.W.Fast.tw10971705312315483721 : True := True.intro
theorem PySem.W.Fast.tw14675220987828335780 : True := True.intro
theorem PySem.W.Fast.tw17013332331938775324 : True := True.intro
theorem PySem.W.Fast.tw17354203527643964707 : True := True.intro
theorem PySem.W.Fast.tw9673681135820335733 : True := True.intro
theorem PySem.W.Fast.tw3354866661357233334 : True := True.intro
theorem PySem.W.Fast.tw17644889045363892021 : True := True.intro
theorem PySem.W.Fast.tw17101544477765748125 : True := True.intro
theorem PySem.W.Fast.tw18307341686444143892 : True := True.intro
theorem PySem.W.Fast.tw3065533380003757219 : True := True.intro
theorem PySem.W.Fast.tw3574202864703527583 : True := True.intro
theorem PySem.W.Fast.tw11465173385018494623 : True := True.intro
theorem PySem.W.Fast.tw279478682551268347 : True := True.intro
theorem PySem.W.Fast.tw13107992079051602845 : True := True.intro
theorem PySem.W.Fast.tw12305256932299614345 : True := True.intro
theorem PySem.W.Fast.tw9008668413294103226 : True := True.intro
theorem PySem.W.Fast.tw13640811160905015821 : True := True.intro
theorem PySem.W.Fast.tw6549941192952449262 : True := True.intro
theorem PySem.W.Fast.tw6741076084620171640 : True := True.intro
theorem PySem.W.Fast.tw4325999294711530528 : True := True.intro
theorem PySem.W.Fast.tw15034244095778009069 : True := True.intro
theorem PySem.W.Fast.tw14581325499334079934 : True := True.intro
theorem PySem.W.Fast.tw1144887765649026453 : True := True.intro
theorem PySem.W.Fast.tw12560719026685969063 : True := True.intro
theorem PySem.W.Fast.tw7739482021467400750 : True := True.intro
theorem PySem.W.Fast.tw3201568264385135444 : True := True.intro
theorem PySem.W.Fast.tw13153470942691661000 : True := True.intro
theorem PySem.W.Fast.tw1474985695655055292 : True := True.intro
theorem PySem.W.Fast.tw18076800856824184497 : True := True.intro
theorem PySem.W.Fast.tw5711476611227295703 : True := True.intro
theorem PySem.W.Fast.tw4726322755527738812 : True := True.intro
theorem PySem.W.Fast.tw89067833060955404 : True := True.intro
theorem PySem.W.Fast.tw2847373374941155688 : True := True.intro
theorem PySem.W.Fast.tw4567784194104512689 : True := True.intro
theorem PySem.W.Fast.tw1385186019973944377 : True := True.intro
theorem PySem.W.Fast.tw5700524176515548749 : True := True.intro
theorem PySem.W.Fast.tw14716830979627459617 : True := True.intro
theorem PySem.W.Fast.tw12252930756463624353 : True := True.intro
theorem PySem.W.Fast.tw15375953910071992544 : True := True.intro
theorem PySem.W.Fast.tw8911829114930245964 : True := True.intro
theorem PySem.W.Fast.tw13374927981005908537 : True := True.intro
theorem PySem.W.Fast.tw18266740182215957142 : True := True.intro
theorem PySem.W.Fast.tw11688750689868175709 : True := True.intro
theorem PySem.W.Fast.tw15886789671480320057 : True := True.intro
theorem PySem.W.Fast.tw11380822956240571840 : True := True.intro
theorem PySem.W.Fast.tw4906255211438047750 : True := True.intro
theorem PySem.W.Fast.tw14046349995526913779 : True := True.intro
theorem PySem.W.Fast.tw5747736712547222484 : True := True.intro
theorem PySem.W.Fast.tw7793927485367847521 : True := True.intro
theorem PySem.W.Fast.tw10949900975482383551 : True := True.intro
theorem PySem.W.Fast.tw604317158534420991 : True := True.intro
theorem PySem.W.Fast.tw9487390719057926817 : True := True.intro
theorem PySem.W.Fast.tw8839161096606089893 : True := True.intro
theorem PySem.W.Fast.tw5532468623896306648 : True := True.intro
theorem PySem.W.Fast.tw6145804518580327216 : True := True.intro
theorem PySem.W.Fast.tw10534478245021957219 : True := True.intro
theorem PySem.W.Fast.tw1322253861295637042 : True := True.intro
theorem PySem.W.Fast.tw3649975348585313155 : True := True.intro
theorem PySem.W.Fast.tw17415461409528072058 : True := True.intro
theorem PySem.W.Fast.tw145738764931989052 : True := True.intro
theorem PySem.W.Fast.tw9885903931108253998 : True := True.intro
theorem PySem.W.Fast.tw7396779788225343426 : True := True.intro
theorem PySem.W.Fast.tw1194486430093911090 : True := True.intro
theorem PySem.W.Fast.tw9168156349967475330 : True := True.intro
theorem PySem.W.Fast.tw4442288390776546123 : True := True.intro
theorem PySem.W.Fast.tw16922315485386659669 : True := True.intro
theorem PySem.W.Fast.tw10396774764367826692 : True := True.intro
theorem PySem.W.Fast.tw15392234131055058170 : True := True.intro
theorem PySem.W.Fast.tw16066361123717588925 : True := True.intro
theorem PySem.W.Fast.tw16165646246019992706 : True := True.intro
theorem PySem.W.Fast.tw8389736267718935530 : True := True.intro
theorem PySem.W.Fast.tw7603337083119916923 : True := True.intro
theorem PySem.W.Fast.tw4336634834050327988 : True := True.intro
theorem PySem.W.Fast.tw9529192977559134657 : True := True.intro
theorem PySem.W.Fast.tw15076041574562897925 : True := True.intro
theorem PySem.W.Fast.tw16008644498893749860 : True := True.intro
theorem PySem.W.Fast.tw5110135821514288388 : True := True.intro
theorem PySem.W.Fast.tw3206872784151565794 : True := True.intro
theorem PySem.W.Fast.tw3143826048049513970 : True := True.intro
theorem PySem.W.Fast.tw9685475364404423030 : True := True.intro
theorem PySem.W.Fast.tw11855926066991428388 : True := True.intro
theorem PySem.W.Fast.tw9838770207837076474 : True := True.intro
theorem PySem.W.Fast.tw15344761229300625321 : True := True.intro
theorem PySem.W.Fast.tw1819327685580518603 : True := True.intro
theorem PySem.W.Fast.tw6039986111757569865 : True := True.intro
theorem PySem.W.Fast.tw6544750268858006014 : True := True.intro
theorem PySem.W.Fast.tw5713352207133770276 : True := True.intro
theorem PySem.W.Fast.tw9107550353805535635 : True := True.intro
theorem PySem.W.Fast.tw8173315882649548119 : True := True.intro
theorem PySem.W.Fast.tw7322862642400467265 : True := True.intro
theorem PySem.W.Fast.tw15560540892878460338 : True := True.intro
theorem PySem.W.Fast.tw15516566940357509370 : True := True.intro
theorem PySem.W.Fast.tw14942219539854001631 : True := True.intro
theorem PySem.W.Fast.tw8862998182873454948 : True := True.intro
theorem PySem.W.Fast.tw11828598114227125859 : True := True.intro
theorem PySem.W.Fast.tw17867408968757120066 : True := True.intro
theorem PySem.W.Fast.tw10418052842641373552 : True := True.intro
theorem PySem.W.Fast.tw94728803329467204 : True := True.intro
theorem PySem.W.Fast.tw5292469540776116238 : True := True.intro
theorem PySem.W.Fast.tw9562960229721038548 : True := True.intro
theorem PySem.W.Fast.tw431231205830253474 : True := True.intro
theorem PySem.W.Fast.tw5322981178119342720 : True := True.intro
theorem PySem.W.Fast.tw13671674484972574536 : True := True.intro
theorem PySem.W.Fast.tw14829695618727293393 : True := True.intro
theorem PySem.W.Fast.tw5245201743906070729 : True := True.intro
theorem PySem.W.Fast.tw14215624017022687791 : True := True.intro
theorem PySem.W.Fast.tw47979100452399494 : True := True.intro
theorem PySem.W.Fast.tw8783424391768024916 : True := True.intro
theorem PySem.W.Fast.tw183031831526697068 : True := True.intro
theorem PySem.W.Fast.tw5844516144279517776 : True := True.intro
theorem PySem.W.Fast.tw15902429799494871974 : True := True.intro
theorem PySem.W.Fast.tw13468636030955686515 : True := True.intro
theorem PySem.W.Fast.tw16137426494789105903 : True := True.intro
theorem PySem.W.Fast.tw11438760894908325568 : True := True.intro
theorem PySem.W.Fast.tw5061229169263712919 : True := True.intro
theorem PySem.W.Fast.tw15410448436191574381 : True := True.intro
theorem PySem.W.Fast.tw16631520274209816801 : True := True.intro
theorem PySem.W.Fast.tw4597025814667490940 : True := True.intro
theorem PySem.W.Fast.tw3894411560233994976 : True := True.intro
theorem PySem.W.Fast.tw3552331899493840293 : True := True.intro
theorem PySem.W.Fast.tw14749663065238113336 : True := True.intro
theorem PySem.W.Fast.tw3704314517775204551 : True := True.intro
theorem PySem.W.Fast.tw9029260217838315719 : True := True.intro
theorem PySem.W.Fast.tw1146507089372848678 : True := True.intro
theorem PySem.W.Fast.tw11875678420960820959 : True := True.intro
theorem PySem.W.Fast.tw2594674701237516589 : True := True.intro
theorem PySem.W.Fast.tw8311785156761677589 : True := True.intro
theorem PySem.W.Fast.tw8658925029853904059 : True := True.intro
theorem PySem.W.Fast.tw17026335424381028879 : True := True.intro
theorem PySem.W.Fast.tw2282763507755660677 : True := True.intro
theorem PySem.W.Fast.tw11040444235260777774 : True := True.intro
theorem PySem.W.Fast.tw3030472304346427454 : True := True.intro
theorem PySem.W.Fast.tw3789424458219544375 : True := True.intro
theorem PySem.W.Fast.tw10446653048619463588 : True := True.intro
theorem PySem.W.Fast.tw16646526911852870107 : True := True.intro
theorem PySem.W.Fast.tw4718632894469368437 : True := True.intro
theorem PySem.W.Fast.tw4771383180783979603 : True := True.intro
theorem PySem.W.Fast.tw2442245797770305246 : True := True.intro
theorem PySem.W.Fast.tw12034891730652410693 : True := True.intro
theorem PySem.W.Fast.tw13198138455889116084 : True := True.intro
theorem PySem.W.Fast.tw1530779292126643345 : True := True.intro
theorem PySem.W.Fast.tw7702767005754488756 : True := True.intro
theorem PySem.W.Fast.tw12714590852754294390 : True := True.intro
theorem PySem.W.Fast.tw3809293669501485437 : True := True.intro
theorem PySem.W.Fast.tw18389921194150489617 : True := True.intro
theorem PySem.W.Fast.tw5659226228480522423 : True := True.intro
theorem PySem.W.Fast.tw4055624979474017467 : True := True.intro
theorem PySem.W.Fast.tw4384921545372264745 : True := True.intro
theorem PySem.W.Fast.tw11398363562533590933 : True := True.intro
theorem PySem.W.Fast.tw15527369497773604460 : True := True.intro
theorem PySem.W.Fast.tw10805024706878766620 : True := True.intro
theorem PySem.W.Fast.tw15746496581629222644 : True := True.intro
theorem PySem.W.Fast.tw17312182391318174128 : True := True.intro
theorem PySem.W.Fast.tw18095001047418548177 : True := True.intro
theorem PySem.W.Fast.tw15084182300165021456 : True := True.intro
theorem PySem.W.Fast.tw7666095600531143914 : True := True.intro
theorem PySem.W.Fast.tw3877945337777083590 : True := True.intro
theorem PySem.W.Fast.tw523244006734000583 : True := True.intro
theorem PySem.W.Fast.tw6312883805055078215 : True := True.intro
theorem PySem.W.Fast.tw16579988719787813170 : True := True.intro
theorem PySem.W.Fast.tw14456377721925322448 : True := True.intro
theorem PySem.W.Fast.tw12436436553635255932 : True := True.intro
open PySem PySem.W PyProof.Rows
set_option maxRecDepth 100000 in
set_option maxHeartbeats 0 in
theorem PySem.Challenge.cw_sashiko_k48_cloths_that_show_holds : PySem.Challenge.rw_sashiko_k48_cloths_that_show.Holds := by
  w_on; o_law; k_head; (case hw => w_witness2)
  k_fill
  refine L2.walk_ofK (l := PySem.Challenge.rw_sashiko_k48_cloths_that_show) (n := 63) (k := 13) (x := "_law_script") (CX := L2.CX0) (sp := My.sp_law) rfl (by decide) rfl ⟨rfl, by decide, by decide⟩ (fun w h Y => PySem.W.kIn_of Y) ?F ?S ?C
  case F =>
    intro w mg fa h KX G hmg
    have T : ∃ t : My.Ad, My.Txt (L2.KOf KX) mg t ∧ (∀ (s : Shared) (v : Value), BindsTo s t.d_law ⟨[v], []⟩ [("_law_script", v)]) := by
      dsimp only [L2.KOf]
      refine' My.txt_mk KX G ?aC_Board ?ga_Board ?rd_Board ?aC_Cloth ?pg_Cloth ?hd_Cloth ?po_Cloth ?sa_Cloth ?mk_Cloth ?kc_Cloth ?na_columns_count ?na_rows_count ?na_col_bits ?na_row_bits ?na_first_colour ?aC_Finds ?pg_Finds ?hd_Finds ?po_Finds ?sa_Finds ?mk_Finds ?kc_Finds ?naF_columns_count ?naF_rows_count ?naF_facts ?naF_next_number ?naF_groups ?a_isnumber ?l_isnumber ?c_isnumber ?k_isnumber ?a_isbelow ?l_isbelow ?c_isbelow ?k_isbelow ?a_isbit ?l_isbit ?c_isbit ?k_isbit ?a_allbits ?l_allbits ?c_allbits ?k_allbits ?a_isside ?l_isside ?c_isside ?k_isside ?a_needcell ?l_needcell ?c_needcell ?k_needcell ?fc_BoardInit ?l_BoardInit ?c_BoardInit ?k_BoardInit ?a_ClothInit ?i_ClothInit ?l_ClothInit ?c_ClothInit ?k_ClothInit ?a_Clothwide ?i_Clothwide ?l_Clothwide ?c_Clothwide ?k_Clothwide ?a_Clothtall ?i_Clothtall ?l_Clothtall ?c_Clothtall ?k_Clothtall ?a_Clothbitsalong ?i_Clothbitsalong ?l_Clothbitsalong ?c_Clothbitsalong ?k_Clothbitsalong ?a_Clothbit ?i_Clothbit ?l_Clothbit ?c_Clothbit ?k_Clothbit ?a_Clothstitched ?i_Clothstitched ?l_Clothstitched ?c_Clothstitched ?k_Clothstitched ?a_Clothcolour ?i_Clothcolour ?l_Clothcolour ?c_Clothcolour ?k_Clothcolour ?a_shows ?l_shows ?c_shows ?k_shows ?a_cellstrips ?l_cellstrips ?c_cellstrips ?k_cellstrips ?a_linestrips ?l_linestrips ?c_linestrips ?k_linestrips ?a_factstrips ?l_factstrips ?c_factstrips ?k_factstrips ?a_factweight ?l_factweight ?c_factweight ?k_factweight ?a_lonegroups ?l_lonegroups ?c_lonegroups ?k_lonegroups ?a_weightbetween ?l_weightbetween ?c_weightbetween ?k_weightbetween ?a_tie ?l_tie ?c_tie ?k_tie ?a_groupsof ?l_groupsof ?c_groupsof ?k_groupsof ?a_FindsInit ?i_FindsInit ?l_FindsInit ?c_FindsInit ?k_FindsInit ?a_Findswide ?i_Findswide ?l_Findswide ?c_Findswide ?k_Findswide ?a_Findstall ?i_Findstall ?l_Findstall ?c_Findstall ?k_Findstall ?a_Findsneedline ?i_Findsneedline ?l_Findsneedline ?c_Findsneedline ?k_Findsneedline ?a_Findsneedfact ?i_Findsneedfact ?l_Findsneedfact ?c_Findsneedfact ?k_Findsneedfact ?a_Findsnote ?i_Findsnote ?l_Findsnote ?c_Findsnote ?k_Findsnote ?a_Findswithdraw ?i_Findswithdraw ?l_Findswithdraw ?c_Findswithdraw ?k_Findswithdraw ?a_Findsfits ?i_Findsfits ?l_Findsfits ?c_Findsfits ?k_Findsfits ?a_Ldraws ?l_Ldraws ?c_Ldraws ?k_Ldraws ?a_Lbits ?l_Lbits ?c_Lbits ?k_Lbits ?a_Lrow ?l_Lrow ?c_Lrow ?k_Lrow ?a_Lsmall ?l_Lsmall ?c_Lsmall ?k_Lsmall ?a_Lmade ?l_Lmade ?c_Lmade ?k_Lmade ?a_Lvalue ?l_Lvalue ?c_Lvalue ?k_Lvalue ?a_Lsewn ?l_Lsewn ?c_Lsewn ?k_Lsewn ?a_Lfact ?l_Lfact ?c_Lfact ?k_Lfact ?a_Lfilled ?l_Lfilled ?c_Lfilled ?k_Lfilled ?a_Lsame ?l_Lsame ?c_Lsame ?k_Lsame ?a_Lfalse ?l_Lfalse ?c_Lfalse ?k_Lfalse ?a_Lholds ?l_Lholds ?c_Lholds ?k_Lholds ?a_Lothers ?l_Lothers ?c_Lothers ?k_Lothers ?a_law ?l_law ?c_law ?k_law ?aX_BadSize ?aX_BadBit ?aX_NoCell ?aX_NoLine ?aX_NoStep ?aX_Known ?aX_NoFact ?x_BadSize ?x_BadBit ?x_NoCell ?x_NoLine ?x_NoStep ?x_Known ?x_NoFact ?v_LONGEST_SIDE ?z_isinstance ?z_int ?z_bool ?z_all ?z_len ?z_tuple ?z_list ?z_range ?z_abs ?z_sum ?z_min ?z_str ?z_zip ?z_ValueError
      (case aC_Board => k_is)
      (case ga_Board => k_is)
      (case rd_Board => k_is)
      (case aC_Cloth => k_is)
      (case pg_Cloth => k_is)
      (case hd_Cloth => k_is)
      (case po_Cloth => k_is)
      (case sa_Cloth => k_is)
      (case mk_Cloth => k_is)
      (case kc_Cloth => k_is)
      (case na_columns_count => k_is)
      (case na_rows_count => k_is)
      (case na_col_bits => k_is)
      (case na_row_bits => k_is)
      (case na_first_colour => k_is)
      (case aC_Finds => k_is)
      (case pg_Finds => k_is)
      (case hd_Finds => k_is)
      (case po_Finds => k_is)
      (case sa_Finds => k_is)
      (case mk_Finds => k_is)
      (case kc_Finds => k_is)
      (case naF_columns_count => k_is)
      (case naF_rows_count => k_is)
      (case naF_facts => k_is)
      (case naF_next_number => k_is)
      (case naF_groups => k_is)
      (case a_isnumber => k_is)
      (case l_isnumber => k_is)
      (case c_isnumber => k_is)
      (case k_isnumber => k_is)
      (case a_isbelow => k_is)
      (case l_isbelow => k_is)
      (case c_isbelow => k_is)
      (case k_isbelow => k_is)
      (case a_isbit => k_is)
      (case l_isbit => k_is)
      (case c_isbit => k_is)
      (case k_isbit => k_is)
      (case a_allbits => k_is)
      (case l_allbits => k_is)
      (case c_allbits => k_is)
      (case k_allbits => k_is)
      (case a_isside => k_is)
      (case l_isside => k_is)
      (case c_isside => k_is)
      (case k_isside => k_is)
      (case a_needcell => k_is)
      (case l_needcell => k_is)
      (case c_needcell => k_is)
      (case k_needcell => k_is)
      (case fc_BoardInit => k_is)
      (case l_BoardInit => k_is)
      (case c_BoardInit => k_is)
      (case k_BoardInit => k_is)
      (case a_ClothInit => k_is)
      (case i_ClothInit => k_is)
      (case l_ClothInit => k_is)
      (case c_ClothInit => k_is)
      (case k_ClothInit => k_is)
      (case a_Clothwide => k_is)
      (case i_Clothwide => k_is)
      (case l_Clothwide => k_is)
      (case c_Clothwide => k_is)
      (case k_Clothwide => k_is)
      (case a_Clothtall => k_is)
      (case i_Clothtall => k_is)
      (case l_Clothtall => k_is)
      (case c_Clothtall => k_is)
      (case k_Clothtall => k_is)
      (case a_Clothbitsalong => k_is)
      (case i_Clothbitsalong => k_is)
      (case l_Clothbitsalong => k_is)
      (case c_Clothbitsalong => k_is)
      (case k_Clothbitsalong => k_is)
      (case a_Clothbit => k_is)
      (case i_Clothbit => k_is)
      (case l_Clothbit => k_is)
      (case c_Clothbit => k_is)
      (case k_Clothbit => k_is)
      (case a_Clothstitched => k_is)
      (case i_Clothstitched => k_is)
      (case l_Clothstitched => k_is)
      (case c_Clothstitched => k_is)
      (case k_Clothstitched => k_is)
      (case a_Clothcolour => k_is)
      (case i_Clothcolour => k_is)
      (case l_Clothcolour => k_is)
      (case c_Clothcolour => k_is)
      (case k_Clothcolour => k_is)
      (case a_shows => k_is)
      (case l_shows => k_is)
      (case c_shows => k_is)
      (case k_shows => k_is)
      (case a_cellstrips => k_is)
      (case l_cellstrips => k_is)
      (case c_cellstrips => k_is)
      (case k_cellstrips => k_is)
      (case a_linestrips => k_is)
      (case l_linestrips => k_is)
      (case c_linestrips => k_is)
      (case k_linestrips => k_is)
      (case a_factstrips => k_is)
      (case l_factstrips => k_is)
      (case c_factstrips => k_is)
      (case k_factstrips => k_is)
      (case a_factweight => k_is)
      (case l_factweight => k_is)
      (case c_factweight => k_is)
      (case k_factweight => k_is)
      (case a_lonegroups => k_is)
      (case l_lonegroups => k_is)
      (case c_lonegroups => k_is)
      (case k_lonegroups => k_is)
      (case a_weightbetween => k_is)
      (case l_weightbetween => k_is)
      (case c_weightbetween => k_is)
      (case k_weightbetween => k_is)
      (case a_tie => k_is)
      (case l_tie => k_is)
      (case c_tie => k_is)
      (case k_tie => k_is)
      (case a_groupsof => k_is)
      (case l_groupsof => k_is)
      (case c_groupsof => k_is)
      (case k_groupsof => k_is)
      (case a_FindsInit => k_is)
      (case i_FindsInit => k_is)
      (case l_FindsInit => k_is)
      (case c_FindsInit => k_is)
      (case k_FindsInit => k_is)
      (case a_Findswide => k_is)
      (case i_Findswide => k_is)
      (case l_Findswide => k_is)
      (case c_Findswide => k_is)
      (case k_Findswide => k_is)
      (case a_Findstall => k_is)
      (case i_Findstall => k_is)
      (case l_Findstall => k_is)
      (case c_Findstall => k_is)
      (case k_Findstall => k_is)
      (case a_Findsneedline => k_is)
      (case i_Findsneedline => k_is)
      (case l_Findsneedline => k_is)
      (case c_Findsneedline => k_is)
      (case k_Findsneedline => k_is)
      (case a_Findsneedfact => k_is)
      (case i_Findsneedfact => k_is)
      (case l_Findsneedfact => k_is)
      (case c_Findsneedfact => k_is)
      (case k_Findsneedfact => k_is)
      (case a_Findsnote => k_is)
      (case i_Findsnote => k_is)
      (case l_Findsnote => k_is)
      (case c_Findsnote => k_is)
      (case k_Findsnote => k_is)
      (case a_Findswithdraw => k_is)
      (case i_Findswithdraw => k_is)
      (case l_Findswithdraw => k_is)
      (case c_Findswithdraw => k_is)
      (case k_Findswithdraw => k_is)
      (case a_Findsfits => k_is)
      (case i_Findsfits => k_is)
      (case l_Findsfits => k_is)
      (case c_Findsfits => k_is)
      (case k_Findsfits => k_is)
      (case a_Ldraws => k_is)
      (case l_Ldraws => k_is)
      (case c_Ldraws => k_is)
      (case k_Ldraws => k_is)
      (case a_Lbits => k_is)
      (case l_Lbits => k_is)
      (case c_Lbits => k_is)
      (case k_Lbits => k_is)
      (case a_Lrow => k_is)
      (case l_Lrow => k_is)
      (case c_Lrow => k_is)
      (case k_Lrow => k_is)
      (case a_Lsmall => k_is)
      (case l_Lsmall => k_is)
      (case c_Lsmall => k_is)
      (case k_Lsmall => k_is)
      (case a_Lmade => k_is)
      (case l_Lmade => k_is)
      (case c_Lmade => k_is)
      (case k_Lmade => k_is)
      (case a_Lvalue => k_is)
      (case l_Lvalue => k_is)
      (case c_Lvalue => k_is)
      (case k_Lvalue => k_is)
      (case a_Lsewn => k_is)
      (case l_Lsewn => k_is)
      (case c_Lsewn => k_is)
      (case k_Lsewn => k_is)
      (case a_Lfact => k_is)
      (case l_Lfact => k_is)
      (case c_Lfact => k_is)
      (case k_Lfact => k_is)
      (case a_Lfilled => k_is)
      (case l_Lfilled => k_is)
      (case c_Lfilled => k_is)
      (case k_Lfilled => k_is)
      (case a_Lsame => k_is)
      (case l_Lsame => k_is)
      (case c_Lsame => k_is)
      (case k_Lsame => k_is)
      (case a_Lfalse => k_is)
      (case l_Lfalse => k_is)
      (case c_Lfalse => k_is)
      (case k_Lfalse => k_is)
      (case a_Lholds => k_is)
      (case l_Lholds => k_is)
      (case c_Lholds => k_is)
      (case k_Lholds => k_is)
      (case a_Lothers => k_is)
      (case l_Lothers => k_is)
      (case c_Lothers => k_is)
      (case k_Lothers => k_is)
      (case a_law => k_is)
      (case l_law => k_is)
      (case c_law => k_is)
      (case k_law => k_is)
      (case aX_BadSize => k_is)
      (case aX_BadBit => k_is)
      (case aX_NoCell => k_is)
      (case aX_NoLine => k_is)
      (case aX_NoStep => k_is)
      (case aX_Known => k_is)
      (case aX_NoFact => k_is)
      (case x_BadSize => k_exc)
      (case x_BadBit => k_exc)
      (case x_NoCell => k_exc)
      (case x_NoLine => k_exc)
      (case x_NoStep => k_exc)
      (case x_Known => k_exc)
      (case x_NoFact => k_exc)
      (case v_LONGEST_SIDE => k_is)
      (case z_isinstance => k_is)
      (case z_int => k_is)
      (case z_bool => k_is)
      (case z_all => k_is)
      (case z_len => k_is)
      (case z_tuple => k_is)
      (case z_list => k_is)
      (case z_range => k_is)
      (case z_abs => k_is)
      (case z_sum => k_is)
      (case z_min => k_is)
      (case z_str => k_is)
      (case z_zip => k_is)
      (case z_ValueError => k_is)
    obtain ⟨t, T, hb⟩ := T
    have e0 := hmg.symm.trans T.mg_law
    cases e0
    exact ⟨t.d_law, hb, fun base _ _ => My.ok_law T⟩
  case S => exact fun K H a ns hl _ hS => ⟨a, ns, rfl, hS, hl, fun _ => rfl⟩
  case C => exact fun _ _ _ _ z => z

